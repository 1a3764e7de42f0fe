import Derived.Test.YtkagdmhijjfnnabDoorLs7
import Derived.Test.YtkagdmhijjfnnabDoorLs3
namespace Go.Proofs.YtkagdmhijjfnnabDoor
open Go.RowKit Bs
set_option linter.unusedVariables false
theorem ints_rd {w : World} {v : Value} {zs : List Int} (h : Ints w v zs) : ∃ a cap, v = .slice a zs.length cap ∧ Rd w a zs := by
  rcases h with ⟨a, cap, rfl, rfl⟩ | ⟨b, off, cap, rfl, hb, hc⟩
  · exact ⟨a, cap, rfl, Or.inl rfl⟩
  · exact ⟨_, cap, rfl, Or.inr ⟨b, off, rfl, hb, hc⟩⟩
def nine (k : Nat) : List Int := (List.range k).map fun j : Nat => (-7 - (j : Int))
theorem nine_next (k : Nat) : nine (k + 1) = nine k ++ [-7 - (k : Int)] := by
  unfold nine
  rw [List.range_succ, List.map_append]
  rfl
theorem nine_len (k : Nat) : (nine k).length = k := by simp [nine]
theorem oi_snoc {w : World} {base : Nat} {v : Value} {zs : List Int} {z : Int} (h : w.ownsRow base 3 1 v (zs.length + 1) (zs.map (Value.int .i64) ++ [.int .i64 z])) : OwnI w base v (zs ++ [z]) := by
  unfold OwnI
  rw [List.length_append, List.map_append]
  exact h
set_option maxRecDepth 100000 in
set_option maxHeartbeats 4000000 in
theorem lists_law (n : Nat) (vA vB vC : Value) (zA zB : List Int) (w : World) (ht : Tab w) (hn : n ≤ 65536) (iA : Ints w vA zA) (iB : Ints w vB zB) (rA : zA.length * 8 ≤ 140737488351232) (rB : zB.length * 8 ≤ 140737488351232) :
    Calls Tryd.prog 4 #[.agg #[.int .i64 n, vA, vB, vC]] w fun e w' => e = .returned (.bool true) ∧ Below w.heap.size w w' := by
  obtain ⟨i0, hi, hz0, hz1, hz2⟩ := info3
  obtain ⟨aA, cA, rfl, RA⟩ := ints_rd iA
  have HT := hid ht
  have HBB := hid iB
  have hn0 : 0 ≤ (n : Int) := by omega
  have hn1 : (n : Int) ≤ 65536 := by omega
  have HRB := hid rB
  have HRA := hid RA
  obtain ⟨L, hL⟩ : ∃ L, L = zA.length := ⟨_, rfl⟩
  have HL := hid hL
  rw [← hL] at rA ⊢
  clear ht iA iB rB RA hL
  go_enter Tryd.func4, Tryd.ntmps4
  go_wp2_with fail
  refine (begin_all n _ vB vC w HT.out).mono ?_
  rintro e w1 ⟨rfl, hx, hb1, hs1⟩
  have hx0 := hx.c0
  have hx1 := hx.c1
  have X1 := hid hx
  have B1 := hid hb1
  have S1 := hid hs1
  clear hx hb1 hs1
  go_wp2_with fail
  refine (sized_yes _ _ hn0 hn1).mono ?_
  rintro e w2 ⟨rfl, hww⟩
  subst hww
  have mk := make_cap w2 L (by omega)
  have O0 := hid (World.ownsRow_made (base := w2.heap.size) (size := 1) (e := 3) w2 (madeCells #[.int .i64 0] (L + 9)) (L + 9) (Nat.le_refl _) (by unfold maxLen; omega) (by simp [size_madeCells]))
  have B3 := hid (lowAlloc w2 (.cells (madeCells #[.int .i64 0] (L + 9)) 3))
  go_wp2_with fail
  clear mk
  have X3 := hid (X1.out.low B3.out)
  have l2 : w.heap.size < w2.heap.size := X1.out.lt
  generalize w2.alloc (.cells (madeCells #[.int .i64 0] (L + 9)) 3) = w3 at *
  go_loopw [3, 4] (fun v i wr => ∃ k : Nat, k ≤ L ∧ i = .int .i64 k ∧ Hid (OwnI wr w2.heap.size v (inU n zA k)) ∧ Hid (Below w2.heap.size w2 wr)) (fun _ i _ => L - (intOf i).toNat)
  case atStart => exact ⟨0, Nat.zero_le _, rfl, hid (by rw [inU_zero]; exact O0.out), B3⟩
  case round =>
    obtain ⟨k, hk, rfl, HO, HB⟩ := hrel
    have XW := hid (X1.out.low HB.out)
    have x0 := XW.out.c0
    have x1 := XW.out.c1
    by_cases hlt : k < L
    · have hi1 : k < zA.length := by rw [← HL.out]; exact hlt
      have g1 : (k : Int) < (L : Int) := by omega
      have g0 : (0 : Int) ≤ (k : Int) := by omega
      rcases HRA.out with h0 | ⟨b, off, rfl, hbl, hc⟩
      · omega
      have hcell := hc k hi1
      have hcw := ((B1.out.trans (HB.out.mono (Nat.le_of_lt l2))).cell (p := ⟨b, off + k, none⟩) hbl).trans hcell
      obtain ⟨z, hz⟩ : ∃ z, z = zA.getD k 0 := ⟨_, rfl⟩
      rw [← hz] at hcw
      have HZ := hid hz
      have HI1 := hid hi1
      clear hz hcell hi1 hc
      have hlen := inU_len n zA k
      by_cases h0 : 0 ≤ z
      · have d0 : decide (0 ≤ z) = true := decide_eq_true h0
        by_cases h1 : z < (n : Int)
        · have d1 : decide (z < (n : Int)) = true := decide_eq_true h1
          have Rw1 := hid (show Below w2.heap.size w2 (wr.drew.alloc (.cells #[.int .i64 z] 3)) from (HB.out.drew).alloc HB.out.drew.size _)
          have hsz := HB.out.size
          go_wp2_with fail
          go_region
          go_wp2_with (at_builtin; refine wpList_append_own _ rfl _ _ 22 rfl w2.heap.size 3 i0 (.int .i64 0) 1 8 Tryd.underlying22 hi hz0 hz1 hz2 rfl (by decide) _ _ _ rfl ((own_low HO.out (Below.refl _ _).drew).alloc _) ⟨wr.heap.size, 0, none⟩ 1 1 [.int .i64 z] rfl rfl (Ap.one_at _ _ _) ?c2 ?c3 ?c4 ?c5 ?_)
          case c2 => intro u hu; simp at hu; subst hu; rfl
          case c3 => unfold maxLen; omega
          case c4 => omega
          case c5 => simp; omega
          intro v' w9 hown' hgrow _
          have hK := inU_hit n zA k HI1.out (by rw [← HZ.out]; exact h0) (by rw [← HZ.out]; exact h1)
          have N1 := hid (show OwnI w9 w2.heap.size v' (inU n zA (k + 1)) by rw [hK, ← HZ.out]; exact oi_snoc hown')
          have N2 := hid (Rw1.out.grown hgrow (by simp; omega) (owns_block HO.out))
          clear hown' hgrow hK
          go_wp2_with fail
          exact ⟨⟨k + 1, by omega, by go_num, N1, N2⟩, by simp [intOf]; omega⟩
        · have d1 : decide (z < (n : Int)) = false := decide_eq_false h1
          have hK := inU_miss n zA k HI1.out (by rw [← HZ.out]; omega)
          have N1 := hid (own_low (zs := inU n zA (k + 1)) (owns_same hK HO.out) (Below.refl _ _).drew)
          have N2 := hid HB.out.drew
          go_wp2_with fail
          go_region
          go_wp2_with fail
          exact ⟨⟨k + 1, by omega, by go_num, N1, N2⟩, by simp [intOf]; omega⟩
      · have d0 : decide (0 ≤ z) = false := decide_eq_false h0
        have hK := inU_miss n zA k HI1.out (by rw [← HZ.out]; omega)
        have N1 := hid (own_low (zs := inU n zA (k + 1)) (owns_same hK HO.out) (Below.refl _ _).drew)
        have N2 := hid HB.out.drew
        go_wp2_with fail
        go_region
        go_wp2_with fail
        exact ⟨⟨k + 1, by omega, by go_num, N1, N2⟩, by simp [intOf]; omega⟩
    · obtain rfl : k = L := by omega
      have g1 : ¬ (k : Int) < (k : Int) := by omega
      have hlen := inU_len n zA k
      have HIN := hid (fun z (h : z ∈ inU n zA k) => inU_mem n zA k z h)
      generalize inU n zA k = fl at *
      obtain ⟨av, cv, hv⟩ := own_form HO.out
      subst hv
      have l3 := HB.out.size
      generalize hfl : fl.length = F at *
      have HFL := hid hfl
      clear hfl
      go_wp2_with fail
      generalize wr = w4 at *
      go_loopw [3, 6] (fun v i wr => ∃ k : Nat, k ≤ 9 ∧ i = .int .i64 k ∧ Hid (OwnI wr w2.heap.size v (fl ++ nine k)) ∧ Hid (Below w2.heap.size w2 wr)) (fun _ i _ => 9 - (intOf i).toNat)
      case atStart => exact ⟨0, Nat.zero_le _, rfl, hid (by rw [show nine 0 = [] from rfl, List.append_nil]; exact HO.out), HB⟩
      case round =>
        obtain ⟨j, hj, rfl, HO2, HB2⟩ := hrel
        by_cases hlt : j < 9
        · have g2 : (j : Int) < 9 := by omega
          have Rw1 := hid (show Below w2.heap.size w2 (wr.alloc (.cells #[.int .i64 (-7 - (j : Int))] 3)) from HB2.out.alloc HB2.out.size _)
          have hsz := HB2.out.size
          have HLL := hid (show (fl ++ nine j).length = F + j by rw [List.length_append, nine_len, HFL.out])
          generalize hQ : fl ++ nine j = Q at *
          have HQ := hid hQ
          clear hQ
          go_wp2_with (at_builtin; refine wpList_append_own _ rfl _ _ 22 rfl w2.heap.size 3 i0 (.int .i64 0) 1 8 Tryd.underlying22 hi hz0 hz1 hz2 rfl (by decide) _ _ _ rfl (World.ownsRow.alloc HO2.out _) ⟨wr.heap.size, 0, none⟩ 1 1 [.int .i64 (-7 - (j : Int))] rfl rfl (Ap.one_at _ _ _) ?c2 ?c3 ?c4 ?c5 ?_)
          case c2 => intro u hu; simp at hu; subst hu; rfl
          case c3 => have := HLL.out; unfold maxLen; omega
          case c4 => have := HLL.out; omega
          case c5 => simp; omega
          intro v' w9 hown' hgrow _
          have N1 := hid (show OwnI w9 w2.heap.size v' (fl ++ nine (j + 1)) by rw [nine_next, ← List.append_assoc, HQ.out]; exact oi_snoc hown')
          have N2 := hid (Rw1.out.grown hgrow (by simp; omega) (owns_block HO2.out))
          clear hown' hgrow
          go_wp2_with fail
          exact ⟨⟨j + 1, by omega, by go_num, N1, N2⟩, by simp [intOf]; omega⟩
        · obtain rfl : j = 9 := by omega
          have g2 : ¬ ((9 : Nat) : Int) < 9 := by omega
          have hll : (fl ++ nine 9).length = F + 9 := by rw [List.length_append, nine_len, HFL.out]
          have HTK := hid (show (fl ++ nine 9).take F = fl by rw [← HFL.out, List.take_left])
          generalize fl ++ nine 9 = gl at *
          rcases HO2.out.2 with ⟨e, hz⟩ | ⟨g, cp, cur, e, _, _, hcp, _⟩
          · omega
          subst e
          generalize hgl : gl.length = G at *
          have HGL := hid hgl
          clear hgl
          have HF := hid (show OwnI wr w2.heap.size (.slice (some ⟨g, 0, none⟩) G cp) gl from HO2.out)
          have lg := own_lt HF.out (g := g) rfl
          have hc : F ≤ cp := by omega
          have hG : G ≤ k + 9 := by omega
          have hFG : F ≤ G := by omega
          have HLL := hid hll
          clear hll
          have XW2 := hid (X1.out.low HB2.out)
          clear HO HB HO2 XW x0 x1 hx0 hx1 O0
          go_wp2_with fail
          refine (ints_own _ gl _ (holds_of_owns HF.out) (by have := HGL.out; omega)).mono ?_
          rintro e w5 ⟨v5, rfl, o5, b5⟩
          have HS5 := hid o5; have HF5 := hid (own_low HF.out b5); have HX5 := hid (XW2.out.low b5); have HB5 := hid (HB2.out.trans (b5.mono HB2.out.size))
          have z5 := b5.size
          clear o5 b5
          have HR5 := hid (fun W (hb : Below w5.heap.size w5 W) => show Holds W (.slice (some ⟨g, 0, none⟩) F cp) fl by
            have h1 := holds_of_owns (own_low HF5.out hb)
            rcases h1.ex with ⟨e, _⟩ | ⟨b', off', cap', e, hcc⟩
            · cases e
            · injection e with e1 e2 e3
              injection e1 with e1
              injection e1 with e1 e4 _
              subst e1 e4 e3
              have := holds_take hcc (k := F) (c := cp) (by have := HGL.out; omega)
              rw [HTK.out] at this
              exact this)
          have hfl9 : fl.length ≤ 9223372036854775807 := by rw [HFL.out]; omega
          have T0 := (HX5.out.drew).c0
          go_wp2_with fail
          go_region_held3 (fun W => W.cell? ⟨w.heap.size, 0, none⟩ = some (.int .i64 n))
            (first | exact T0 | exact T1)
            (first
              | (go_at_call 37; refine (from_any n _ fl _ hn hfl9 (HR5.out _ (Below.refl _ _).drew) HIN.out).mono ?_; rintro e w6 ⟨rfl, hs6, b6⟩; have T1 := (HX5.out.drew.low b6).c0; have HS6 := hid hs6; have B6 := hid b6; clear hs6 b6))
          clear T0 T1
          have D5 := hid (belowT (w := w5) ((Below.refl _ _).drew) B6.out)
          have HA6 := hid (show SetAt w6 (w5.heap.size + 1) w5.heap.size n (fun i => decide ((i : Int) ∈ fl)) from HS6.out)
          have HX6 := hid (HX5.out.low D5.out)
          have z6 := D5.out.size
          clear HS6 B6
          have T0 := (HX6.out.drew).c0
          go_wp2_with fail
          go_region_held3 (fun W => W.cell? ⟨w.heap.size, 0, none⟩ = some (.int .i64 n))
            (first | exact T0 | exact T1)
            (first
              | (go_at_call 37; refine (from_any n _ fl _ hn hfl9 (HR5.out _ (D5.out.drew)) HIN.out).mono ?_; rintro e w7 ⟨rfl, hs7, b7⟩; have T1 := (HX6.out.drew.low b7).c0; have HS7 := hid hs7; have B7 := hid b7; clear hs7 b7))
          clear T0 T1
          have D6 := hid (belowT (w := w6) ((Below.refl _ _).drew) B7.out)
          have HA7 := hid (HA6.out.low D6.out)
          have HC7 := hid (show SetAt w7 (w6.heap.size + 1) w6.heap.size n (fun i => decide ((i : Int) ∈ fl)) from HS7.out)
          have HX7 := hid (HX6.out.low D6.out)
          have HD7 := hid (D5.out.trans (D6.out.mono D5.out.size))
          have z7 := D6.out.size
          clear HS7 B7
          have x0 := HX7.out.c0
          have x2 := HX7.out.c2
          go_wp2_with fail
          have HD2 := hid (B1.out.trans ((HB5.out.trans (HD7.out.mono HB5.out.size)).mono (Nat.le_of_lt l2)))
          refine (of_new n vB zB _ hn HRB.out (HBB.out.low HD2.out)).mono ?_
          rintro e w8 ⟨p3, q3, rfl, f8⟩
          have h8p := f8.hp
          have h8q := f8.hq
          have HE8 := hid f8.at'
          have B8 := hid f8.low
          clear f8
          have hsz8 := B8.out.size
          have A8 := hid (lowAlloc w8 (.cells #[.pointer (some ⟨w5.heap.size + 1, 0, none⟩), .pointer (some ⟨w6.heap.size + 1, 0, none⟩), .pointer (some ⟨p3, 0, none⟩)] 27))
          have C8 := hid (belowT B8.out A8.out)
          have HE9 := hid (HE8.out.low A8.out)
          have HA9 := hid (HA7.out.low C8.out)
          have HC9 := hid (HC7.out.low C8.out)
          have HX9 := hid (HX7.out.low C8.out)
          have HD9 := hid (HD7.out.trans (C8.out.mono HD7.out.size))
          have HF9 := hid (own_low HF5.out HD9.out)
          have HS9 := hid (own_low HS5.out HD9.out)
          have HT9 := hid (HT.out.low (HD2.out.trans (C8.out.mono HD2.out.size)) HT.out.pos)
          have AL := hid (all_three w8 ⟨w5.heap.size + 1, 0, none⟩ ⟨w6.heap.size + 1, 0, none⟩ ⟨p3, 0, none⟩)
          have hsz9 : w8.heap.size < (w8.alloc (.cells #[.pointer (some ⟨w5.heap.size + 1, 0, none⟩), .pointer (some ⟨w6.heap.size + 1, 0, none⟩), .pointer (some ⟨p3, 0, none⟩)] 27)).heap.size := by simp
          go_wp2_with fail
          refine AL.out.mono ?_
          rintro e w9 ⟨rfl, hw9⟩
          rw [← hw9] at hsz9
          have HW9 := hid hw9
          have HE := hid (show SetAt w9 p3 q3 n (sOf n zB) by rw [hw9]; exact HE9.out)
          have HA := hid (show SetAt w9 (w5.heap.size + 1) w5.heap.size n (fun i => decide ((i : Int) ∈ fl)) by rw [hw9]; exact HA9.out)
          have HC := hid (show SetAt w9 (w6.heap.size + 1) w6.heap.size n (fun i => decide ((i : Int) ∈ fl)) by rw [hw9]; exact HC9.out)
          have HX := hid (show XAll w9 w.heap.size n (.slice aA k cA) vB vC by rw [hw9]; exact HX9.out)
          have HFF := hid (show OwnI w9 w2.heap.size (.slice (some ⟨g, 0, none⟩) G cp) gl by rw [hw9]; exact HF9.out)
          have HSS := hid (show OwnI w9 wr.heap.size v5 gl by rw [hw9]; exact HS9.out)
          have HTT := hid (show Tab w9 by rw [hw9]; exact HT9.out)
          have HDD := hid (show Below w5.heap.size w5 w9 by rw [hw9]; exact HD9.out)
          have HBW := hid (show Below w.heap.size w w9 by rw [hw9]; exact HD2.out.trans (C8.out.mono HD2.out.size))
          clear hw9 HW9 HE9 HA9 HC9 HX9 HF9 HS9 HT9 HD9 A8 C8 HE8 HA7 HC7 HX7 HD7 x0 x2 AL HA6 HX6 HX5
          have SL := hid (same_long _ _ _ _ gl w9 (by have := HGL.out; omega) (hl_own HFF.out) (hl_own HSS.out))
          go_wp2_with fail
          refine SL.out.mono ?_
          rintro e wa ⟨rfl, m, rfl⟩
          have Da := hid (belowDrewN (w := w9) m)
          have T0 := (HX.out.low Da.out).drew.c0
          have D0 := hid (show Below w9.heap.size w9 (w9.drewN m).drew from Da.out.drew)
          have SET := hid (fun W (hb : Below w9.heap.size w9 W) => set_any n (some ⟨g, 0, none⟩) cp fl W hn (by
            obtain ⟨a', c', e', rd⟩ := (HR5.out W (HDD.out.trans (hb.mono HDD.out.size))).rd
            injection e' with e1 _ _
            rw [e1]
            exact rd) hfl9 HIN.out)
          have MEM := hid (fun W (hb : Below w9.heap.size w9 W) => members_ow (p := p3) (q := q3) (n := n) (S := sOf n zB) W (HE.out.low hb) (HTT.out.low hb (by have := HTT.out.pos; omega)))
          rw [HFL.out] at SET
          go_wp2_with fail
          go_region_held3 (fun W => W.cell? ⟨w.heap.size, 0, none⟩ = some (.int .i64 n))
            (first | exact T0 | exact TT | exact TS | exact TR)
            (first
              | (go_at_call 40; refine (SET.out _ (by first | exact DT.out | exact D0.out)).mono ?_; rintro e wS ⟨vS, rfl, oS, bS⟩; have DS := hid (show Below w9.heap.size w9 wS from Below.trans (by first | exact DT.out | exact D0.out) (bS.mono (Below.size (by first | exact DT.out | exact D0.out)))); have OS := hid oS; have BS := hid bS; have TS := (HX.out.low DS.out).c0; clear oS bS)
              | (go_at_call 39; refine (dmembers n vS (msR n (fun i => decide ((i : Int) ∈ fl))) _ (by first | exact holds_of_owns (own_low OS.out BT.out) | exact holds_of_owns OS.out) (by rw [msR_len]; exact Nat.le_trans (card_le _ _) hn)).mono ?_; rintro e wR ⟨vR, rfl, oR, bR⟩; have DR := hid (show Below w9.heap.size w9 wR from Below.trans (by first | exact DT.out | exact DS.out) (bR.mono (Below.size (by first | exact DT.out | exact DS.out)))); have OR := hid oR; have BR := hid bR; have TR := (HX.out.low DR.out).c0; clear oR bR)
              | (go_at_call 23; refine (MEM.out _ (by first | exact DR.out | exact DS.out | exact D0.out)).mono ?_; rintro e wT ⟨vT, rfl, oT, bT⟩; have DT := hid (show Below w9.heap.size w9 wT from Below.trans (by first | exact DR.out | exact DS.out | exact D0.out) (bT.mono (Below.size (by first | exact DR.out | exact DS.out | exact D0.out)))); have OT := hid oT; have BT := hid bT; have TT := (HX.out.low DT.out).c0; clear oT bT))
          all_goals first
            | (have OW := hid (show OwnI wT w9.heap.size vR (msR n (fun i => decide ((i : Int) ∈ fl))) from own_mono (own_low OR.out BT.out) DS.out.size); have OO := hid (show OwnI wT w9.heap.size vT (msR n (sOf n zB)) from own_mono OT.out DR.out.size); have DZ := hid (show Below w9.heap.size w9 wT from DT.out); have NE := hid (show ∀ g, vR.ownBlock = some g → vT.ownBlock ≠ some g from fun g e e' => by have := own_lt OR.out e; have := own_lt OT.out e'; omega); clear OR OT OS BR BT DR DT DS TT TR TS; generalize wT = WZ at *)
            | (have OO := hid (show OwnI wR w9.heap.size vT (msR n (sOf n zB)) from own_mono (own_low OT.out BR.out) DS.out.size); have OW := hid (show OwnI wR w9.heap.size vR (msR n (fun i => decide ((i : Int) ∈ fl))) from own_mono OR.out DT.out.size); have DZ := hid (show Below w9.heap.size w9 wR from DR.out); have NE := hid (show ∀ g, vR.ownBlock = some g → vT.ownBlock ≠ some g from fun g e e' => by have := own_lt OR.out e; have := own_lt OT.out e'; omega); clear OR OT OS BR BT DR DT DS TT TR TS; generalize wR = WZ at *)
            | (have OO := hid (show OwnI wR w9.heap.size vT (msR n (sOf n zB)) from own_mono (own_low (own_low OT.out BS.out) BR.out) (by simp)); have OW := hid (show OwnI wR w9.heap.size vR (msR n (fun i => decide ((i : Int) ∈ fl))) from own_mono OR.out DS.out.size); have DZ := hid (show Below w9.heap.size w9 wR from DR.out); have NE := hid (show ∀ g, vR.ownBlock = some g → vT.ownBlock ≠ some g from fun g e e' => by have := own_lt OR.out e; have := own_lt OT.out e'; have := BS.out.size; omega); clear OR OT OS BR BT DR DT DS TT TR TS; generalize wR = WZ at *)
          have hz := DZ.out.size
          have bW := hid (bd_of OW.out)
          have bO := hid (bd_of OO.out)
          have HAZ := hid (HA.out.low DZ.out)
          have HCZ := hid (HC.out.low DZ.out)
          have HEZ := hid (HE.out.low DZ.out)
          have HXZ := hid (HX.out.low DZ.out)
          have HFZ := hid (own_low HFF.out DZ.out)
          have HBZ := hid (HBW.out.trans (DZ.out.mono HBW.out.size))
          have y1 := HA.out.plt
          have y2 := HC.out.plt
          have y3 := HE.out.plt
          have y4 := HE.out.qlt
          clear HA HC HE HX HFF HSS SL SET MEM D0 Da HR5 HDD T0 HF5 HS5 HB5 HTT HF HB2 XW2 HD2
          go_wp2_with fail
          go_loopw [15] (fun i W => ∃ (j : Nat) (us : List Int), j ≤ G ∧ i = .int .i64 j ∧ Hid (OwnI W w2.heap.size (.slice (some ⟨g, 0, none⟩) G cp) us ∧ us.length = G) ∧ Hid (Chg g WZ W)) (fun i _ => G - (intOf i).toNat)
          case atStart => exact ⟨0, gl, Nat.zero_le _, rfl, hid ⟨HFZ.out, HGL.out⟩, hid (Chg.refl _ _)⟩
          case round =>
            obtain ⟨j, us, hj, rfl, HU, HC⟩ := hrel
            by_cases hlt : j < G
            · have g3 : (j : Int) < (G : Int) := by omega
              have g4 : (0 : Int) ≤ (j : Int) := by omega
              have k0 := (oi_cell HU.out.1 HU.out.2 hlt).1
              have f0 := (oi_cell HU.out.1 HU.out.2 hlt).2
              have N1 := hid (show OwnI (wr.setCell ⟨g, j, none⟩ (.int .i64 0)) w2.heap.size (.slice (some ⟨g, 0, none⟩) G cp) (us.set j 0) ∧ (us.set j 0).length = G from ⟨oi_set HU.out.1 HU.out.2 hlt, by rw [List.length_set]; exact HU.out.2⟩)
              have N2 := hid (HC.out.trans (Chg.setCell j (.int .i64 0)))
              go_wp2_with fail
              exact ⟨⟨j + 1, _, by omega, by go_num, N1, N2⟩, by simp [intOf]; omega⟩
            · obtain rfl : j = G := by omega
              have g3 : ¬ (j : Int) < (j : Int) := by omega
              have hzc := HC.out.size
              have HA1 := hid (HAZ.out.keep HC.out (by omega) (by omega))
              have HC1 := hid (HCZ.out.keep HC.out (by omega) (by omega))
              have HE1 := hid (HEZ.out.keep HC.out (by omega) (by omega))
              have HX1 := hid (HXZ.out.same' (HC.out.block _ HXZ.out.lt (by omega)))
              have HW1 := hid (oi_keep OW.out HC.out (bW.out.ne (Or.inl (by omega))))
              have HO1 := hid (oi_keep OO.out HC.out (bO.out.ne (Or.inl (by omega))))
              have HB1 := hid (Chg.below HBZ.out HC.out (by omega) HBZ.out.size)
              clear HAZ HCZ HEZ HXZ OW OO HBZ HC HU HFZ
              generalize wr = a1 at *
              have pos := HT.out.pos
              go_wp2_with fail
              refine (members_ow _ HA1.out (HT.out.low HB1.out pos)).mono ?_
              rintro e a2 ⟨v1, rfl, o1, b1⟩
              have P2 := hid o1; have q1 := hid (bd_of o1); have HA2 := hid (HA1.out.low b1); have HC2 := hid (HC1.out.low b1); have HE2 := hid (HE1.out.low b1); have HX2 := hid (HX1.out.low b1); have HW2 := hid (own_low HW1.out b1); have HO2 := hid (own_low HO1.out b1); have HB2 := hid (HB1.out.trans (b1.mono HB1.out.size)); have y5 := b1.size
              clear o1 b1 HA1 HC1 HE1 HX1 HW1 HO1 HB1
              go_wp2_with fail
              refine (members_ow _ HA2.out (HT.out.low HB2.out pos)).mono ?_
              rintro e a3 ⟨v2, rfl, o2, b2⟩
              have Q3 := hid o2; have q2 := hid (bd_of o2); have P3 := hid (own_low P2.out b2); have HA3 := hid (HA2.out.low b2); have HC3 := hid (HC2.out.low b2); have HE3 := hid (HE2.out.low b2); have HX3 := hid (HX2.out.low b2); have HW3 := hid (own_low HW2.out b2); have HO3 := hid (own_low HO2.out b2); have HB3 := hid (HB2.out.trans (b2.mono HB2.out.size)); have y6 := b2.size
              clear o2 b2 P2 HA2 HC2 HE2 HX2 HW2 HO2 HB2
              go_wp2_with fail
              refine (members_ow _ HC3.out (HT.out.low HB3.out pos)).mono ?_
              rintro e a4 ⟨v3, rfl, o3, b3⟩
              have R4 := hid o3; have q3' := hid (bd_of o3); have P4 := hid (own_low P3.out b3); have Q4 := hid (own_low Q3.out b3); have HA4 := hid (HA3.out.low b3); have HE4 := hid (HE3.out.low b3); have HX4 := hid (HX3.out.low b3); have HW4 := hid (own_low HW3.out b3); have HO4 := hid (own_low HO3.out b3); have HB4 := hid (HB3.out.trans (b3.mono HB3.out.size)); have y7 := b3.size
              clear o3 b3 P3 Q3 HA3 HC3 HE3 HX3 HW3 HO3 HB3
              go_wp2_with fail
              refine (members_ow _ HE4.out (HT.out.low HB4.out pos)).mono ?_
              rintro e a5 ⟨v4, rfl, o4, b4⟩
              have S5 := hid o4; have q4 := hid (bd_of o4); have P5 := hid (own_low P4.out b4); have Q5 := hid (own_low Q4.out b4); have R5 := hid (own_low R4.out b4); have HA5 := hid (HA4.out.low b4); have HX5 := hid (HX4.out.low b4); have HW5 := hid (own_low HW4.out b4); have HO5 := hid (own_low HO4.out b4); have HB5 := hid (HB4.out.trans (b4.mono HB4.out.size)); have y8 := b4.size
              clear o4 b4 P4 Q4 R4 HA4 HE4 HX4 HW4 HO4 HB4
              have lw : (msR n (fun i => decide ((i : Int) ∈ fl))).length ≤ 65536 := by rw [msR_len]; exact Nat.le_trans (card_le _ _) hn
              have lo : (msR n (sOf n zB)).length ≤ 65536 := by rw [msR_len]; exact Nat.le_trans (card_le _ _) hn
              have LW := hid lw
              have LO := hid lo
              clear lw lo
              have DN := hid (fun m => belowDrewN (w := a5) m)
              go_wp2_with fail
              refine (same_yes _ _ _ _ _ _ LW.out (hl_own P5.out) (hl_own HW5.out)).mono ?_
              rintro e c1 ⟨rfl, m1, rfl⟩
              go_wp2_with fail
              refine (same_yes _ _ _ _ _ _ LW.out (hl_own (own_low Q5.out (DN.out _))) (hl_own (own_low HW5.out (DN.out _)))).mono ?_
              rintro e c2 ⟨rfl, m2, rfl⟩
              have DN2 := hid (fun m => belowT (DN.out m1) (belowDrewN (w := a5.drewN m1) m))
              go_wp2_with fail
              refine (same_yes _ _ _ _ _ _ LW.out (hl_own (own_low R5.out (by first | exact DN2.out _ | exact DN.out _))) (hl_own (own_low HW5.out (by first | exact DN2.out _ | exact DN.out _)))).mono ?_
              rintro e c3 ⟨rfl, m3, rfl⟩
              go_wp2_with fail
              refine (same_yes _ _ _ _ _ _ LO.out (hl_own (own_low S5.out (by exact DN.out _))) (hl_own (own_low HO5.out (by exact DN.out _)))).mono ?_
              rintro e c4 ⟨rfl, m4, rfl⟩
              obtain ⟨b1, n1, k1, rfl⟩ := own_form9 P5.out
              obtain ⟨b2, n2, k2, rfl⟩ := own_form9 Q5.out
              obtain ⟨b3, n3, k3, rfl⟩ := own_form9 R5.out
              obtain ⟨b4, n4, k4, rfl⟩ := own_form9 S5.out
              obtain ⟨bT, nT, kT, rfl⟩ := own_form9 HO5.out
              have DA := hid (show Below a5.heap.size a5 ((a5.drewN (m1 + m2 + m3 + m4)).alloc (.cells #[.slice b1 n1 k1, .slice b2 n2 k2, .slice bT nT kT, .slice b3 n3 k3, .slice b4 n4 k4] 22)) from belowT (DN.out _) (lowAlloc _ _))
              have hsz : a5.heap.size < ((a5.drewN (m1 + m2 + m3 + m4)).alloc (.cells #[.slice b1 n1 k1, .slice b2 n2 k2, .slice bT nT kT, .slice b3 n3 k3, .slice b4 n4 k4] 22)).heap.size := by simp
              have HBk : Hid (((a5.drewN (m1 + m2 + m3 + m4)).alloc (.cells #[.slice b1 n1 k1, .slice b2 n2 k2, .slice bT nT kT, .slice b3 n3 k3, .slice b4 n4 k4] 22)).heap[a5.heap.size]? = some (.cells #[.slice b1 n1 k1, .slice b2 n2 k2, .slice bT nT kT, .slice b3 n3 k3, .slice b4 n4 k4] 22 (0, 0))) := hid (heap_alloc_new (a5.drewN (m1 + m2 + m3 + m4)) (.cells #[.slice b1 n1 k1, .slice b2 n2 k2, .slice bT nT kT, .slice b3 n3 k3, .slice b4 n4 k4] 22))
              have P6 := hid (own_low P5.out DA.out); have Q6 := hid (own_low Q5.out DA.out); have R6 := hid (own_low R5.out DA.out); have S6 := hid (own_low S5.out DA.out); have HA6 := hid (HA5.out.low DA.out); have HX6 := hid (HX5.out.low DA.out); have HW6 := hid (own_low HW5.out DA.out); have HO6 := hid (own_low HO5.out DA.out); have HB6 := hid (HB5.out.trans (DA.out.mono HB5.out.size))
              clear P5 Q5 R5 S5 HA5 HX5 HW5 HO5 HB5 DN DN2
              go_wp2_with fail
              generalize (a5.drewN (m1 + m2 + m3 + m4)).alloc (.cells #[.slice b1 n1 k1, .slice b2 n2 k2, .slice bT nT kT, .slice b3 n3 k3, .slice b4 n4 k4] 22) = a6 at *
              have AP := hid (apartI_any a5.heap.size 0 5 w9.heap.size (fun j => if j = 0 then .slice b1 n1 k1 else if j = 1 then .slice b2 n2 k2 else if j = 2 then .slice bT nT kT else if j = 3 then .slice b3 n3 k3 else .slice b4 n4 k4) (fun j => if j = 2 ∨ j = 4 then (msR n (sOf n zB)).map (Value.int .i64) else (msR n (fun i => decide ((i : Int) ∈ fl))).map (Value.int .i64)) a6
                ⟨fun j hj => by
                    have hj5 : j = 0 ∨ j = 1 ∨ j = 2 ∨ j = 3 ∨ j = 4 := by omega
                    rcases hj5 with rfl | rfl | rfl | rfl | rfl
                    · exact oi_ow (own_mono P6.out (by omega))
                    · exact oi_ow (own_mono Q6.out (by omega))
                    · exact oi_ow HO6.out
                    · exact oi_ow (own_mono R6.out (by omega))
                    · exact oi_ow (own_mono S6.out (by omega)),
                  fun i j hi hj hij => by
                    have hi5 : i = 0 ∨ i = 1 ∨ i = 2 ∨ i = 3 ∨ i = 4 := by omega
                    have hj5 : j = 0 ∨ j = 1 ∨ j = 2 ∨ j = 3 ∨ j = 4 := by omega
                    rcases hi5 with rfl | rfl | rfl | rfl | rfl
                    · rcases hj5 with rfl | rfl | rfl | rfl | rfl
                      · exact absurd rfl hij
                      · exact q1.out.apart q2.out (by omega)
                      · exact q1.out.apart' bO.out (by omega)
                      · exact q1.out.apart q3'.out (by omega)
                      · exact q1.out.apart q4.out (by omega)
                    · rcases hj5 with rfl | rfl | rfl | rfl | rfl
                      · exact q2.out.apart' q1.out (by omega)
                      · exact absurd rfl hij
                      · exact q2.out.apart' bO.out (by omega)
                      · exact q2.out.apart q3'.out (by omega)
                      · exact q2.out.apart q4.out (by omega)
                    · rcases hj5 with rfl | rfl | rfl | rfl | rfl
                      · exact bO.out.apart q1.out (by omega)
                      · exact bO.out.apart q2.out (by omega)
                      · exact absurd rfl hij
                      · exact bO.out.apart q3'.out (by omega)
                      · exact bO.out.apart q4.out (by omega)
                    · rcases hj5 with rfl | rfl | rfl | rfl | rfl
                      · exact q3'.out.apart' q1.out (by omega)
                      · exact q3'.out.apart' q2.out (by omega)
                      · exact q3'.out.apart' bO.out (by omega)
                      · exact absurd rfl hij
                      · exact q3'.out.apart q4.out (by omega)
                    · rcases hj5 with rfl | rfl | rfl | rfl | rfl
                      · exact q4.out.apart' q1.out (by omega)
                      · exact q4.out.apart' q2.out (by omega)
                      · exact q4.out.apart' bO.out (by omega)
                      · exact q4.out.apart' q3'.out (by omega)
                      · exact absurd rfl hij,
                  fun j hj => by
                    have := LW.out
                    have := LO.out
                    show (if j = 2 ∨ j = 4 then (msR n (sOf n zB)).map (Value.int .i64) else (msR n (fun i => decide ((i : Int) ∈ fl))).map (Value.int .i64)).length ≤ _
                    split <;> (rw [List.length_map]; omega)⟩
                (fun j hj => by
                  have hj5 : j = 0 ∨ j = 1 ∨ j = 2 ∨ j = 3 ∨ j = 4 := by omega
                  rw [cell_of_row a6 _ _ _ _ _ HBk.out]
                  rcases hj5 with rfl | rfl | rfl | rfl | rfl <;> rfl)
                hsz
                (fun j hj => by
                  have hj5 : j = 0 ∨ j = 1 ∨ j = 2 ∨ j = 3 ∨ j = 4 := by omega
                  rcases hj5 with rfl | rfl | rfl | rfl | rfl
                  · exact q1.out.ne (Or.inr (by omega))
                  · exact q2.out.ne (Or.inr (by omega))
                  · exact bO.out.ne (Or.inr (by omega))
                  · exact q3'.out.ne (Or.inr (by omega))
                  · exact q4.out.ne (Or.inr (by omega)))
                (by omega))
              refine AP.out.mono ?_
              rintro e a7 ⟨rfl, Bc, Kc⟩
              have KP := hid (show ∀ k, k < a6.heap.size → (k < w9.heap.size ∨ ((Value.slice bT nT kT).ownBlock ≠ some k ∧ k < WZ.heap.size)) → a7.heap[k]? = a6.heap[k]? from fun k hk hh => Kc k hk (fun j hj => by
                  have hj5 : j = 0 ∨ j = 1 ∨ j = 2 ∨ j = 3 ∨ j = 4 := by omega
                  rcases hj5 with rfl | rfl | rfl | rfl | rfl
                  · exact q1.out.ne (Or.inl (by omega))
                  · exact q2.out.ne (Or.inl (by omega))
                  · rcases hh with hh | hh
                    · exact bO.out.ne (Or.inl hh)
                    · exact hh.1
                  · exact q3'.out.ne (Or.inl (by omega))
                  · exact q4.out.ne (Or.inl (by omega))))
              have HB7 := hid (HB6.out.trans (Bc.mono (by have := HBW.out.size; omega)))
              have x1 := HA6.out.plt
              have x2 := HA6.out.qlt
              have HA7 := hid (HA6.out.same' (KP.out _ x1 (Or.inl (by omega))) (KP.out _ x2 (Or.inl (by omega))))
              have HX7 := hid (HX6.out.same' (KP.out _ HX6.out.lt (Or.inl (by have := HBW.out.size; omega))))
              have HW7 := hid (oi_same HW6.out (fun g' e' => KP.out _ (own_lt HW6.out e').2 (Or.inr ⟨NE.out g' e', (bW.out g' e').2⟩)))
              clear AP Kc KP Bc HA6 HX6 HW6 HO6 P6 Q6 R6 S6 HBk
              go_wp2_with fail
              refine (members_ow _ HA7.out (HT.out.low HB7.out pos)).mono ?_
              rintro e a8 ⟨v8, rfl, o8, b8⟩
              have O8 := hid o8
              have HA8 := hid (HA7.out.low b8); have HX8 := hid (HX7.out.low b8); have HW8 := hid (own_low HW7.out b8); have HB8 := hid (HB7.out.trans (b8.mono HB7.out.size))
              clear o8 b8
              go_wp2_with fail
              refine (same_yes _ _ _ _ _ _ LW.out (hl_own O8.out) (hl_own HW8.out)).mono ?_
              rintro e a9 ⟨rfl, m9, rfl⟩
              have D9 := hid (belowDrewN (w := a8) m9)
              have x9 := (HX8.out.low D9.out).c0
              obtain ⟨ws, IS, _⟩ := HA8.out.low D9.out
              have WL := hid (wordlists_any _ _ n ws _ IS)
              have HB9 := hid (HB8.out.trans (D9.out.mono HB8.out.size))
              clear IS
              go_wp2_with fail
              refine WL.out.mono ?_
              rintro e aA ⟨rfl, bA⟩
              have HBA := hid (HB9.out.trans (bA.mono HB9.out.size))
              clear bA
              go_wp2_with fail
              go_ret
              exact ⟨rfl, HBA.out⟩
set_option maxRecDepth 100000 in
set_option maxHeartbeats 1000000 in
theorem lists_out (N : Int) (vA vB vC : Value) (w : World) (ht : Tab w) (hN : ¬ (0 ≤ N ∧ N ≤ 65536)) :
    Calls Tryd.prog 4 #[.agg #[.int .i64 N, vA, vB, vC]] w fun e w' => e = .returned (.bool true) ∧ Below w.heap.size w w' := by
  have HN := hid hN
  have HT := hid ht
  clear hN ht
  go_enter Tryd.func4, Tryd.ntmps4
  go_wp2_with fail
  refine (begin_all N vA vB vC w HT.out).mono ?_
  rintro e w1 ⟨rfl, hx, hb, _⟩
  have hx0 := hx.c0
  have HB := hid hb
  clear hx hb
  go_wp2_with fail
  refine (sized_no _ _ HN.out).mono ?_
  rintro e w2 ⟨rfl, hww⟩
  subst hww
  go_wp2_with fail
  refine (awake_any _ (HT.out.low HB.out HT.out.pos)).mono ?_
  rintro e w3 ⟨rfl, h3⟩
  have H3 := hid (belowT HB.out h3)
  clear h3
  go_wp2_with fail
  go_ret
  exact ⟨rfl, H3.out⟩
theorem lists_all (N : Int) (vA vB vC : Value) (zA zB zC : List Int) (w : World) (ht : Tab w) (iA : Ints w vA zA) (iB : Ints w vB zB) (iC : Ints w vC zC) (rA : zA.length * 8 ≤ 140737488351232) (rB : zB.length * 8 ≤ 140737488351232) (rC : zC.length * 8 ≤ 140737488351232) :
    Calls Tryd.prog 4 #[.agg #[.int .i64 N, vA, vB, vC]] w fun e w' => e = .returned (.bool true) ∧ Below w.heap.size w w' := by
  by_cases h : 0 ≤ N ∧ N ≤ 65536
  · obtain ⟨n, rfl⟩ : ∃ n : Nat, N = n := ⟨N.toNat, by omega⟩
    exact lists_law n vA vB vC zA zB w ht (by omega) iA iB rA rB
  · exact lists_out N vA vB vC w ht h
end Go.Proofs.YtkagdmhijjfnnabDoor
