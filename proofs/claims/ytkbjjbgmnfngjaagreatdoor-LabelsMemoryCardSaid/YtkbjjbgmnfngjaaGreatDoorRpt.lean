import Derived.Test.YtkbjjbgmnfngjaaGreatDoorRwr
import Derived.Test.YtkbjjbgmnfngjaaGreatDoorPrs
namespace Go.Proofs.YtkbjjbgmnfngjaaGreatDoor.L
open Go.RowKit
set_option linter.unusedVariables false
set_option maxHeartbeats 4000000 in
theorem rpatch_no (v v2 : Value) (l : List Lb) (w : World) (hi : Items w v l) (hg : Good l) (h : (checkN l).2 ≠ 0) :
    Calls Tryz.prog 30 #[v, v2] w fun e w' => e = .returned (.tuple #[.slice none 0 0, .int .i64 (checkN l).2]) ∧ Below w.heap.size w w' := by
  have HC := hid (rcheck_any v l w hi hg)
  have hne : ((checkN l).2 != 0) = true := by simpa using h
  generalize checkN l = r at *
  clear h hi
  go_enter Tryz.func30, Tryz.ntmps30
  go_wp2_with fail
  refine HC.out.mono ?_
  rintro e w1 ⟨rfl, hb⟩
  have B1 := hid hb
  clear hb
  go_wp2_with fail
  go_ret2
  exact ⟨rfl, B1.out⟩
theorem pd_prv {L : List Df} {j : Nat} (hj : j < L.length) : prvD L (j + 1) = L[j].k := by
  unfold prvD
  rw [dif_pos ⟨by omega, by omega⟩]
  rfl
theorem prv_zero (L : List Df) : prvD L 0 = ByteArray.empty := by
  unfold prvD
  rw [dif_neg (by omega)]
theorem pd_step (l : List Lb) (L : List Df) (j : Nat) (hj : j < L.length) : pdE l (prvD L j) (L.drop j) = if cE l (prvD L j) L[j] = 0 then pdE l (prvD L (j + 1)) (L.drop (j + 1)) else cE l (prvD L j) L[j] := by
  rw [List.drop_eq_getElem_cons hj, pd_prv hj]
  rfl
theorem copy_src {w1 : World} {l : List Lb} {aa : Addr} (HC : ∀ j u, (cellsF l)[j]? = some u → w1.cell? (aa.add j) = some u) (HB : l.length = 0 ∨ aa.block < w1.heap.size) : ∀ j u, (cellsF l)[j]? = some u → (w1.alloc (.cells #[] 36)).cell? (aa.add j) = some u := by
  intro j u hu
  have hj := (cellsF_get l j u hu).1
  have hb : aa.block < w1.heap.size := by rcases HB with h | h <;> omega
  have b1 : Below w1.heap.size w1 (w1.alloc (.cells #[] 36)) := belowA _ _
  rw [b1.cell (p := aa.add j) (by unfold Addr.add; split <;> exact hb)]
  exact HC j u hu
set_option maxHeartbeats 16000000 in
set_option maxRecDepth 100000 in
theorem rpatch_some (v v2 : Value) (l : List Lb) (L : List Df) (w : World) (hc : Came w v l) (h2 : ItemsD w v2 L) (hg : Good l) (gd : GoodD L) (ho : OkL l) :
    Calls Tryz.prog 30 #[v, v2] w fun e w' => ∃ v' l', e = .returned (.tuple #[v', .int .i64 (patA l L)]) ∧ Below w.heap.size w w' ∧ ((patA l L ≠ 0 ∧ v' = .slice none 0 0) ∨ (patA l L = 0 ∧ Own w' w.heap.size v' l' ∧ l'.Perm (kept L l ++ newly L) ∧ Up l')) := by
  obtain ⟨i0, hi0, hz0, hz1, hz2⟩ := info_parts infoL
  have F0 := hid (rcheck_any v l w hc.items hg)
  rw [check_ok ho] at F0
  have hl64 : l.length ≤ 64 := by have := ho.len; omega
  have FW := hid (fun i (hi : i < L.length) d (hd : L[i] = d) W (hb : Below w.heap.size w W) => show Calls Tryz.prog 48 #[v2, .int .i64 i] W (fun e w' => e = .returned (.int .i64 (wE (prvD L i) d)) ∧ Below W.heap.size W w') from hd ▸ rwrong_any v2 L i W (h2.low hb) gd hi)
  have FG := hid (fun s W (hb : Below w.heap.size w W) => rget_any v l s W (hc.low hb).items hg.1.1)
  have FX := hid (fun B k s W V (h : Own W B V (outL l (L.take k))) => rwithout_any V _ s W (own_items h) (out_good hg hl64 (gd.take k)))
  have HPA := hid (show patA l L = if pdE l ByteArray.empty L = 0 then (if 32 < (kept L l ++ newly L).length then 34 else 0) else pdE l ByteArray.empty L by unfold patA; rw [check_ok ho, if_pos rfl])
  have HOE := hid (fun h => out_eq (l := l) (t := ByteArray.empty) (L := L) h)
  have HDI := hid (fun h => pat_dist (l := l) (L := L) ho h)
  have HOL := hid (fun k => show (outL l (L.take k)).length ≤ 64 + k from Nat.le_trans (out_len l (L.take k)) (by rw [List.length_take]; omega))
  have HIC := hid hc
  obtain ⟨aL, cL, rfl⟩ := came_slice hc
  obtain ⟨nl, hnl⟩ : ∃ n, n = l.length := ⟨_, rfl⟩
  have HNL := hid hnl
  rw [← hnl] at F0 FG HIC hl64 ⊢
  obtain ⟨a2, c2, rfl, x2⟩ := h2
  have X2 := hid x2
  have hL := gd.1
  obtain ⟨lenD, hlenD⟩ : ∃ n, n = L.length := ⟨_, rfl⟩
  have HLD := hid hlenD
  have FW2 := hid (fun i (hi : i < L.length) d (hd : L[i] = d) W (hb : Below w.heap.size w W) => show Calls Tryz.prog 48 #[.slice a2 lenD c2, .int .i64 i] W (fun e w' => e = .returned (.int .i64 (wE (prvD L i) d)) ∧ Below W.heap.size W w') from hlenD ▸ FW.out i hi d hd W hb)
  obtain ⟨E, hE⟩ : ∃ E, E = patA l L := ⟨_, rfl⟩
  rw [← hE]
  rw [← hE] at HPA
  rw [← hlenD] at hL ⊢
  clear hE hlenD gd hc x2 ho hg FW hnl
  obtain ⟨PE, hPE⟩ : ∃ E, E = pdE l ByteArray.empty L := ⟨_, rfl⟩
  rw [← hPE] at HPA HOE HDI
  have HPE := hid (show PE = pdE l (prvD L 0) (L.drop 0) by rw [hPE, prv_zero]; rfl)
  clear hPE
  go_enter Tryz.func30, Tryz.ntmps30
  go_wp2_with fail
  refine F0.out.mono ?_
  rintro e w1 ⟨rfl, hb⟩
  have B1 := hid hb
  have HC1 := hid (HIC.out.low hb)
  clear hb
  rcases HC1.out with ⟨hn, hn2⟩ | ⟨aa, ca, hv, _, h⟩
  · rw [Value.slice.injEq] at hn
    obtain ⟨rfl, rfl, rfl⟩ := hn
    go_wp2_with (at_builtin; refine wpList_append_own_none rfl _ _ 22 rfl w1.heap.size 36 i0 2 Tryz.underlying22 hi0 _ 0 [] rfl (World.ownsRow_made w1 #[] 0 (Nat.le_refl _) (Nat.zero_le _) rfl) rfl ?_)
    have OW0 := hid (show Own (w1.alloc (.cells #[] 36)) w1.heap.size (.slice (some ⟨w1.heap.size, 0, none⟩) 0 0) (outL l (L.take 0)) by rw [hn2]; exact World.ownsRow_made w1 #[] 0 (Nat.le_refl _) (Nat.zero_le _) rfl)
    have BW0 := hid (belowA w1 (.cells #[] 36))
    generalize Value.slice (some ⟨w1.heap.size, 0, none⟩) 0 0 = V0 at *
    generalize w1.alloc (.cells #[] 36) = W0 at *
    clear hn2 HC1 HIC
    go_wp2_with fail
    go_loopw [7, 8, 9] (fun ev ov i wr => ∃ j : Nat, j ≤ lenD ∧ i = .int .i64 j ∧ ev = .int .i64 0 ∧ Hid (Below w1.heap.size w1 wr) ∧ Hid (Own wr w1.heap.size ov (outL l (L.take j))) ∧ Hid (PE = pdE l (prvD L j) (L.drop j))) (fun _ _ i _ => lenD - (intOf i).toNat)
    case atStart => exact ⟨0, Nat.zero_le _, rfl, rfl, BW0, OW0, HPE⟩
    case round =>
      obtain ⟨j, hj, rfl, rfl, HB, OW, HK⟩ := hrel
      by_cases hlt : j < lenD
      · rcases X2.out with h0 | ⟨b0, off, rfl, hbl, hc⟩
        · have := HLD.out
          omega
        have hjl : j < L.length := by rw [← HLD.out]; exact hlt
        obtain ⟨d0, d1, d2, d3, d4⟩ := hc j hjl
        have HBw := hid (B1.out.trans (HB.out.mono B1.out.size))
        rw [← HBw.out.cell (p := ⟨b0, off + j * 5, none⟩) hbl] at d0
        rw [← HBw.out.cell (p := ⟨b0, off + j * 5 + 1, none⟩) hbl] at d1
        rw [← HBw.out.cell (p := ⟨b0, off + j * 5 + 2, none⟩) hbl] at d2
        rw [← HBw.out.cell (p := ⟨b0, off + j * 5 + 3, none⟩) hbl] at d3
        rw [← HBw.out.cell (p := ⟨b0, off + j * 5 + 4, none⟩) hbl] at d4
        have hsz : b0 < wr.heap.size := Nat.lt_of_lt_of_le hbl HBw.out.size
        have hws : w1.heap.size ≤ wr.heap.size := HB.out.size
        have g1 : (j : Int) < (lenD : Int) := by omega
        have g2 : (0 : Int) ≤ (j : Int) := by omega
        have st := HK.out.trans (pd_step l L j hjl)
        have OT := hid (out_take l L j hjl)
        have hol := HOL.out j
        have FWJ := hid (FW2.out j hjl)
        have FXJ := hid (fun B => FX.out B j)
        generalize hd : L[j] = d at *
        have FWD := hid (fun W hb => FWJ.out d rfl W hb)
        have FGD := hid (FG.out d.k)
        unfold cE fitB at st
        generalize wE (prvD L j) d = we at *
        generalize getN l d.k = gp at *
        obtain ⟨gv, gt⟩ := gp
        obtain ⟨dk, dO, dn, dh, ds⟩ := d
        have A0 := belowA wr (.cells #[.string dk, .string dO, .string dn, .bool dh, .bool ds] 52)
        have HA0 := hid A0
        have N0 := hid (five_new wr ⟨dk, dO, dn, dh, ds⟩ 52)
        have BA := hid (HBw.out.trans (A0.mono HBw.out.size))
        have BA1 := hid (HB.out.trans (A0.mono HB.out.size))
        have OA := hid (own_low OW.out A0)
        simp only at d0 d1 d2 d3 d4 FGD st
        unfold outS at OT
        simp only at OT
        generalize outL l (L.take j) = O at *
        clear hc A0 hd OW
        by_cases hw0 : we = 0
        · rw [if_pos hw0] at st
          subst hw0
          unfold eqS at st
          by_cases hgt : gt = dh
          · subst hgt
            cases hgv : (gv.toList == dO.toList)
            · rw [hgv] at st
              simp only [Bool.false_and, if_true, show ¬ ((38 : Int) = 0) by decide, if_false] at st
              have HE := hid (show E = 38 by rw [HPA.out, st, if_neg (by decide)])
              have hgv' : (gv.toList != dO.toList) = true := by simp [bne, hgv]
              clear st
              go_wp2_with fail
              refine (FWD.out _ BA.out).mono ?_
              rintro e w2 ⟨rfl, hb⟩
              obtain ⟨e0, e1, e2, e3, e4⟩ := N0.out.low hb (by simp)
              have B2w := hid (BA.out.trans (hb.mono BA.out.size))
              have B2 := hid (BA1.out.trans (hb.mono BA1.out.size))
              have O2 := hid (own_low OA.out hb)
              have Z2 : wr.heap.size < w2.heap.size := Nat.lt_of_lt_of_le (by simp) hb.size
              have hw2 : w1.heap.size ≤ w2.heap.size := B2.out.size
              clear hb
              simp only at e0 e1 e2 e3 e4
              go_wp2_with fail
              refine (FGD.out _ B2w.out).mono ?_
              rintro e w9 ⟨rfl, hw⟩; subst hw
              go_wp2_with fail
              go_ret2
              exact ⟨_, [], by rw [HE.out]; rfl, B2w.out, Or.inl ⟨by rw [HE.out]; decide, rfl⟩⟩
            · rw [hgv] at st
              simp only [Bool.true_and, beq_self_eq_true, Bool.true_eq_false, if_false, if_true] at st
              have ST := hid st
              have hgv' : (gv.toList != dO.toList) = false := by simp [bne, hgv]
              clear st
              cases gt with
              | true =>
                cases ds with
                | true =>
                  simp only [if_true] at OT
                  go_wp2_with fail
                  refine (FWD.out _ BA.out).mono ?_
                  rintro e w2 ⟨rfl, hb⟩
                  obtain ⟨e0, e1, e2, e3, e4⟩ := N0.out.low hb (by simp)
                  have B2w := hid (BA.out.trans (hb.mono BA.out.size))
                  have B2 := hid (BA1.out.trans (hb.mono BA1.out.size))
                  have O2 := hid (own_low OA.out hb)
                  have Z2 : wr.heap.size < w2.heap.size := Nat.lt_of_lt_of_le (by simp) hb.size
                  have hw2 : w1.heap.size ≤ w2.heap.size := B2.out.size
                  clear hb
                  simp only at e0 e1 e2 e3 e4
                  go_wp2_with fail
                  refine (FGD.out _ B2w.out).mono ?_
                  rintro e w9 ⟨rfl, hw⟩; subst hw
                  go_wp2_with fail
                  refine (FXJ.out _ _ _ _ O2.out).mono ?_
                  rintro e w3 ⟨v3, rfl, ho3, hb⟩
                  have O3 := hid (show Own w3 w1.heap.size v3 (delL O dk) from row_mono ho3 B2.out.size)
                  have B3 := hid (B2.out.trans (hb.mono B2.out.size))
                  have f0 := (hb.cell (p := ⟨wr.heap.size, 0, none⟩) Z2).trans e0
                  have f2 := (hb.cell (p := ⟨wr.heap.size, 2, none⟩) Z2).trans e2
                  have f4 := (hb.cell (p := ⟨wr.heap.size, 4, none⟩) Z2).trans e4
                  have hw3 : w1.heap.size ≤ w3.heap.size := B3.out.size
                  have hdl := del_len O dk
                  have Z3 : wr.heap.size < w3.heap.size := Nat.lt_of_lt_of_le Z2 hb.size
                  clear hb ho3 e0 e1 e2 e3 e4
                  go_wp2_with (at_builtin; refine wpList_append_own _ rfl _ _ 22 rfl w1.heap.size 36 i0 (.agg #[.string ByteArray.empty, .string ByteArray.empty]) 2 32 Tryz.underlying22 hi0 hz0 hz1 hz2 rfl (by decide) _ _ _ rfl (World.ownsRow.alloc O3.out _) ⟨_, 0, none⟩ 1 1 [.string dk, .string dn] rfl rfl (cell_two_at _ _ _ _ _ (by simp)) (fun x hx => by simp at hx; rcases hx with rfl | rfl <;> rfl) (by unfold maxLen; omega) (by omega) (by simp; omega) ?_; intro v5 w5 hown' hgrow5 hnil5)
                  clear hnil5
                  have B5 : Below w1.heap.size w1 w5 := (B3.out.alloc hw3 _).grown hgrow5 (by simp; omega) (fun j hj => own_base O3.out j hj)
                  exact ⟨⟨j + 1, by omega, by go_num, rfl, hid B5, hid (by rw [OT.out]; exact own_snoc (x := (dk, dn)) hown'), ST⟩, by simp [intOf]; omega⟩
                | false =>
                  simp only [if_true, Bool.false_eq_true, if_false, List.append_nil] at OT
                  go_wp2_with fail
                  refine (FWD.out _ BA.out).mono ?_
                  rintro e w2 ⟨rfl, hb⟩
                  obtain ⟨e0, e1, e2, e3, e4⟩ := N0.out.low hb (by simp)
                  have B2w := hid (BA.out.trans (hb.mono BA.out.size))
                  have B2 := hid (BA1.out.trans (hb.mono BA1.out.size))
                  have O2 := hid (own_low OA.out hb)
                  have Z2 : wr.heap.size < w2.heap.size := Nat.lt_of_lt_of_le (by simp) hb.size
                  have hw2 : w1.heap.size ≤ w2.heap.size := B2.out.size
                  clear hb
                  simp only at e0 e1 e2 e3 e4
                  go_wp2_with fail
                  refine (FGD.out _ B2w.out).mono ?_
                  rintro e w9 ⟨rfl, hw⟩; subst hw
                  go_wp2_with fail
                  refine (FXJ.out _ _ _ _ O2.out).mono ?_
                  rintro e w3 ⟨v3, rfl, ho3, hb⟩
                  have O3 := hid (show Own w3 w1.heap.size v3 (delL O dk) from row_mono ho3 B2.out.size)
                  have B3 := hid (B2.out.trans (hb.mono B2.out.size))
                  have f0 := (hb.cell (p := ⟨wr.heap.size, 0, none⟩) Z2).trans e0
                  have f2 := (hb.cell (p := ⟨wr.heap.size, 2, none⟩) Z2).trans e2
                  have f4 := (hb.cell (p := ⟨wr.heap.size, 4, none⟩) Z2).trans e4
                  have hw3 : w1.heap.size ≤ w3.heap.size := B3.out.size
                  have hdl := del_len O dk
                  have Z3 : wr.heap.size < w3.heap.size := Nat.lt_of_lt_of_le Z2 hb.size
                  clear hb ho3 e0 e1 e2 e3 e4
                  go_wp2_with fail
                  exact ⟨⟨j + 1, by omega, by go_num, rfl, B3, hid (by rw [OT.out]; exact O3.out), ST⟩, by simp [intOf]; omega⟩
              | false =>
                cases ds with
                | true =>
                  simp only [if_true, Bool.false_eq_true, if_false] at OT
                  go_wp2_with fail
                  refine (FWD.out _ BA.out).mono ?_
                  rintro e w2 ⟨rfl, hb⟩
                  obtain ⟨e0, e1, e2, e3, e4⟩ := N0.out.low hb (by simp)
                  have B2w := hid (BA.out.trans (hb.mono BA.out.size))
                  have B2 := hid (BA1.out.trans (hb.mono BA1.out.size))
                  have O2 := hid (own_low OA.out hb)
                  have Z2 : wr.heap.size < w2.heap.size := Nat.lt_of_lt_of_le (by simp) hb.size
                  have hw2 : w1.heap.size ≤ w2.heap.size := B2.out.size
                  clear hb
                  simp only at e0 e1 e2 e3 e4
                  go_wp2_with fail
                  refine (FGD.out _ B2w.out).mono ?_
                  rintro e w9 ⟨rfl, hw⟩; subst hw
                  go_wp2_with (at_builtin; refine wpList_append_own _ rfl _ _ 22 rfl w1.heap.size 36 i0 (.agg #[.string ByteArray.empty, .string ByteArray.empty]) 2 32 Tryz.underlying22 hi0 hz0 hz1 hz2 rfl (by decide) _ _ _ rfl (World.ownsRow.alloc O2.out _) ⟨_, 0, none⟩ 1 1 [.string dk, .string dn] rfl rfl (cell_two_at _ _ _ _ _ (by simp)) (fun x hx => by simp at hx; rcases hx with rfl | rfl <;> rfl) (by unfold maxLen; omega) (by omega) (by simp; omega) ?_; intro v5 w5 hown' hgrow5 hnil5)
                  clear hnil5
                  have B5 : Below w1.heap.size w1 w5 := (B2.out.alloc hw2 _).grown hgrow5 (by simp; omega) (fun j hj => own_base O2.out j hj)
                  exact ⟨⟨j + 1, by omega, by go_num, rfl, hid B5, hid (by rw [OT.out]; exact own_snoc (x := (dk, dn)) hown'), ST⟩, by simp [intOf]; omega⟩
                | false =>
                  simp only [Bool.false_eq_true, if_false, List.append_nil] at OT
                  go_wp2_with fail
                  refine (FWD.out _ BA.out).mono ?_
                  rintro e w2 ⟨rfl, hb⟩
                  obtain ⟨e0, e1, e2, e3, e4⟩ := N0.out.low hb (by simp)
                  have B2w := hid (BA.out.trans (hb.mono BA.out.size))
                  have B2 := hid (BA1.out.trans (hb.mono BA1.out.size))
                  have O2 := hid (own_low OA.out hb)
                  have Z2 : wr.heap.size < w2.heap.size := Nat.lt_of_lt_of_le (by simp) hb.size
                  have hw2 : w1.heap.size ≤ w2.heap.size := B2.out.size
                  clear hb
                  simp only at e0 e1 e2 e3 e4
                  go_wp2_with fail
                  refine (FGD.out _ B2w.out).mono ?_
                  rintro e w9 ⟨rfl, hw⟩; subst hw
                  go_wp2_with fail
                  exact ⟨⟨j + 1, by omega, by go_num, rfl, B2, hid (by rw [OT.out]; exact O2.out), ST⟩, by simp [intOf]; omega⟩
          · have hgt' : (gt != dh) = true := by simpa using hgt
            have hgt2 : (gt == dh) = false := by simpa using hgt
            rw [hgt2] at st
            simp only [Bool.and_false, if_true, show ¬ ((38 : Int) = 0) by decide, if_false] at st
            have HE := hid (show E = 38 by rw [HPA.out, st, if_neg (by decide)])
            clear st hgt
            go_wp2_with fail
            refine (FWD.out _ BA.out).mono ?_
            rintro e w2 ⟨rfl, hb⟩
            obtain ⟨e0, e1, e2, e3, e4⟩ := N0.out.low hb (by simp)
            have B2w := hid (BA.out.trans (hb.mono BA.out.size))
            have B2 := hid (BA1.out.trans (hb.mono BA1.out.size))
            have O2 := hid (own_low OA.out hb)
            have Z2 : wr.heap.size < w2.heap.size := Nat.lt_of_lt_of_le (by simp) hb.size
            have hw2 : w1.heap.size ≤ w2.heap.size := B2.out.size
            clear hb
            simp only at e0 e1 e2 e3 e4
            go_wp2_with fail
            refine (FGD.out _ B2w.out).mono ?_
            rintro e w9 ⟨rfl, hw⟩; subst hw
            go_wp2_with fail
            go_ret2
            exact ⟨_, [], by rw [HE.out]; rfl, B2w.out, Or.inl ⟨by rw [HE.out]; decide, rfl⟩⟩
        · rw [if_neg hw0, if_neg hw0] at st
          have hne : (we != 0) = true := by simpa using hw0
          have HE := hid (show E = we by rw [HPA.out, st, if_neg hw0])
          have HW := hid hw0
          clear st hw0
          go_wp2_with fail
          refine (FWD.out _ BA.out).mono ?_
          rintro e w2 ⟨rfl, hb⟩
          have B2w := hid (BA.out.trans (hb.mono BA.out.size))
          clear hb
          go_wp2_with fail
          go_ret2
          exact ⟨_, [], by rw [HE.out]; rfl, B2w.out, Or.inl ⟨by rw [HE.out]; exact HW.out, rfl⟩⟩
      · obtain rfl : j = lenD := by omega
        have HZ := hid (show PE = 0 by rw [HK.out, HLD.out, List.drop_length]; rfl)
        have HPA2 := hid (show E = if 32 < (kept L l ++ newly L).length then 34 else 0 by rw [HPA.out, if_pos HZ.out])
        have OK := hid (show Own wr w1.heap.size _ (kept L l ++ newly L) by
          have o := OW.out
          rw [HLD.out, List.take_length, HOE.out HZ.out] at o
          exact o)
        have HD2 := hid (HDI.out HZ.out)
        have HBw := hid (B1.out.trans (HB.out.mono B1.out.size))
        generalize hKN : kept L l ++ newly L = KN at *
        have HKN := hid hKN
        have hkb := (show KN.length ≤ 2600000000064 by
          have := HOL.out j
          rw [HLD.out, List.take_length, HOE.out HZ.out] at this
          rw [← HLD.out] at this
          omega)
        obtain ⟨ao, co, e⟩ : ∃ a cap, _ = Value.slice a KN.length cap := by
          obtain ⟨a', c', e, _⟩ := own_items OK.out
          exact ⟨a', c', e⟩
        subst e
        have RI := hid (fun h => rrise_any _ KN wr (own_items OK.out) h HD2.out)
        clear hKN OW
        obtain ⟨kn, hkn⟩ : ∃ n, n = KN.length := ⟨_, rfl⟩
        have HKL := hid hkn
        rw [← hkn] at RI hkb HPA2 ⊢
        clear hkn
        by_cases h32 : 32 < kn
        · rw [if_pos h32] at HPA2
          have g3 : (32 : Int) < (kn : Int) := by omega
          go_wp2_with fail
          go_ret2
          exact ⟨_, [], by rw [HPA2.out]; rfl, HBw.out, Or.inl ⟨by rw [HPA2.out]; decide, rfl⟩⟩
        · rw [if_neg h32] at HPA2
          have g3 : (kn : Int) ≤ 32 := by omega
          have R2 := hid (RI.out (by omega))
          go_wp2_with fail
          refine R2.out.mono ?_
          rintro e w4 ⟨v4, l4, rfl, i4, p4, u4, hb⟩
          have B4 := hid (HBw.out.trans (hb.mono HBw.out.size))
          have R4 := hid (show Own w4 w.heap.size v4 l4 ∧ l4.Perm (kept L l ++ newly L) ∧ Up l4 by rw [HKN.out]; exact ⟨own_mono i4 HBw.out.size, p4, u4⟩)
          clear hb i4 p4 u4
          go_wp2_with fail
          go_ret2
          exact ⟨_, l4, by rw [HPA2.out]; rfl, B4.out, Or.inr ⟨HPA2.out, R4.out⟩⟩
  · rw [Value.slice.injEq] at hv
    obtain ⟨rfl, -, rfl⟩ := hv
    have hcell : ∀ j u, (cellsF l)[j]? = some u → w1.cell? (aa.add j) = some u := by
      rcases h with h | ⟨b, off, rfl, h1, h2⟩
      · intro j u hu
        have := (cellsF_get l j u hu).1
        omega
      · exact cellsF_src l w1 b off h2
    have hbl : l.length = 0 ∨ aa.block < w1.heap.size := by
      rcases h with h | ⟨b, off, rfl, h1, h2⟩
      · exact Or.inl h
      · exact Or.inr h1
    have HCL := hid hcell
    have HBL := hid hbl
    have hm1 : nl ≤ maxLen := by unfold maxLen; omega
    clear h hcell hbl
    go_wp2_with (at_builtin; refine wpList_append_own _ rfl _ _ 22 rfl w1.heap.size 36 i0 (.agg #[.string ByteArray.empty, .string ByteArray.empty]) 2 32 Tryz.underlying22 hi0 hz0 hz1 hz2 rfl (by decide) _ 0 [] rfl (World.ownsRow_made w1 #[] 0 (Nat.le_refl _) (Nat.zero_le _) rfl) aa nl cL (cellsF l) rfl (by rw [cellsF_len, HNL.out]) (copy_src HCL.out HBL.out) (cellsF_one l) (by omega) (by omega) (by simp) ?_; intro V0 W0 hown hgrow hnil; clear hnil; have OW0 := hid (show Own W0 w1.heap.size V0 (outL l (L.take 0)) from by have := hown; rw [HNL.out] at this; unfold Own; simpa [outL] using this); have BW0 := hid (show Below w1.heap.size w1 W0 from (belowA w1 _).grown hgrow (by simp) (fun k hk => own_base (World.ownsRow_made (e := 36) (size := 2) w1 #[] 0 (Nat.le_refl _) (Nat.zero_le _) rfl) k hk)); clear hown hgrow)
    clear HC1 HIC HCL HBL
    go_wp2_with fail
    go_loopw [7, 8, 9] (fun ev ov i wr => ∃ j : Nat, j ≤ lenD ∧ i = .int .i64 j ∧ ev = .int .i64 0 ∧ Hid (Below w1.heap.size w1 wr) ∧ Hid (Own wr w1.heap.size ov (outL l (L.take j))) ∧ Hid (PE = pdE l (prvD L j) (L.drop j))) (fun _ _ i _ => lenD - (intOf i).toNat)
    case atStart => exact ⟨0, Nat.zero_le _, rfl, rfl, BW0, OW0, HPE⟩
    case round =>
      obtain ⟨j, hj, rfl, rfl, HB, OW, HK⟩ := hrel
      by_cases hlt : j < lenD
      · rcases X2.out with h0 | ⟨b0, off, rfl, hbl, hc⟩
        · have := HLD.out
          omega
        have hjl : j < L.length := by rw [← HLD.out]; exact hlt
        obtain ⟨d0, d1, d2, d3, d4⟩ := hc j hjl
        have HBw := hid (B1.out.trans (HB.out.mono B1.out.size))
        rw [← HBw.out.cell (p := ⟨b0, off + j * 5, none⟩) hbl] at d0
        rw [← HBw.out.cell (p := ⟨b0, off + j * 5 + 1, none⟩) hbl] at d1
        rw [← HBw.out.cell (p := ⟨b0, off + j * 5 + 2, none⟩) hbl] at d2
        rw [← HBw.out.cell (p := ⟨b0, off + j * 5 + 3, none⟩) hbl] at d3
        rw [← HBw.out.cell (p := ⟨b0, off + j * 5 + 4, none⟩) hbl] at d4
        have hsz : b0 < wr.heap.size := Nat.lt_of_lt_of_le hbl HBw.out.size
        have hws : w1.heap.size ≤ wr.heap.size := HB.out.size
        have g1 : (j : Int) < (lenD : Int) := by omega
        have g2 : (0 : Int) ≤ (j : Int) := by omega
        have st := HK.out.trans (pd_step l L j hjl)
        have OT := hid (out_take l L j hjl)
        have hol := HOL.out j
        have FWJ := hid (FW2.out j hjl)
        have FXJ := hid (fun B => FX.out B j)
        generalize hd : L[j] = d at *
        have FWD := hid (fun W hb => FWJ.out d rfl W hb)
        have FGD := hid (FG.out d.k)
        unfold cE fitB at st
        generalize wE (prvD L j) d = we at *
        generalize getN l d.k = gp at *
        obtain ⟨gv, gt⟩ := gp
        obtain ⟨dk, dO, dn, dh, ds⟩ := d
        have A0 := belowA wr (.cells #[.string dk, .string dO, .string dn, .bool dh, .bool ds] 52)
        have HA0 := hid A0
        have N0 := hid (five_new wr ⟨dk, dO, dn, dh, ds⟩ 52)
        have BA := hid (HBw.out.trans (A0.mono HBw.out.size))
        have BA1 := hid (HB.out.trans (A0.mono HB.out.size))
        have OA := hid (own_low OW.out A0)
        simp only at d0 d1 d2 d3 d4 FGD st
        unfold outS at OT
        simp only at OT
        generalize outL l (L.take j) = O at *
        clear hc A0 hd OW
        by_cases hw0 : we = 0
        · rw [if_pos hw0] at st
          subst hw0
          unfold eqS at st
          by_cases hgt : gt = dh
          · subst hgt
            cases hgv : (gv.toList == dO.toList)
            · rw [hgv] at st
              simp only [Bool.false_and, if_true, show ¬ ((38 : Int) = 0) by decide, if_false] at st
              have HE := hid (show E = 38 by rw [HPA.out, st, if_neg (by decide)])
              have hgv' : (gv.toList != dO.toList) = true := by simp [bne, hgv]
              clear st
              go_wp2_with fail
              refine (FWD.out _ BA.out).mono ?_
              rintro e w2 ⟨rfl, hb⟩
              obtain ⟨e0, e1, e2, e3, e4⟩ := N0.out.low hb (by simp)
              have B2w := hid (BA.out.trans (hb.mono BA.out.size))
              have B2 := hid (BA1.out.trans (hb.mono BA1.out.size))
              have O2 := hid (own_low OA.out hb)
              have Z2 : wr.heap.size < w2.heap.size := Nat.lt_of_lt_of_le (by simp) hb.size
              have hw2 : w1.heap.size ≤ w2.heap.size := B2.out.size
              clear hb
              simp only at e0 e1 e2 e3 e4
              go_wp2_with fail
              refine (FGD.out _ B2w.out).mono ?_
              rintro e w9 ⟨rfl, hw⟩; subst hw
              go_wp2_with fail
              go_ret2
              exact ⟨_, [], by rw [HE.out]; rfl, B2w.out, Or.inl ⟨by rw [HE.out]; decide, rfl⟩⟩
            · rw [hgv] at st
              simp only [Bool.true_and, beq_self_eq_true, Bool.true_eq_false, if_false, if_true] at st
              have ST := hid st
              have hgv' : (gv.toList != dO.toList) = false := by simp [bne, hgv]
              clear st
              cases gt with
              | true =>
                cases ds with
                | true =>
                  simp only [if_true] at OT
                  go_wp2_with fail
                  refine (FWD.out _ BA.out).mono ?_
                  rintro e w2 ⟨rfl, hb⟩
                  obtain ⟨e0, e1, e2, e3, e4⟩ := N0.out.low hb (by simp)
                  have B2w := hid (BA.out.trans (hb.mono BA.out.size))
                  have B2 := hid (BA1.out.trans (hb.mono BA1.out.size))
                  have O2 := hid (own_low OA.out hb)
                  have Z2 : wr.heap.size < w2.heap.size := Nat.lt_of_lt_of_le (by simp) hb.size
                  have hw2 : w1.heap.size ≤ w2.heap.size := B2.out.size
                  clear hb
                  simp only at e0 e1 e2 e3 e4
                  go_wp2_with fail
                  refine (FGD.out _ B2w.out).mono ?_
                  rintro e w9 ⟨rfl, hw⟩; subst hw
                  go_wp2_with fail
                  refine (FXJ.out _ _ _ _ O2.out).mono ?_
                  rintro e w3 ⟨v3, rfl, ho3, hb⟩
                  have O3 := hid (show Own w3 w1.heap.size v3 (delL O dk) from row_mono ho3 B2.out.size)
                  have B3 := hid (B2.out.trans (hb.mono B2.out.size))
                  have f0 := (hb.cell (p := ⟨wr.heap.size, 0, none⟩) Z2).trans e0
                  have f2 := (hb.cell (p := ⟨wr.heap.size, 2, none⟩) Z2).trans e2
                  have f4 := (hb.cell (p := ⟨wr.heap.size, 4, none⟩) Z2).trans e4
                  have hw3 : w1.heap.size ≤ w3.heap.size := B3.out.size
                  have hdl := del_len O dk
                  have Z3 : wr.heap.size < w3.heap.size := Nat.lt_of_lt_of_le Z2 hb.size
                  clear hb ho3 e0 e1 e2 e3 e4
                  go_wp2_with (at_builtin; refine wpList_append_own _ rfl _ _ 22 rfl w1.heap.size 36 i0 (.agg #[.string ByteArray.empty, .string ByteArray.empty]) 2 32 Tryz.underlying22 hi0 hz0 hz1 hz2 rfl (by decide) _ _ _ rfl (World.ownsRow.alloc O3.out _) ⟨_, 0, none⟩ 1 1 [.string dk, .string dn] rfl rfl (cell_two_at _ _ _ _ _ (by simp)) (fun x hx => by simp at hx; rcases hx with rfl | rfl <;> rfl) (by unfold maxLen; omega) (by omega) (by simp; omega) ?_; intro v5 w5 hown' hgrow5 hnil5)
                  clear hnil5
                  have B5 : Below w1.heap.size w1 w5 := (B3.out.alloc hw3 _).grown hgrow5 (by simp; omega) (fun j hj => own_base O3.out j hj)
                  exact ⟨⟨j + 1, by omega, by go_num, rfl, hid B5, hid (by rw [OT.out]; exact own_snoc (x := (dk, dn)) hown'), ST⟩, by simp [intOf]; omega⟩
                | false =>
                  simp only [if_true, Bool.false_eq_true, if_false, List.append_nil] at OT
                  go_wp2_with fail
                  refine (FWD.out _ BA.out).mono ?_
                  rintro e w2 ⟨rfl, hb⟩
                  obtain ⟨e0, e1, e2, e3, e4⟩ := N0.out.low hb (by simp)
                  have B2w := hid (BA.out.trans (hb.mono BA.out.size))
                  have B2 := hid (BA1.out.trans (hb.mono BA1.out.size))
                  have O2 := hid (own_low OA.out hb)
                  have Z2 : wr.heap.size < w2.heap.size := Nat.lt_of_lt_of_le (by simp) hb.size
                  have hw2 : w1.heap.size ≤ w2.heap.size := B2.out.size
                  clear hb
                  simp only at e0 e1 e2 e3 e4
                  go_wp2_with fail
                  refine (FGD.out _ B2w.out).mono ?_
                  rintro e w9 ⟨rfl, hw⟩; subst hw
                  go_wp2_with fail
                  refine (FXJ.out _ _ _ _ O2.out).mono ?_
                  rintro e w3 ⟨v3, rfl, ho3, hb⟩
                  have O3 := hid (show Own w3 w1.heap.size v3 (delL O dk) from row_mono ho3 B2.out.size)
                  have B3 := hid (B2.out.trans (hb.mono B2.out.size))
                  have f0 := (hb.cell (p := ⟨wr.heap.size, 0, none⟩) Z2).trans e0
                  have f2 := (hb.cell (p := ⟨wr.heap.size, 2, none⟩) Z2).trans e2
                  have f4 := (hb.cell (p := ⟨wr.heap.size, 4, none⟩) Z2).trans e4
                  have hw3 : w1.heap.size ≤ w3.heap.size := B3.out.size
                  have hdl := del_len O dk
                  have Z3 : wr.heap.size < w3.heap.size := Nat.lt_of_lt_of_le Z2 hb.size
                  clear hb ho3 e0 e1 e2 e3 e4
                  go_wp2_with fail
                  exact ⟨⟨j + 1, by omega, by go_num, rfl, B3, hid (by rw [OT.out]; exact O3.out), ST⟩, by simp [intOf]; omega⟩
              | false =>
                cases ds with
                | true =>
                  simp only [if_true, Bool.false_eq_true, if_false] at OT
                  go_wp2_with fail
                  refine (FWD.out _ BA.out).mono ?_
                  rintro e w2 ⟨rfl, hb⟩
                  obtain ⟨e0, e1, e2, e3, e4⟩ := N0.out.low hb (by simp)
                  have B2w := hid (BA.out.trans (hb.mono BA.out.size))
                  have B2 := hid (BA1.out.trans (hb.mono BA1.out.size))
                  have O2 := hid (own_low OA.out hb)
                  have Z2 : wr.heap.size < w2.heap.size := Nat.lt_of_lt_of_le (by simp) hb.size
                  have hw2 : w1.heap.size ≤ w2.heap.size := B2.out.size
                  clear hb
                  simp only at e0 e1 e2 e3 e4
                  go_wp2_with fail
                  refine (FGD.out _ B2w.out).mono ?_
                  rintro e w9 ⟨rfl, hw⟩; subst hw
                  go_wp2_with (at_builtin; refine wpList_append_own _ rfl _ _ 22 rfl w1.heap.size 36 i0 (.agg #[.string ByteArray.empty, .string ByteArray.empty]) 2 32 Tryz.underlying22 hi0 hz0 hz1 hz2 rfl (by decide) _ _ _ rfl (World.ownsRow.alloc O2.out _) ⟨_, 0, none⟩ 1 1 [.string dk, .string dn] rfl rfl (cell_two_at _ _ _ _ _ (by simp)) (fun x hx => by simp at hx; rcases hx with rfl | rfl <;> rfl) (by unfold maxLen; omega) (by omega) (by simp; omega) ?_; intro v5 w5 hown' hgrow5 hnil5)
                  clear hnil5
                  have B5 : Below w1.heap.size w1 w5 := (B2.out.alloc hw2 _).grown hgrow5 (by simp; omega) (fun j hj => own_base O2.out j hj)
                  exact ⟨⟨j + 1, by omega, by go_num, rfl, hid B5, hid (by rw [OT.out]; exact own_snoc (x := (dk, dn)) hown'), ST⟩, by simp [intOf]; omega⟩
                | false =>
                  simp only [Bool.false_eq_true, if_false, List.append_nil] at OT
                  go_wp2_with fail
                  refine (FWD.out _ BA.out).mono ?_
                  rintro e w2 ⟨rfl, hb⟩
                  obtain ⟨e0, e1, e2, e3, e4⟩ := N0.out.low hb (by simp)
                  have B2w := hid (BA.out.trans (hb.mono BA.out.size))
                  have B2 := hid (BA1.out.trans (hb.mono BA1.out.size))
                  have O2 := hid (own_low OA.out hb)
                  have Z2 : wr.heap.size < w2.heap.size := Nat.lt_of_lt_of_le (by simp) hb.size
                  have hw2 : w1.heap.size ≤ w2.heap.size := B2.out.size
                  clear hb
                  simp only at e0 e1 e2 e3 e4
                  go_wp2_with fail
                  refine (FGD.out _ B2w.out).mono ?_
                  rintro e w9 ⟨rfl, hw⟩; subst hw
                  go_wp2_with fail
                  exact ⟨⟨j + 1, by omega, by go_num, rfl, B2, hid (by rw [OT.out]; exact O2.out), ST⟩, by simp [intOf]; omega⟩
          · have hgt' : (gt != dh) = true := by simpa using hgt
            have hgt2 : (gt == dh) = false := by simpa using hgt
            rw [hgt2] at st
            simp only [Bool.and_false, if_true, show ¬ ((38 : Int) = 0) by decide, if_false] at st
            have HE := hid (show E = 38 by rw [HPA.out, st, if_neg (by decide)])
            clear st hgt
            go_wp2_with fail
            refine (FWD.out _ BA.out).mono ?_
            rintro e w2 ⟨rfl, hb⟩
            obtain ⟨e0, e1, e2, e3, e4⟩ := N0.out.low hb (by simp)
            have B2w := hid (BA.out.trans (hb.mono BA.out.size))
            have B2 := hid (BA1.out.trans (hb.mono BA1.out.size))
            have O2 := hid (own_low OA.out hb)
            have Z2 : wr.heap.size < w2.heap.size := Nat.lt_of_lt_of_le (by simp) hb.size
            have hw2 : w1.heap.size ≤ w2.heap.size := B2.out.size
            clear hb
            simp only at e0 e1 e2 e3 e4
            go_wp2_with fail
            refine (FGD.out _ B2w.out).mono ?_
            rintro e w9 ⟨rfl, hw⟩; subst hw
            go_wp2_with fail
            go_ret2
            exact ⟨_, [], by rw [HE.out]; rfl, B2w.out, Or.inl ⟨by rw [HE.out]; decide, rfl⟩⟩
        · rw [if_neg hw0, if_neg hw0] at st
          have hne : (we != 0) = true := by simpa using hw0
          have HE := hid (show E = we by rw [HPA.out, st, if_neg hw0])
          have HW := hid hw0
          clear st hw0
          go_wp2_with fail
          refine (FWD.out _ BA.out).mono ?_
          rintro e w2 ⟨rfl, hb⟩
          have B2w := hid (BA.out.trans (hb.mono BA.out.size))
          clear hb
          go_wp2_with fail
          go_ret2
          exact ⟨_, [], by rw [HE.out]; rfl, B2w.out, Or.inl ⟨by rw [HE.out]; exact HW.out, rfl⟩⟩
      · obtain rfl : j = lenD := by omega
        have HZ := hid (show PE = 0 by rw [HK.out, HLD.out, List.drop_length]; rfl)
        have HPA2 := hid (show E = if 32 < (kept L l ++ newly L).length then 34 else 0 by rw [HPA.out, if_pos HZ.out])
        have OK := hid (show Own wr w1.heap.size _ (kept L l ++ newly L) by
          have o := OW.out
          rw [HLD.out, List.take_length, HOE.out HZ.out] at o
          exact o)
        have HD2 := hid (HDI.out HZ.out)
        have HBw := hid (B1.out.trans (HB.out.mono B1.out.size))
        generalize hKN : kept L l ++ newly L = KN at *
        have HKN := hid hKN
        have hkb := (show KN.length ≤ 2600000000064 by
          have := HOL.out j
          rw [HLD.out, List.take_length, HOE.out HZ.out] at this
          rw [← HLD.out] at this
          omega)
        obtain ⟨ao, co, e⟩ : ∃ a cap, _ = Value.slice a KN.length cap := by
          obtain ⟨a', c', e, _⟩ := own_items OK.out
          exact ⟨a', c', e⟩
        subst e
        have RI := hid (fun h => rrise_any _ KN wr (own_items OK.out) h HD2.out)
        clear hKN OW
        obtain ⟨kn, hkn⟩ : ∃ n, n = KN.length := ⟨_, rfl⟩
        have HKL := hid hkn
        rw [← hkn] at RI hkb HPA2 ⊢
        clear hkn
        by_cases h32 : 32 < kn
        · rw [if_pos h32] at HPA2
          have g3 : (32 : Int) < (kn : Int) := by omega
          go_wp2_with fail
          go_ret2
          exact ⟨_, [], by rw [HPA2.out]; rfl, HBw.out, Or.inl ⟨by rw [HPA2.out]; decide, rfl⟩⟩
        · rw [if_neg h32] at HPA2
          have g3 : (kn : Int) ≤ 32 := by omega
          have R2 := hid (RI.out (by omega))
          go_wp2_with fail
          refine R2.out.mono ?_
          rintro e w4 ⟨v4, l4, rfl, i4, p4, u4, hb⟩
          have B4 := hid (HBw.out.trans (hb.mono HBw.out.size))
          have R4 := hid (show Own w4 w.heap.size v4 l4 ∧ l4.Perm (kept L l ++ newly L) ∧ Up l4 by rw [HKN.out]; exact ⟨own_mono i4 HBw.out.size, p4, u4⟩)
          clear hb i4 p4 u4
          go_wp2_with fail
          go_ret2
          exact ⟨_, l4, by rw [HPA2.out]; rfl, B4.out, Or.inr ⟨HPA2.out, R4.out⟩⟩
theorem rpatch_all (v v2 : Value) (l : List Lb) (L : List Df) (w : World) (hc : Came w v l) (h2 : ItemsD w v2 L) (hg : Good l) (gd : GoodD L) :
    Calls Tryz.prog 30 #[v, v2] w fun e w' => ∃ v' l', e = .returned (.tuple #[v', .int .i64 (patA l L)]) ∧ Below w.heap.size w w' ∧ ((patA l L ≠ 0 ∧ v' = .slice none 0 0) ∨ (patA l L = 0 ∧ Own w' w.heap.size v' l' ∧ l'.Perm (kept L l ++ newly L) ∧ Up l')) := by
  rcases check_cases l with ⟨ho, e⟩ | h
  · exact rpatch_some v v2 l L w hc h2 hg gd ho
  · have e : patA l L = (checkN l).2 := by unfold patA; rw [if_neg h]
    rw [e]
    refine (rpatch_no v v2 l w hc.items hg h).mono ?_
    rintro e w' ⟨rfl, hb⟩
    exact ⟨_, [], rfl, hb, Or.inl ⟨h, rfl⟩⟩
end Go.Proofs.YtkbjjbgmnfngjaaGreatDoor.L
