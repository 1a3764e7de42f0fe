import Derived.Test.YtkagdmhijjfnnabDoorFr4
namespace Go.Proofs.YtkagdmhijjfnnabDoor
open Go.RowKit Bs
set_option linter.unusedVariables false
theorem Ints.row {w : World} {v : Value} {zs : List Int} (h : Ints w v zs) : ∃ a cap, v = .slice a zs.length cap ∧ (0 < zs.length → ∃ b off, a = some ⟨b, off, none⟩ ∧ ∀ j, j < zs.length → w.cell? ⟨b, off + j, none⟩ = some (.int .i64 (zs.getD j 0))) := by
  rcases h with ⟨a, cap, rfl, rfl⟩ | ⟨b, off, cap, rfl, hb, hc⟩
  · exact ⟨a, cap, rfl, fun h => absurd h (by decide)⟩
  · exact ⟨_, cap, rfl, fun _ => ⟨b, off, rfl, hc⟩⟩
set_option maxRecDepth 100000 in
set_option maxHeartbeats 4000000 in
theorem fresh_law (n : Nat) (vA vB vC : Value) (zA zB zC : List Int) (w : World) (ht : Tab w) (hn : n ≤ 65536) (iA : Ints w vA zA) (iB : Ints w vB zB) (iC : Ints w vC zC) (rA : zA.length * 8 ≤ 140737488351232) (rB : zB.length * 8 ≤ 140737488351232) (rC : zC.length * 8 ≤ 140737488351232) :
    Calls Tryd.prog 5 #[.agg #[.int .i64 n, vA, vB, vC]] w fun e w' => e = .returned (.bool true) ∧ Below w.heap.size w w' := by
  have HT := hid ht
  have HA := hid iA
  have HBB := hid iB
  have HCC := hid iC
  have hn0 : 0 ≤ (n : Int) := by omega
  have hn1 : (n : Int) ≤ 65536 := by omega
  have HRA := hid rA
  have HRB := hid rB
  have HRC := hid rC
  clear ht iA rA iB rB iC rC
  go_enter Tryd.func5, Tryd.ntmps5
  go_wp2_with fail
  refine (begin_all n vA vB vC w HT.out).mono ?_
  rintro e w1 ⟨rfl, hx, hb1, hs1⟩
  have hx0 := hx.c0
  have hx1 := hx.c1
  have hx2 := hx.c2
  have X1 := hid hx
  have B1 := hid hb1
  have S1 := hid hs1
  clear hx hb1 hs1
  go_wp2_with fail
  refine (sized_yes _ _ hn0 hn1).mono ?_
  rintro e w2 ⟨rfl, hww⟩
  subst hww
  go_wp2_with fail
  go_region_held3 (fun W => W.cell? ⟨w.heap.size, 0, none⟩ = some (.int .i64 n) ∧ W.cell? ⟨w.heap.size, 1, none⟩ = some vA ∧ W.cell? ⟨w.heap.size, 2, none⟩ = some vB)
    (first | exact ⟨hx0, hx1, hx2⟩ | exact ⟨xD.c0, xD.c1, xD.c2⟩ | exact ⟨xC.c0, xC.c1, xC.c2⟩ | exact ⟨xB.c0, xB.c1, xB.c2⟩ | exact ⟨xA.c0, xA.c1, xA.c2⟩)
    (first
      | (go_at_call_of 8 vA; refine (of_new n vA zA _ hn HRA.out ?_).mono ?_; exact HA.out.low B1.out.drew; rintro e w3 ⟨pa, qa, rfl, fA⟩; have xA := X1.out.drew.low fA.low)
      | (go_at_call_of 8 vB; refine (of_new n vB zB _ hn HRB.out ?_).mono ?_; exact (HBB.out.low B1.out.drew).low fA.low; rintro e w4 ⟨pb, qb, rfl, fB⟩; have xB := xA.low fB.low)
      | (go_at_call_of 8 n; refine (of_new n (.slice none 0 0) [] _ hn (by decide) (Or.inl ⟨none, 0, rfl, rfl⟩)).mono ?_; rintro e w5 ⟨po, qo, rfl, fO⟩; have xC := xB.low fO.low)
      | (go_at_call 8; refine (of_new 0 (.slice none 0 0) [] _ (by decide) (by decide) (Or.inl ⟨none, 0, rfl, rfl⟩)).mono ?_; rintro e w6 ⟨pz, qz, rfl, fZ⟩; have xD := xC.low fZ.low))
  have B6 := hid ((((belowT B1.out.drew fA.low).trans (fB.low.mono (Nat.le_trans B1.out.drew.size fA.low.size))).trans (fO.low.mono (Nat.le_trans (Nat.le_trans B1.out.drew.size fA.low.size) fB.low.size))).trans (fZ.low.mono (Nat.le_trans (Nat.le_trans (Nat.le_trans B1.out.drew.size fA.low.size) fB.low.size) fO.low.size)))
  obtain ⟨x, hx⟩ : ∃ x : Fp, x = ⟨w, n, vA, vB, vC, pa, qa, pb, qb, po, qo, pz, qz, sOf n zA, sOf n zB, sOf n [], sOf 0 []⟩ := ⟨_, rfl⟩
  have F6 : Hid (Fl x w6) := by
    have h1 := S1.out
    have h3 := fA.hq
    have h5 := fB.hq
    have h7 := fO.hq
    have h9 := fZ.hq
    have k3 := fA.at'.qlt
    have k5 := fB.at'.qlt
    have k7 := fO.at'.qlt
    have s3 := fB.low.size
    have s5 := fO.low.size
    have s7 := fZ.low.size
    have s1 := fA.low.size
    have h8 : w2.drew.heap.size = w2.heap.size := rfl
    rw [hx]
    refine ⟨HT.out.low B6.out HT.out.pos, xD, ((fA.at'.low fB.low).low fO.low).low fZ.low, (fB.at'.low fO.low).low fZ.low, fO.at'.low fZ.low, fZ.at', ?_, ?_, ?_, ?_, ?_, ?_, ?_, ?_, ?_, ?_, B6.out⟩
    all_goals simp only []
    all_goals omega
  have e1 : x.pa = pa := by rw [hx]
  have e2 : x.pb = pb := by rw [hx]
  have e3 : x.po = po := by rw [hx]
  have e4 : x.pz = pz := by rw [hx]
  have e5 : x.w0 = w := by rw [hx]
  have e6 : x.vC = vC := by rw [hx]
  clear fA fB fO fZ xA xB xC xD hx X1 B1 S1 hx0 hx1 hx2 B6
  subst e1 e2 e3 e4 e5 e6
  go_wp2_with fail
  refine (all_four w6 _ _ _ _).mono ?_
  rintro e w7 ⟨rfl, hww⟩
  have F7 : Hid (Fl x w7) := by
    rw [hww]
    have hb := lowAlloc w6 (.cells #[.pointer (some ⟨x.pa, 0, none⟩), .pointer (some ⟨x.pb, 0, none⟩), .pointer (some ⟨x.po, 0, none⟩), .pointer (some ⟨x.pz, 0, none⟩)] 27)
    exact F6.out.next (va := .pointer none) (vb := .pointer none) (u := 0) (v := 0) ⟨hb.os, hb.tape, hb.output, hb.size, fun k hk _ _ => hb.block k hk⟩ (F6.out.tab.low hb F6.out.tab.pos) (Or.inl rfl) (Or.inl rfl) (F6.out.a.low hb) (F6.out.b.low hb) (F6.out.o.low hb) (F6.out.z.low hb)
  clear hww F6
  go_wp2_with fail
  go_loopw [7] (fun i wr => ∃ k : Nat, k ≤ 6 ∧ i = .int .i64 k ∧ Fl x wr) (fun i _ => 6 - (intOf i).toNat)
  case atStart => exact ⟨0, Nat.zero_le _, rfl, F7.out⟩
  case round =>
    clear F7
    obtain ⟨k, hk, rfl, hf⟩ := hrel
    have FF := hid hf
    clear hf
    by_cases hlt : k < 6
    · have hlt' : (k : Int) < 6 := by omega
      have hx3 := FF.out.xa.c3
      obtain ⟨aC, capC, eC, hrow⟩ := (HCC.out.low FF.out.low).row
      rw [eC] at hx3
      obtain ⟨L, hL⟩ : ∃ L, L = zC.length := ⟨_, rfl⟩
      rw [← hL] at hx3 hrow
      have hLb : (L : Int) ≤ 140737488351232 := by have := HRC.out; omega
      clear eC hL
      by_cases hl0 : L = 0
      · subst hl0
        clear hrow
        go_wp2_with fail
        refine (fresh_ab FF.out k hlt 0).mono ?_
        rintro e u0w ⟨rfl, f0⟩
        have G0 := hid f0
        clear f0 FF
        go_wp2_with fail
        refine (fresh_aa G0.out k hlt 0).mono ?_
        rintro e u1w ⟨rfl, f1⟩
        have G1 := hid f1
        clear f1 G0
        go_wp2_with fail
        refine (fresh_ao G1.out k hlt 0).mono ?_
        rintro e u2w ⟨rfl, f2⟩
        have G2 := hid f2
        clear f2 G1
        go_wp2_with fail
        refine (fresh_oa G2.out k hlt 0).mono ?_
        rintro e u3w ⟨rfl, f3⟩
        have G3 := hid f3
        clear f3 G2
        go_wp2_with fail
        refine (fresh_az G3.out k hlt 0).mono ?_
        rintro e u4w ⟨rfl, f4⟩
        have G4 := hid f4
        clear f4 G3
        go_wp2_with fail
        refine (fresh_za G4.out k hlt 0).mono ?_
        rintro e u5w ⟨rfl, f5⟩
        have G5 := hid f5
        clear f5 G4
        go_wp2_with fail
        refine (fresh_an G5.out k hlt 0).mono ?_
        rintro e u6w ⟨rfl, f6⟩
        have G6 := hid f6
        clear f6 G5
        go_wp2_with fail
        refine (fresh_nb G6.out k hlt 0).mono ?_
        rintro e u7w ⟨rfl, f7⟩
        have G7 := hid f7
        clear f7 G6
        go_wp2_with fail
        exact ⟨⟨k + 1, by omega, by go_num, G7.out⟩, by simp [intOf]; omega⟩
      · have hlp : 0 < L := by omega
        have hlp' : (0 : Int) < (L : Int) := by omega
        obtain ⟨b, off, rfl, hc⟩ := hrow hlp
        obtain ⟨j, hj⟩ : ∃ j, j = k % L := ⟨_, rfl⟩
        have hjl : j < L := by rw [hj]; exact Nat.mod_lt _ hlp
        have hjl' : (j : Int) < (L : Int) := by omega
        have hm : (k : Int).tmod (L : Int) = (j : Int) := by rw [hj, Int.tmod_eq_emod_of_nonneg (by omega)]; rfl
        have hz := hc j hjl
        generalize zC.getD j 0 = z at hz
        have hne : ((L : Int) == 0) = false := by simp; omega
        clear hc hj hl0
        go_wp2_with fail
        go_quiet (fail)
        go_wp2_with fail
        refine (fresh_ab (FF.out.drewN _) k hlt z).mono ?_
        rintro e u0w ⟨rfl, f0⟩
        have G0 := hid f0
        clear f0 FF
        go_wp2_with fail
        refine (fresh_aa G0.out k hlt z).mono ?_
        rintro e u1w ⟨rfl, f1⟩
        have G1 := hid f1
        clear f1 G0
        go_wp2_with fail
        refine (fresh_ao G1.out k hlt z).mono ?_
        rintro e u2w ⟨rfl, f2⟩
        have G2 := hid f2
        clear f2 G1
        go_wp2_with fail
        refine (fresh_oa G2.out k hlt z).mono ?_
        rintro e u3w ⟨rfl, f3⟩
        have G3 := hid f3
        clear f3 G2
        go_wp2_with fail
        refine (fresh_az G3.out k hlt z).mono ?_
        rintro e u4w ⟨rfl, f4⟩
        have G4 := hid f4
        clear f4 G3
        go_wp2_with fail
        refine (fresh_za G4.out k hlt z).mono ?_
        rintro e u5w ⟨rfl, f5⟩
        have G5 := hid f5
        clear f5 G4
        go_wp2_with fail
        refine (fresh_an G5.out k hlt z).mono ?_
        rintro e u6w ⟨rfl, f6⟩
        have G6 := hid f6
        clear f6 G5
        go_wp2_with fail
        refine (fresh_nb G6.out k hlt z).mono ?_
        rintro e u7w ⟨rfl, f7⟩
        have G7 := hid f7
        clear f7 G6
        go_wp2_with fail
        exact ⟨⟨k + 1, by omega, by go_num, G7.out⟩, by simp [intOf]; omega⟩
    · obtain rfl : k = 6 := by omega
      go_wp2_with fail
      go_ret
      exact ⟨rfl, FF.out.low⟩
set_option maxRecDepth 100000 in
set_option maxHeartbeats 1000000 in
theorem fresh_out (N : Int) (vA vB vC : Value) (w : World) (ht : Tab w) (hN : ¬ (0 ≤ N ∧ N ≤ 65536)) :
    Calls Tryd.prog 5 #[.agg #[.int .i64 N, vA, vB, vC]] w fun e w' => e = .returned (.bool true) ∧ Below w.heap.size w w' := by
  have HN := hid hN
  have HT := hid ht
  clear hN ht
  go_enter Tryd.func5, Tryd.ntmps5
  go_wp2_with fail
  refine (begin_all N vA vB vC w HT.out).mono ?_
  rintro e w1 ⟨rfl, hx, hb, _⟩
  have hx0 := hx.c0
  have HB := hid hb
  clear hx hb
  go_wp2_with fail
  refine (sized_no _ _ HN.out).mono ?_
  rintro e w2 ⟨rfl, hww⟩
  subst hww
  go_wp2_with fail
  refine (awake_any _ (HT.out.low HB.out HT.out.pos)).mono ?_
  rintro e w3 ⟨rfl, h3⟩
  have H3 := hid (belowT HB.out h3)
  clear h3
  go_wp2_with fail
  go_ret
  exact ⟨rfl, H3.out⟩
theorem fresh_all (N : Int) (vA vB vC : Value) (zA zB zC : List Int) (w : World) (ht : Tab w) (iA : Ints w vA zA) (iB : Ints w vB zB) (iC : Ints w vC zC) (rA : zA.length * 8 ≤ 140737488351232) (rB : zB.length * 8 ≤ 140737488351232) (rC : zC.length * 8 ≤ 140737488351232) :
    Calls Tryd.prog 5 #[.agg #[.int .i64 N, vA, vB, vC]] w fun e w' => e = .returned (.bool true) ∧ Below w.heap.size w w' := by
  by_cases h : 0 ≤ N ∧ N ≤ 65536
  · obtain ⟨n, rfl⟩ : ∃ n : Nat, N = n := ⟨N.toNat, by omega⟩
    exact fresh_law n vA vB vC zA zB zC w ht (by omega) iA iB iC rA rB rC
  · exact fresh_out N vA vB vC w ht h
end Go.Proofs.YtkagdmhijjfnnabDoor
