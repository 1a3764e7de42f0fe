import Derived.Test.YtdhjoimiejdgbabDoorMgD
namespace Go.Proofs.YtdhjoimiejdgbabDoor.L
open Go.RowKit Bs Go.Maps
set_option linter.unusedVariables false
theorem Tq.copy {w : World} {pv : Value} {m : Nat} {l : List Rw} {F : List Nat} (h : Tq w pv m l F) : Calls Tryd.prog 45 #[pv, .nilFunc] w fun e w' => ∃ a F', e = .returned (.pointer a) ∧ Tq w' (.pointer a) m l F' ∧ (pv = .pointer none ↔ a = none) ∧ (∀ k ∈ F', w.heap.size ≤ k) ∧ Below w.heap.size w w' := by
  rcases h with ⟨rfl, rfl, rfl, rfl⟩ | ⟨p, rfl, h⟩
  · refine (copy_nil _ w).mono ?_
    rintro e w' ⟨rfl, hb⟩
    exact ⟨none, [], rfl, Or.inl ⟨rfl, rfl, rfl, rfl⟩, by simp, fun k hk => (by cases hk), hb⟩
  · refine (copy_any p m l F w h).mono ?_
    rintro e w' ⟨p', F', rfl, T, hF, hb⟩
    exact ⟨_, F', rfl, Or.inr ⟨p', rfl, T⟩, by simp, hF, hb⟩
theorem cp_end {w0 Y : World} {B : Nat} {G : List Nat} {st : Nat → St} {i j : Nat} {pv' : Value} {F : List Nat} (hi : i < 4) (hj : j < 4) (hr : Re st) (h : Wh w0 Y B G st) (T : Tq Y pv' (st i).m (st i).l F) (hd : ∀ q, q < 4 → ∀ k ∈ F, k ∉ (st q).F) (hf : ∀ k ∈ F, w0.heap.size ≤ k ∨ k ∈ G) (hp : (st i).pv = .pointer none → pv' = .pointer none) :
    ∃ st', Wh w0 (((Y.setCell ⟨B, j, none⟩ pv').setCell ⟨B, 4 + j * 2, none⟩ (.int .i64 (st i).mo)).setCell ⟨B, 4 + j * 2 + 1, none⟩ (st i).v) B G st' ∧ Re st' := by
  have W4 := h.setT hj T hd hf
  have o : OwnD (Y.setCell ⟨B, j, none⟩ pv') (st i).v (st i).d := by
    have := W4.od i hi
    by_cases e : i = j
    · subst e; rw [upd_same] at this; exact this
    · rw [upd_other _ _ e] at this; exact this
  refine ⟨_, W4.setM hj (mo' := (st i).mo) o, ?_⟩
  rw [upd_twice, upd_same]
  refine hr.upd (i := j) (hr i hi).1 ?_
  rcases (hr i hi).2 with e | e
  · exact Or.inl (hp e)
  · exact Or.inr e
set_option maxHeartbeats 8000000 in
set_option maxRecDepth 100000 in
theorem copied_any (w0 w : World) (B : Nat) {G : List Nat} (st : Nat → St) (h : Wh w0 w B G st) (hr : Re st) (i j : Nat) (hi : i < 4) (hj : j < 4) :
    Calls Tryd.prog 35 #[.pointer (some ⟨B, 0, none⟩), .int .i64 (i : Int), .int .i64 (j : Int)] w fun e w' => e = .returned (.bool true) ∧ ∃ st', Wh w0 w' B G st' ∧ Re st' := by
  obtain ⟨b, hb⟩ := (h.tq i hi).form
  have CP := hid (fun W (hW : Wh w0 W B G st) => (hW.tq i hi).copy)
  rw [hb] at CP
  have HW := hid h
  have HR := hid hr
  obtain ⟨c0, c1, c2⟩ := h.cells hi
  rw [hb] at c0
  have HBP := hid hb
  obtain ⟨va, vc, hv⟩ := own_len (h.od i hi)
  have HV := hid hv
  clear h hr hb hv
  have hi4 : (i : Int) < 4 := by omega
  have hj4 : (j : Int) < 4 := by omega
  rcases b with _ | b
  · go_enter Tryd.func35, Tryd.ntmps35
    go_wp2_with fail
    refine (CP.out _ HW.out).mono ?_
    rintro e w2 ⟨a, F', rfl, T, hab, hF, hb2⟩
    obtain rfl : a = none := by simpa using hab
    have W2 := hid (HW.out.low hb2)
    have YE := hid (cp_end hi hj HR.out W2.out T (fun q hq k hk c => by have := (HW.out.tq q hq).lt k c; have := hF k hk; omega) (fun k hk => Or.inl (Nat.le_trans HW.out.lo.size (hF k hk))) (by rw [HBP.out]; simp))
    clear T hF hb2 hab
    obtain ⟨k0, k1, k2⟩ := W2.out.cells hi
    obtain ⟨j0, j1, j2⟩ := W2.out.cells hj
    rw [HBP.out] at k0
    rw [HV.out] at k2
    rw [HV.out] at YE
    have x0 := W2.out.fz j
    have x1 := W2.out.fz (4 + j * 2)
    have x2 := W2.out.fz (4 + j * 2 + 1)
    have n1 : 4 + j * 2 ≠ j := by omega
    have n2 : 4 + j * 2 + 1 ≠ j := by omega
    have n3 : 4 + i * 2 ≠ j := by omega
    have n4 : 4 + i * 2 + 1 ≠ j := by omega
    generalize (st i).mo = mo0 at *
    generalize (st i).d.length = dl0 at *
    generalize (st j).pv = pv1 at *
    generalize (st j).mo = mo1 at *
    generalize (st j).v = vv1 at *
    clear CP HV HBP c0 c1 c2 W2 HW
    go_wp2_with fail
    try go_quiet (fail)
    try go_wp2_with fail
    go_region
    go_wp2_with fail
    go_ret
    obtain ⟨st', hA, hB⟩ := YE.out
    exact ⟨rfl, st', hA.low (belowDr _), hB⟩
  · go_enter Tryd.func35, Tryd.ntmps35
    go_wp2_with fail
    refine (CP.out _ HW.out).mono ?_
    rintro e w2 ⟨a, F', rfl, T, hab, hF, hb2⟩
    obtain ⟨a, rfl⟩ : ∃ q, a = some q := by
      cases a with
      | none => exact absurd (hab.2 rfl) (by simp)
      | some q => exact ⟨q, rfl⟩
    have W2 := hid (HW.out.low hb2)
    have YE := hid (cp_end hi hj HR.out W2.out T (fun q hq k hk c => by have := (HW.out.tq q hq).lt k c; have := hF k hk; omega) (fun k hk => Or.inl (Nat.le_trans HW.out.lo.size (hF k hk))) (by rw [HBP.out]; simp))
    clear T hF hb2 hab
    obtain ⟨k0, k1, k2⟩ := W2.out.cells hi
    obtain ⟨j0, j1, j2⟩ := W2.out.cells hj
    rw [HBP.out] at k0
    rw [HV.out] at k2
    rw [HV.out] at YE
    have x0 := W2.out.fz j
    have x1 := W2.out.fz (4 + j * 2)
    have x2 := W2.out.fz (4 + j * 2 + 1)
    have n1 : 4 + j * 2 ≠ j := by omega
    have n2 : 4 + j * 2 + 1 ≠ j := by omega
    have n3 : 4 + i * 2 ≠ j := by omega
    have n4 : 4 + i * 2 + 1 ≠ j := by omega
    generalize (st i).mo = mo0 at *
    generalize (st i).d.length = dl0 at *
    generalize (st j).pv = pv1 at *
    generalize (st j).mo = mo1 at *
    generalize (st j).v = vv1 at *
    clear CP HV HBP c0 c1 c2 W2 HW
    go_wp2_with fail
    try go_quiet (fail)
    try go_wp2_with fail
    go_region
    go_wp2_with fail
    go_ret
    obtain ⟨st', hA, hB⟩ := YE.out
    exact ⟨rfl, st', hA.low (belowDr _), hB⟩
end Go.Proofs.YtdhjoimiejdgbabDoor.L
