import Derived.Test.YtdnoagebcolgbabDoorHG
namespace Go.Proofs.YtdnoagebcolgbabDoor.L
open Go.RowKit Go.Shelf
set_option linter.unusedVariables false
/-- The parts and the kids of the first k parts. -/
def sumK (T : List Pt) : Nat → Nat
  | 0 => T.length
  | k + 1 => sumK T k + (pt T k).kids.length
theorem sumK_mono (T : List Pt) : ∀ {i j : Nat}, i ≤ j → sumK T i ≤ sumK T j := by
  intro i j h
  induction h with
  | refl => exact Nat.le_refl _
  | step _ ih => exact Nat.le_trans ih (Nat.le_add_right _ _)
theorem sumK_kid (T : List Pt) {j k : Nat} (h : j < k) : (pt T j).kids.length ≤ sumK T k :=
  Nat.le_trans (Nat.le_add_left _ _) (sumK_mono T (i := j + 1) h)
set_option maxHeartbeats 4000000 in
set_option maxRecDepth 100000 in
theorem large_any (a : Option Addr) (T : List Pt) (cap : Nat) (w : World) (hT : PL w a T) (hG : GdT T) :
    Calls Tryd.prog 5 #[.agg #[.slice a T.length cap]] w fun e w' => (e = .returned (.bool false) ∧ sumK T T.length ≤ 100000 ∧ Below w.heap.size w w') ∨ (e = .returned (.bool true) ∧ Below w.heap.size w w') := by
  obtain ⟨L, hLe⟩ : ∃ L, L = T.length := ⟨_, rfl⟩
  have HT := hid hT
  have HL := hid hLe
  have HG := hid hG
  have hL : L ≤ 140737488355328 := by rw [hLe]; exact hG.1
  rw [← hLe]
  have HX0 := hid (Boxed.new w 24 (.slice a L cap))
  have HB0 := hid (belowA w (.cells #[.slice a L cap] 24))
  clear hT hLe hG
  go_enter Tryd.func5, Tryd.ntmps5
  go_upto_region 1 with (fail)
  have HTX := hid (HT.out.low HB0.out)
  generalize hXe : w.alloc (.cells #[.slice a L cap] 24) = X at *
  clear hXe
  have xt := HX0.out.cell
  go_wp2_with fail
  go_loopw [3, 4] (fun n i wr => ∃ (k s : Nat), k ≤ L ∧ i = .int .i64 (k : Int) ∧ n = .int .i64 (s : Int) ∧ s ≤ 281474976710656 ∧ Hid (s = sumK T k) ∧ wr = X) (fun _ i _ => L - (intOf i).toNat)
  case atStart => exact ⟨0, L, Nat.zero_le _, rfl, rfl, by omega, hid HL.out, rfl⟩
  case round =>
    obtain ⟨k, s, hk, rfl, rfl, hs, HS, rfl⟩ := hrel
    by_cases hkl : k < L
    · by_cases hs1 : s ≤ 100000
      · have hki : (k : Int) < (L : Int) := by omega
        have hsi : (s : Int) ≤ 100000 := by omega
        rcases HTX.out with h0 | ⟨b2, o2, rfl, hb2, hc2⟩
        · have := HL.out; omega
        obtain ⟨ka, kc, q0, _, _, q3, rk⟩ := hc2 k (by rw [← HL.out]; omega)
        have hkl2 := HG.out.2 k (by rw [← HL.out]; omega)
        obtain ⟨m, hm⟩ : ∃ m, m = (pt T k).kids.length := ⟨_, rfl⟩
        rw [← hm] at hkl2 q3
        have HM := hid hm
        clear hm rk hc2 q0
        have hk4 : ((k : Int) * 4).toNat = k * 4 := by omega
        go_wp2_with fail
        refine ⟨⟨k + 1, s + m, by omega, by simp, by simp, by omega, hid (by rw [HS.out, HM.out]; rfl), trivial⟩, ?_⟩
        show L - ((k : Int) + 1).toNat < L - ((k : Int)).toNat
        omega
      · have hki : (k : Int) < (L : Int) := by omega
        have hsi : ¬ ((s : Int) ≤ 100000) := by omega
        have hsj : (100000 : Int) < (s : Int) := by omega
        go_wp2_with fail
        go_ret
        exact Or.inr ⟨rfl, HB0.out⟩
    · have hki : ¬ ((k : Int) < (L : Int)) := by omega
      by_cases hs1 : s ≤ 100000
      · have hsi : ¬ ((100000 : Int) < (s : Int)) := by omega
        go_wp2_with fail
        go_ret
        refine Or.inl ⟨rfl, ?_, HB0.out⟩
        have : L = k := by omega
        rw [this, ← HS.out]
        exact hs1
      · have hsi : (100000 : Int) < (s : Int) := by omega
        go_wp2_with fail
        go_ret
        exact Or.inr ⟨rfl, HB0.out⟩
end Go.Proofs.YtdnoagebcolgbabDoor.L
