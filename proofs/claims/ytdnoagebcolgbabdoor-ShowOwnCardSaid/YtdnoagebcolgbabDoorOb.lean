import Derived.Test.YtdnoagebcolgbabDoorHI
namespace Go.Proofs.YtdnoagebcolgbabDoor.L
open Go.RowKit
set_option linter.unusedVariables false
set_option maxHeartbeats 4000000 in
set_option maxRecDepth 100000 in
theorem large_is (a : Option Addr) (T : List Pt) (cap : Nat) (w : World) (hT : PL w a T) (hG : GdT T) :
    Calls Tryd.prog 5 #[.agg #[.slice a T.length cap]] w fun e w' => (e = .returned (.bool false) ∧ sumK T T.length ≤ 100000 ∧ Below w.heap.size w w') ∨ (e = .returned (.bool true) ∧ 100000 < sumK T T.length ∧ Below w.heap.size w w') := by
  obtain ⟨L, hLe⟩ : ∃ L, L = T.length := ⟨_, rfl⟩
  have HT := hid hT
  have HL := hid hLe
  have HG := hid hG
  have hL : L ≤ 140737488355328 := by rw [hLe]; exact hG.1
  rw [← hLe]
  have HX0 := hid (Boxed.new w 24 (.slice a L cap))
  have HB0 := hid (belowA w (.cells #[.slice a L cap] 24))
  clear hT hLe hG
  go_enter Tryd.func5, Tryd.ntmps5
  go_upto_region 1 with (fail)
  have HTX := hid (HT.out.low HB0.out)
  generalize hXe : w.alloc (.cells #[.slice a L cap] 24) = X at *
  clear hXe
  have xt := HX0.out.cell
  go_wp2_with fail
  go_loopw [3, 4] (fun n i wr => ∃ (k s : Nat), k ≤ L ∧ i = .int .i64 (k : Int) ∧ n = .int .i64 (s : Int) ∧ s ≤ 281474976710656 ∧ Hid (s = sumK T k) ∧ wr = X) (fun _ i _ => L - (intOf i).toNat)
  case atStart => exact ⟨0, L, Nat.zero_le _, rfl, rfl, by omega, hid HL.out, rfl⟩
  case round =>
    obtain ⟨k, s, hk, rfl, rfl, hs, HS, rfl⟩ := hrel
    by_cases hkl : k < L
    · by_cases hs1 : s ≤ 100000
      · have hki : (k : Int) < (L : Int) := by omega
        have hsi : (s : Int) ≤ 100000 := by omega
        rcases HTX.out with h0 | ⟨b2, o2, rfl, hb2, hc2⟩
        · have := HL.out; omega
        obtain ⟨ka, kc, q0, _, _, q3, rk⟩ := hc2 k (by rw [← HL.out]; omega)
        have hkl2 := HG.out.2 k (by rw [← HL.out]; omega)
        obtain ⟨m, hm⟩ : ∃ m, m = (pt T k).kids.length := ⟨_, rfl⟩
        rw [← hm] at hkl2 q3
        have HM := hid hm
        clear hm rk hc2 q0
        have hk4 : ((k : Int) * 4).toNat = k * 4 := by omega
        go_wp2_with fail
        refine ⟨⟨k + 1, s + m, by omega, by simp, by simp, by omega, hid (by rw [HS.out, HM.out]; rfl), trivial⟩, ?_⟩
        show L - ((k : Int) + 1).toNat < L - ((k : Int)).toNat
        omega
      · have hki : (k : Int) < (L : Int) := by omega
        have hsi : ¬ ((s : Int) ≤ 100000) := by omega
        have hsj : (100000 : Int) < (s : Int) := by omega
        go_wp2_with fail
        go_ret
        have h9 := sumK_mono T (Nat.le_of_lt hkl)
        have h8 := HS.out
        exact Or.inr ⟨rfl, by first | omega | (rw [← HL.out]; omega), HB0.out⟩
    · have hki : ¬ ((k : Int) < (L : Int)) := by omega
      by_cases hs1 : s ≤ 100000
      · have hsi : ¬ ((100000 : Int) < (s : Int)) := by omega
        go_wp2_with fail
        go_ret
        refine Or.inl ⟨rfl, ?_, HB0.out⟩
        have : L = k := by omega
        rw [this, ← HS.out]
        exact hs1
      · have hsi : (100000 : Int) < (s : Int) := by omega
        go_wp2_with fail
        go_ret
        have h7 : L = k := by omega
        have h8 := HS.out
        exact Or.inr ⟨rfl, by first | (rw [h7]; omega) | (rw [← HL.out, h7]; omega), HB0.out⟩
/-- So many kids are there, and parts that are nobody's. -/
theorem sum_kids {T : List Pt} : ∀ i, (∀ j, j < i → OkA T j) → sumK T i + (fre T i).length = T.length + i
  | 0, _ => by simp [sumK, fre]
  | i + 1, hok => by
    have h := sum_kids i (fun j hj => hok j (by omega))
    have hO := hok i (by omega)
    have := hO.many
    rw [sumK, fre, List.length_append, List.length_take]
    simp only [List.length_cons, List.length_nil]
    omega
theorem large_bad {T : List Pt} (h : 100000 < sumK T T.length) (k : Res T 0 0) : False := by
  obtain ⟨h1, h2, h3, _⟩ := k.ok
  have := sum_kids T.length (fun j hj => h3 j hj)
  omega
end Go.Proofs.YtdnoagebcolgbabDoor.L
