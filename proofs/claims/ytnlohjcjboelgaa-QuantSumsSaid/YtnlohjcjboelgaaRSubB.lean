import Derived.Test.YtnlohjcjboelgaaRAdd
namespace Go.Proofs.Ytnlohjcjboelgaa.L
open Go.RowKit
set_option linter.unusedVariables false
/-- The first of b that a has too little of. -/
def lackAt (l c : List It) : Nat → Nat → Option Nat
  | 0, _ => none
  | n + 1, k => if getN l (nm c k) < am c k then some k else lackAt l c n (k + 1)
theorem lackAt_step (l c : List It) (len k : Nat) (h : k < len) : lackAt l c (len - k) k = if getN l (nm c k) < am c k then some k else lackAt l c (len - (k + 1)) (k + 1) := by
  obtain ⟨n, rfl⟩ : ∃ n, len = k + 1 + n := ⟨len - (k + 1), by omega⟩
  rw [show k + 1 + n - k = n + 1 by omega, show k + 1 + n - (k + 1) = n by omega]
  rfl
set_option maxHeartbeats 8000000 in
theorem rsub_bad (v1 v2 : Value) (l c : List It) (w : World) (i1 : Items w v1 l) (i2 : Items w v2 c) (g1 : Good l) (g2 : Good c) (bad : chkAll (two l c) 2 0 ≠ 0) :
    Calls Try.prog 14 #[v1, v2] w fun e w' => e = .returned (.tuple #[.slice none 0 0, .string ByteArray.empty, .int .i64 (chkAll (two l c) 2 0)]) ∧ Below w.heap.size w w' := by
  have C1 := hid (rcheck_any v1 l w i1 g1)
  have C2 := hid (fun n => rcheck_any v2 c (w.drewN n) (i2.lowN n) g2)
  rw [chk_two] at bad ⊢
  by_cases h : checkN l = 0
  · rw [if_pos h] at bad ⊢
    rw [h] at C1
    have ne : (checkN c != 0) = true := by simpa using bad
    generalize checkN c = k at *
    go_enter Try.func14, Try.ntmps14
    go_wp2_with fail
    refine C1.out.mono ?_
    rintro e w1 ⟨rfl, n, hww⟩
    subst hww
    go_wp2_with fail
    refine (C2.out n).mono ?_
    rintro e w1 ⟨rfl, n2, hww⟩
    subst hww
    go_wp2_with fail
    go_ret3
    exact ⟨rfl, below_drewN (Below.refl _ _) _⟩
  · rw [if_neg h] at bad ⊢
    have ne : (checkN l != 0) = true := by simpa using h
    have ne2 : (checkN l == 0) = false := by simpa using h
    generalize checkN l = k at *
    go_enter Try.func14, Try.ntmps14
    go_wp2_with fail
    refine C1.out.mono ?_
    rintro e w1 ⟨rfl, n, hww⟩
    subst hww
    go_wp2_with fail
    go_ret3
    exact ⟨rfl, below_drewN (Below.refl _ _) _⟩
end Go.Proofs.Ytnlohjcjboelgaa.L
