import Derived.Test.YtimmjikpcekffaaGreatDoorMgAW
import Derived.Test.YtimmjikpcekffaaGreatDoorMgAM
namespace Go.Proofs.YtimmjikpcekffaaGreatDoor.L
open Go.RowKit
set_option linter.unusedVariables false
/-- What a part asks for is known in its scope. -/
def kwB (k nu sc : Int) : Bool :=
  if k = 8 ∨ k = 9 ∨ k = 20 ∨ k = 10 then sc == 2
  else if k = 17 ∨ k = 18 then nu == 2 && sc == 2
  else if k = 14 ∨ k = 15 ∨ k = 16 then nu == 1 || nu == sc
  else true
set_option maxHeartbeats 4000000 in
set_option maxRecDepth 100000 in
theorem kn_8 (tx : ByteArray) (nu sc : Int) (kv : Value) (w : World) : Calls Tryz.prog 140 #[.agg #[.int .i64 8, .string tx, .int .i64 nu, kv], .int .i64 sc] w fun e w' => e = .returned (.bool (kwB 8 nu sc)) ∧ Below w.heap.size w w' := by
  cases h1 : (sc == 2)
  · have HB := hid (belowA w (.cells #[.int .i64 8, .string tx, .int .i64 nu, kv] 31))
    have HC := hid (cells4 (heap_alloc_new w (.cells #[.int .i64 8, .string tx, .int .i64 nu, kv] 31)))
    go_enter Tryz.func140, Tryz.ntmps140
    go_upto_region 1 with (fail)
    have ⟨x0, x1, x2, x3⟩ := HC.out
    generalize w.alloc (.cells #[.int .i64 8, .string tx, .int .i64 nu, kv] 31) = X at *
    go_wp2_with fail
    go_ret
    exact ⟨ret_bool (by simp [kwB, h1]), HB.out⟩
  · have HB := hid (belowA w (.cells #[.int .i64 8, .string tx, .int .i64 nu, kv] 31))
    have HC := hid (cells4 (heap_alloc_new w (.cells #[.int .i64 8, .string tx, .int .i64 nu, kv] 31)))
    go_enter Tryz.func140, Tryz.ntmps140
    go_upto_region 1 with (fail)
    have ⟨x0, x1, x2, x3⟩ := HC.out
    generalize w.alloc (.cells #[.int .i64 8, .string tx, .int .i64 nu, kv] 31) = X at *
    go_wp2_with fail
    go_ret
    exact ⟨ret_bool (by simp [kwB, h1]), HB.out⟩
set_option maxHeartbeats 4000000 in
set_option maxRecDepth 100000 in
theorem kn_9 (tx : ByteArray) (nu sc : Int) (kv : Value) (w : World) : Calls Tryz.prog 140 #[.agg #[.int .i64 9, .string tx, .int .i64 nu, kv], .int .i64 sc] w fun e w' => e = .returned (.bool (kwB 9 nu sc)) ∧ Below w.heap.size w w' := by
  cases h1 : (sc == 2)
  · have HB := hid (belowA w (.cells #[.int .i64 9, .string tx, .int .i64 nu, kv] 31))
    have HC := hid (cells4 (heap_alloc_new w (.cells #[.int .i64 9, .string tx, .int .i64 nu, kv] 31)))
    go_enter Tryz.func140, Tryz.ntmps140
    go_upto_region 1 with (fail)
    have ⟨x0, x1, x2, x3⟩ := HC.out
    generalize w.alloc (.cells #[.int .i64 9, .string tx, .int .i64 nu, kv] 31) = X at *
    go_wp2_with fail
    go_ret
    exact ⟨ret_bool (by simp [kwB, h1]), HB.out⟩
  · have HB := hid (belowA w (.cells #[.int .i64 9, .string tx, .int .i64 nu, kv] 31))
    have HC := hid (cells4 (heap_alloc_new w (.cells #[.int .i64 9, .string tx, .int .i64 nu, kv] 31)))
    go_enter Tryz.func140, Tryz.ntmps140
    go_upto_region 1 with (fail)
    have ⟨x0, x1, x2, x3⟩ := HC.out
    generalize w.alloc (.cells #[.int .i64 9, .string tx, .int .i64 nu, kv] 31) = X at *
    go_wp2_with fail
    go_ret
    exact ⟨ret_bool (by simp [kwB, h1]), HB.out⟩
set_option maxHeartbeats 4000000 in
set_option maxRecDepth 100000 in
theorem kn_20 (tx : ByteArray) (nu sc : Int) (kv : Value) (w : World) : Calls Tryz.prog 140 #[.agg #[.int .i64 20, .string tx, .int .i64 nu, kv], .int .i64 sc] w fun e w' => e = .returned (.bool (kwB 20 nu sc)) ∧ Below w.heap.size w w' := by
  cases h1 : (sc == 2)
  · have HB := hid (belowA w (.cells #[.int .i64 20, .string tx, .int .i64 nu, kv] 31))
    have HC := hid (cells4 (heap_alloc_new w (.cells #[.int .i64 20, .string tx, .int .i64 nu, kv] 31)))
    go_enter Tryz.func140, Tryz.ntmps140
    go_upto_region 1 with (fail)
    have ⟨x0, x1, x2, x3⟩ := HC.out
    generalize w.alloc (.cells #[.int .i64 20, .string tx, .int .i64 nu, kv] 31) = X at *
    go_wp2_with fail
    go_ret
    exact ⟨ret_bool (by simp [kwB, h1]), HB.out⟩
  · have HB := hid (belowA w (.cells #[.int .i64 20, .string tx, .int .i64 nu, kv] 31))
    have HC := hid (cells4 (heap_alloc_new w (.cells #[.int .i64 20, .string tx, .int .i64 nu, kv] 31)))
    go_enter Tryz.func140, Tryz.ntmps140
    go_upto_region 1 with (fail)
    have ⟨x0, x1, x2, x3⟩ := HC.out
    generalize w.alloc (.cells #[.int .i64 20, .string tx, .int .i64 nu, kv] 31) = X at *
    go_wp2_with fail
    go_ret
    exact ⟨ret_bool (by simp [kwB, h1]), HB.out⟩
set_option maxHeartbeats 4000000 in
set_option maxRecDepth 100000 in
theorem kn_10 (tx : ByteArray) (nu sc : Int) (kv : Value) (w : World) : Calls Tryz.prog 140 #[.agg #[.int .i64 10, .string tx, .int .i64 nu, kv], .int .i64 sc] w fun e w' => e = .returned (.bool (kwB 10 nu sc)) ∧ Below w.heap.size w w' := by
  cases h1 : (sc == 2)
  · have HB := hid (belowA w (.cells #[.int .i64 10, .string tx, .int .i64 nu, kv] 31))
    have HC := hid (cells4 (heap_alloc_new w (.cells #[.int .i64 10, .string tx, .int .i64 nu, kv] 31)))
    go_enter Tryz.func140, Tryz.ntmps140
    go_upto_region 1 with (fail)
    have ⟨x0, x1, x2, x3⟩ := HC.out
    generalize w.alloc (.cells #[.int .i64 10, .string tx, .int .i64 nu, kv] 31) = X at *
    go_wp2_with fail
    go_ret
    exact ⟨ret_bool (by simp [kwB, h1]), HB.out⟩
  · have HB := hid (belowA w (.cells #[.int .i64 10, .string tx, .int .i64 nu, kv] 31))
    have HC := hid (cells4 (heap_alloc_new w (.cells #[.int .i64 10, .string tx, .int .i64 nu, kv] 31)))
    go_enter Tryz.func140, Tryz.ntmps140
    go_upto_region 1 with (fail)
    have ⟨x0, x1, x2, x3⟩ := HC.out
    generalize w.alloc (.cells #[.int .i64 10, .string tx, .int .i64 nu, kv] 31) = X at *
    go_wp2_with fail
    go_ret
    exact ⟨ret_bool (by simp [kwB, h1]), HB.out⟩
set_option maxHeartbeats 4000000 in
set_option maxRecDepth 100000 in
theorem kn_17 (tx : ByteArray) (nu sc : Int) (kv : Value) (w : World) : Calls Tryz.prog 140 #[.agg #[.int .i64 17, .string tx, .int .i64 nu, kv], .int .i64 sc] w fun e w' => e = .returned (.bool (kwB 17 nu sc)) ∧ Below w.heap.size w w' := by
  cases h1 : (nu == 2)
  · have HB := hid (belowA w (.cells #[.int .i64 17, .string tx, .int .i64 nu, kv] 31))
    have HC := hid (cells4 (heap_alloc_new w (.cells #[.int .i64 17, .string tx, .int .i64 nu, kv] 31)))
    go_enter Tryz.func140, Tryz.ntmps140
    go_upto_region 1 with (fail)
    have ⟨x0, x1, x2, x3⟩ := HC.out
    generalize w.alloc (.cells #[.int .i64 17, .string tx, .int .i64 nu, kv] 31) = X at *
    go_wp2_with fail
    go_ret
    exact ⟨ret_bool (by simp [kwB, h1]), HB.out⟩
  · cases h2 : (sc == 2)
    · have HB := hid (belowA w (.cells #[.int .i64 17, .string tx, .int .i64 nu, kv] 31))
      have HC := hid (cells4 (heap_alloc_new w (.cells #[.int .i64 17, .string tx, .int .i64 nu, kv] 31)))
      go_enter Tryz.func140, Tryz.ntmps140
      go_upto_region 1 with (fail)
      have ⟨x0, x1, x2, x3⟩ := HC.out
      generalize w.alloc (.cells #[.int .i64 17, .string tx, .int .i64 nu, kv] 31) = X at *
      go_wp2_with fail
      go_ret
      exact ⟨ret_bool (by simp [kwB, h1, h2]), HB.out⟩
    · have HB := hid (belowA w (.cells #[.int .i64 17, .string tx, .int .i64 nu, kv] 31))
      have HC := hid (cells4 (heap_alloc_new w (.cells #[.int .i64 17, .string tx, .int .i64 nu, kv] 31)))
      go_enter Tryz.func140, Tryz.ntmps140
      go_upto_region 1 with (fail)
      have ⟨x0, x1, x2, x3⟩ := HC.out
      generalize w.alloc (.cells #[.int .i64 17, .string tx, .int .i64 nu, kv] 31) = X at *
      go_wp2_with fail
      go_ret
      exact ⟨ret_bool (by simp [kwB, h1, h2]), HB.out⟩
set_option maxHeartbeats 4000000 in
set_option maxRecDepth 100000 in
theorem kn_18 (tx : ByteArray) (nu sc : Int) (kv : Value) (w : World) : Calls Tryz.prog 140 #[.agg #[.int .i64 18, .string tx, .int .i64 nu, kv], .int .i64 sc] w fun e w' => e = .returned (.bool (kwB 18 nu sc)) ∧ Below w.heap.size w w' := by
  cases h1 : (nu == 2)
  · have HB := hid (belowA w (.cells #[.int .i64 18, .string tx, .int .i64 nu, kv] 31))
    have HC := hid (cells4 (heap_alloc_new w (.cells #[.int .i64 18, .string tx, .int .i64 nu, kv] 31)))
    go_enter Tryz.func140, Tryz.ntmps140
    go_upto_region 1 with (fail)
    have ⟨x0, x1, x2, x3⟩ := HC.out
    generalize w.alloc (.cells #[.int .i64 18, .string tx, .int .i64 nu, kv] 31) = X at *
    go_wp2_with fail
    go_ret
    exact ⟨ret_bool (by simp [kwB, h1]), HB.out⟩
  · cases h2 : (sc == 2)
    · have HB := hid (belowA w (.cells #[.int .i64 18, .string tx, .int .i64 nu, kv] 31))
      have HC := hid (cells4 (heap_alloc_new w (.cells #[.int .i64 18, .string tx, .int .i64 nu, kv] 31)))
      go_enter Tryz.func140, Tryz.ntmps140
      go_upto_region 1 with (fail)
      have ⟨x0, x1, x2, x3⟩ := HC.out
      generalize w.alloc (.cells #[.int .i64 18, .string tx, .int .i64 nu, kv] 31) = X at *
      go_wp2_with fail
      go_ret
      exact ⟨ret_bool (by simp [kwB, h1, h2]), HB.out⟩
    · have HB := hid (belowA w (.cells #[.int .i64 18, .string tx, .int .i64 nu, kv] 31))
      have HC := hid (cells4 (heap_alloc_new w (.cells #[.int .i64 18, .string tx, .int .i64 nu, kv] 31)))
      go_enter Tryz.func140, Tryz.ntmps140
      go_upto_region 1 with (fail)
      have ⟨x0, x1, x2, x3⟩ := HC.out
      generalize w.alloc (.cells #[.int .i64 18, .string tx, .int .i64 nu, kv] 31) = X at *
      go_wp2_with fail
      go_ret
      exact ⟨ret_bool (by simp [kwB, h1, h2]), HB.out⟩
set_option maxHeartbeats 4000000 in
set_option maxRecDepth 100000 in
theorem kn_14 (tx : ByteArray) (nu sc : Int) (kv : Value) (w : World) : Calls Tryz.prog 140 #[.agg #[.int .i64 14, .string tx, .int .i64 nu, kv], .int .i64 sc] w fun e w' => e = .returned (.bool (kwB 14 nu sc)) ∧ Below w.heap.size w w' := by
  cases h1 : (nu == 1)
  · cases h2 : (nu == sc)
    · have HB := hid (belowA w (.cells #[.int .i64 14, .string tx, .int .i64 nu, kv] 31))
      have HC := hid (cells4 (heap_alloc_new w (.cells #[.int .i64 14, .string tx, .int .i64 nu, kv] 31)))
      go_enter Tryz.func140, Tryz.ntmps140
      go_upto_region 1 with (fail)
      have ⟨x0, x1, x2, x3⟩ := HC.out
      generalize w.alloc (.cells #[.int .i64 14, .string tx, .int .i64 nu, kv] 31) = X at *
      go_wp2_with fail
      go_ret
      exact ⟨ret_bool (by simp [kwB, h1, h2]), HB.out⟩
    · have HB := hid (belowA w (.cells #[.int .i64 14, .string tx, .int .i64 nu, kv] 31))
      have HC := hid (cells4 (heap_alloc_new w (.cells #[.int .i64 14, .string tx, .int .i64 nu, kv] 31)))
      go_enter Tryz.func140, Tryz.ntmps140
      go_upto_region 1 with (fail)
      have ⟨x0, x1, x2, x3⟩ := HC.out
      generalize w.alloc (.cells #[.int .i64 14, .string tx, .int .i64 nu, kv] 31) = X at *
      go_wp2_with fail
      go_ret
      exact ⟨ret_bool (by simp [kwB, h1, h2]), HB.out⟩
  · have HB := hid (belowA w (.cells #[.int .i64 14, .string tx, .int .i64 nu, kv] 31))
    have HC := hid (cells4 (heap_alloc_new w (.cells #[.int .i64 14, .string tx, .int .i64 nu, kv] 31)))
    go_enter Tryz.func140, Tryz.ntmps140
    go_upto_region 1 with (fail)
    have ⟨x0, x1, x2, x3⟩ := HC.out
    generalize w.alloc (.cells #[.int .i64 14, .string tx, .int .i64 nu, kv] 31) = X at *
    go_wp2_with fail
    go_ret
    exact ⟨ret_bool (by simp [kwB, h1]), HB.out⟩
set_option maxHeartbeats 4000000 in
set_option maxRecDepth 100000 in
theorem kn_15 (tx : ByteArray) (nu sc : Int) (kv : Value) (w : World) : Calls Tryz.prog 140 #[.agg #[.int .i64 15, .string tx, .int .i64 nu, kv], .int .i64 sc] w fun e w' => e = .returned (.bool (kwB 15 nu sc)) ∧ Below w.heap.size w w' := by
  cases h1 : (nu == 1)
  · cases h2 : (nu == sc)
    · have HB := hid (belowA w (.cells #[.int .i64 15, .string tx, .int .i64 nu, kv] 31))
      have HC := hid (cells4 (heap_alloc_new w (.cells #[.int .i64 15, .string tx, .int .i64 nu, kv] 31)))
      go_enter Tryz.func140, Tryz.ntmps140
      go_upto_region 1 with (fail)
      have ⟨x0, x1, x2, x3⟩ := HC.out
      generalize w.alloc (.cells #[.int .i64 15, .string tx, .int .i64 nu, kv] 31) = X at *
      go_wp2_with fail
      go_ret
      exact ⟨ret_bool (by simp [kwB, h1, h2]), HB.out⟩
    · have HB := hid (belowA w (.cells #[.int .i64 15, .string tx, .int .i64 nu, kv] 31))
      have HC := hid (cells4 (heap_alloc_new w (.cells #[.int .i64 15, .string tx, .int .i64 nu, kv] 31)))
      go_enter Tryz.func140, Tryz.ntmps140
      go_upto_region 1 with (fail)
      have ⟨x0, x1, x2, x3⟩ := HC.out
      generalize w.alloc (.cells #[.int .i64 15, .string tx, .int .i64 nu, kv] 31) = X at *
      go_wp2_with fail
      go_ret
      exact ⟨ret_bool (by simp [kwB, h1, h2]), HB.out⟩
  · have HB := hid (belowA w (.cells #[.int .i64 15, .string tx, .int .i64 nu, kv] 31))
    have HC := hid (cells4 (heap_alloc_new w (.cells #[.int .i64 15, .string tx, .int .i64 nu, kv] 31)))
    go_enter Tryz.func140, Tryz.ntmps140
    go_upto_region 1 with (fail)
    have ⟨x0, x1, x2, x3⟩ := HC.out
    generalize w.alloc (.cells #[.int .i64 15, .string tx, .int .i64 nu, kv] 31) = X at *
    go_wp2_with fail
    go_ret
    exact ⟨ret_bool (by simp [kwB, h1]), HB.out⟩
set_option maxHeartbeats 4000000 in
set_option maxRecDepth 100000 in
theorem kn_16 (tx : ByteArray) (nu sc : Int) (kv : Value) (w : World) : Calls Tryz.prog 140 #[.agg #[.int .i64 16, .string tx, .int .i64 nu, kv], .int .i64 sc] w fun e w' => e = .returned (.bool (kwB 16 nu sc)) ∧ Below w.heap.size w w' := by
  cases h1 : (nu == 1)
  · cases h2 : (nu == sc)
    · have HB := hid (belowA w (.cells #[.int .i64 16, .string tx, .int .i64 nu, kv] 31))
      have HC := hid (cells4 (heap_alloc_new w (.cells #[.int .i64 16, .string tx, .int .i64 nu, kv] 31)))
      go_enter Tryz.func140, Tryz.ntmps140
      go_upto_region 1 with (fail)
      have ⟨x0, x1, x2, x3⟩ := HC.out
      generalize w.alloc (.cells #[.int .i64 16, .string tx, .int .i64 nu, kv] 31) = X at *
      go_wp2_with fail
      go_ret
      exact ⟨ret_bool (by simp [kwB, h1, h2]), HB.out⟩
    · have HB := hid (belowA w (.cells #[.int .i64 16, .string tx, .int .i64 nu, kv] 31))
      have HC := hid (cells4 (heap_alloc_new w (.cells #[.int .i64 16, .string tx, .int .i64 nu, kv] 31)))
      go_enter Tryz.func140, Tryz.ntmps140
      go_upto_region 1 with (fail)
      have ⟨x0, x1, x2, x3⟩ := HC.out
      generalize w.alloc (.cells #[.int .i64 16, .string tx, .int .i64 nu, kv] 31) = X at *
      go_wp2_with fail
      go_ret
      exact ⟨ret_bool (by simp [kwB, h1, h2]), HB.out⟩
  · have HB := hid (belowA w (.cells #[.int .i64 16, .string tx, .int .i64 nu, kv] 31))
    have HC := hid (cells4 (heap_alloc_new w (.cells #[.int .i64 16, .string tx, .int .i64 nu, kv] 31)))
    go_enter Tryz.func140, Tryz.ntmps140
    go_upto_region 1 with (fail)
    have ⟨x0, x1, x2, x3⟩ := HC.out
    generalize w.alloc (.cells #[.int .i64 16, .string tx, .int .i64 nu, kv] 31) = X at *
    go_wp2_with fail
    go_ret
    exact ⟨ret_bool (by simp [kwB, h1]), HB.out⟩
set_option maxHeartbeats 4000000 in
set_option maxRecDepth 100000 in
theorem kn_else (tx : ByteArray) (nu sc : Int) (kv : Value) (k : Int) (hk : k ≠ 8 ∧ k ≠ 9 ∧ k ≠ 20 ∧ k ≠ 10 ∧ k ≠ 17 ∧ k ≠ 18 ∧ k ≠ 14 ∧ k ≠ 15 ∧ k ≠ 16) (w : World) : Calls Tryz.prog 140 #[.agg #[.int .i64 k, .string tx, .int .i64 nu, kv], .int .i64 sc] w fun e w' => e = .returned (.bool (kwB k nu sc)) ∧ Below w.heap.size w w' := by
  obtain ⟨h1, h2, h3, h4, h5, h6, h7, h8, h9⟩ := hk
  have HR := hid (show kwB k nu sc = true by unfold kwB; rw [if_neg (by omega), if_neg (by omega), if_neg (by omega)])
  have e1 : (k == 8) = false := by simp; omega
  have e2 : (k == 9) = false := by simp; omega
  have e3 : (k == 20) = false := by simp; omega
  have e4 : (k == 10) = false := by simp; omega
  have e5 : (k == 17) = false := by simp; omega
  have e6 : (k == 18) = false := by simp; omega
  have e7 : (k == 14) = false := by simp; omega
  have e8 : (k == 15) = false := by simp; omega
  have e9 : (k == 16) = false := by simp; omega
  clear h1 h2 h3 h4 h5 h6 h7 h8 h9
  have HB := hid (belowA w (.cells #[.int .i64 k, .string tx, .int .i64 nu, kv] 31))
  have HC := hid (cells4 (heap_alloc_new w (.cells #[.int .i64 k, .string tx, .int .i64 nu, kv] 31)))
  go_enter Tryz.func140, Tryz.ntmps140
  go_upto_region 1 with (fail)
  have ⟨x0, x1, x2, x3⟩ := HC.out
  generalize w.alloc (.cells #[.int .i64 k, .string tx, .int .i64 nu, kv] 31) = X at *
  go_wp2_with fail
  go_ret
  exact ⟨ret_bool HR.out.symm, HB.out⟩
theorem known_any (k : Int) (tx : ByteArray) (nu sc : Int) (kv : Value) (w : World) : Calls Tryz.prog 140 #[.agg #[.int .i64 k, .string tx, .int .i64 nu, kv], .int .i64 sc] w fun e w' => e = .returned (.bool (kwB k nu sc)) ∧ Below w.heap.size w w' := by
  by_cases h : k ≠ 8 ∧ k ≠ 9 ∧ k ≠ 20 ∧ k ≠ 10 ∧ k ≠ 17 ∧ k ≠ 18 ∧ k ≠ 14 ∧ k ≠ 15 ∧ k ≠ 16
  · exact kn_else tx nu sc kv k h w
  · have hc : k = 8 ∨ k = 9 ∨ k = 20 ∨ k = 10 ∨ k = 17 ∨ k = 18 ∨ k = 14 ∨ k = 15 ∨ k = 16 := by omega
    rcases hc with rfl | rfl | rfl | rfl | rfl | rfl | rfl | rfl | rfl
    · exact kn_8 tx nu sc kv w
    · exact kn_9 tx nu sc kv w
    · exact kn_20 tx nu sc kv w
    · exact kn_10 tx nu sc kv w
    · exact kn_17 tx nu sc kv w
    · exact kn_18 tx nu sc kv w
    · exact kn_14 tx nu sc kv w
    · exact kn_15 tx nu sc kv w
    · exact kn_16 tx nu sc kv w
end Go.Proofs.YtimmjikpcekffaaGreatDoor.L
