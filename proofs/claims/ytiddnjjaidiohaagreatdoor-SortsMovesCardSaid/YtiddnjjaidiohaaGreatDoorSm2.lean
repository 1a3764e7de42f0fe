import Derived.Test.YtiddnjjaidiohaaGreatDoorSm1
namespace Go.Proofs.YtiddnjjaidiohaaGreatDoor.L
open Go.RowKit
set_option linter.unusedVariables false
set_option maxHeartbeats 4000000 in
set_option maxRecDepth 100000 in
theorem spk_14 (tx : ByteArray) (nu : Int) (kv : Value) (w : World) : Calls Tryz.prog 19 #[.agg #[.int .i64 14, .string tx, .int .i64 nu, kv]] w fun e w' => e = .returned (.int .i64 (spk 14 nu)) ∧ Below w.heap.size w w' := by
  by_cases h0 : nu = 1
  · have h1 : (nu == 1) = true := by simpa using h0
    have HR := hid (show spk 14 nu = 1 by simp [spk, h0])
    have HB := hid (belowA w (.cells #[.int .i64 14, .string tx, .int .i64 nu, kv] 60))
    have HC := hid (cells4 (heap_alloc_new w (.cells #[.int .i64 14, .string tx, .int .i64 nu, kv] 60)))
    clear h0
    go_enter Tryz.func19, Tryz.ntmps19
    go_upto_region 1 with (fail)
    have ⟨x0, x1, x2, x3⟩ := HC.out
    generalize w.alloc (.cells #[.int .i64 14, .string tx, .int .i64 nu, kv] 60) = X at *
    go_wp2_with fail
    go_ret
    exact ⟨by rw [HR.out]; rfl, HB.out⟩
  · have h1 : (nu == 1) = false := by simpa using h0
    have HR := hid (show spk 14 nu = 2 by simp [spk, h0])
    have HB := hid (belowA w (.cells #[.int .i64 14, .string tx, .int .i64 nu, kv] 60))
    have HC := hid (cells4 (heap_alloc_new w (.cells #[.int .i64 14, .string tx, .int .i64 nu, kv] 60)))
    clear h0
    go_enter Tryz.func19, Tryz.ntmps19
    go_upto_region 1 with (fail)
    have ⟨x0, x1, x2, x3⟩ := HC.out
    generalize w.alloc (.cells #[.int .i64 14, .string tx, .int .i64 nu, kv] 60) = X at *
    go_wp2_with fail
    go_ret
    exact ⟨by rw [HR.out]; rfl, HB.out⟩
set_option maxHeartbeats 4000000 in
set_option maxRecDepth 100000 in
theorem spk_15 (tx : ByteArray) (nu : Int) (kv : Value) (w : World) : Calls Tryz.prog 19 #[.agg #[.int .i64 15, .string tx, .int .i64 nu, kv]] w fun e w' => e = .returned (.int .i64 (spk 15 nu)) ∧ Below w.heap.size w w' := by
  by_cases h0 : nu = 1
  · have h1 : (nu == 1) = true := by simpa using h0
    have HR := hid (show spk 15 nu = 1 by simp [spk, h0])
    have HB := hid (belowA w (.cells #[.int .i64 15, .string tx, .int .i64 nu, kv] 60))
    have HC := hid (cells4 (heap_alloc_new w (.cells #[.int .i64 15, .string tx, .int .i64 nu, kv] 60)))
    clear h0
    go_enter Tryz.func19, Tryz.ntmps19
    go_upto_region 1 with (fail)
    have ⟨x0, x1, x2, x3⟩ := HC.out
    generalize w.alloc (.cells #[.int .i64 15, .string tx, .int .i64 nu, kv] 60) = X at *
    go_wp2_with fail
    go_ret
    exact ⟨by rw [HR.out]; rfl, HB.out⟩
  · have h1 : (nu == 1) = false := by simpa using h0
    have HR := hid (show spk 15 nu = 2 by simp [spk, h0])
    have HB := hid (belowA w (.cells #[.int .i64 15, .string tx, .int .i64 nu, kv] 60))
    have HC := hid (cells4 (heap_alloc_new w (.cells #[.int .i64 15, .string tx, .int .i64 nu, kv] 60)))
    clear h0
    go_enter Tryz.func19, Tryz.ntmps19
    go_upto_region 1 with (fail)
    have ⟨x0, x1, x2, x3⟩ := HC.out
    generalize w.alloc (.cells #[.int .i64 15, .string tx, .int .i64 nu, kv] 60) = X at *
    go_wp2_with fail
    go_ret
    exact ⟨by rw [HR.out]; rfl, HB.out⟩
set_option maxHeartbeats 4000000 in
set_option maxRecDepth 100000 in
theorem spk_16 (tx : ByteArray) (nu : Int) (kv : Value) (w : World) : Calls Tryz.prog 19 #[.agg #[.int .i64 16, .string tx, .int .i64 nu, kv]] w fun e w' => e = .returned (.int .i64 (spk 16 nu)) ∧ Below w.heap.size w w' := by
  by_cases h0 : nu = 1
  · have h1 : (nu == 1) = true := by simpa using h0
    have HR := hid (show spk 16 nu = 1 by simp [spk, h0])
    have HB := hid (belowA w (.cells #[.int .i64 16, .string tx, .int .i64 nu, kv] 60))
    have HC := hid (cells4 (heap_alloc_new w (.cells #[.int .i64 16, .string tx, .int .i64 nu, kv] 60)))
    clear h0
    go_enter Tryz.func19, Tryz.ntmps19
    go_upto_region 1 with (fail)
    have ⟨x0, x1, x2, x3⟩ := HC.out
    generalize w.alloc (.cells #[.int .i64 16, .string tx, .int .i64 nu, kv] 60) = X at *
    go_wp2_with fail
    go_ret
    exact ⟨by rw [HR.out]; rfl, HB.out⟩
  · have h1 : (nu == 1) = false := by simpa using h0
    have HR := hid (show spk 16 nu = 2 by simp [spk, h0])
    have HB := hid (belowA w (.cells #[.int .i64 16, .string tx, .int .i64 nu, kv] 60))
    have HC := hid (cells4 (heap_alloc_new w (.cells #[.int .i64 16, .string tx, .int .i64 nu, kv] 60)))
    clear h0
    go_enter Tryz.func19, Tryz.ntmps19
    go_upto_region 1 with (fail)
    have ⟨x0, x1, x2, x3⟩ := HC.out
    generalize w.alloc (.cells #[.int .i64 16, .string tx, .int .i64 nu, kv] 60) = X at *
    go_wp2_with fail
    go_ret
    exact ⟨by rw [HR.out]; rfl, HB.out⟩
set_option maxHeartbeats 4000000 in
set_option maxRecDepth 100000 in
theorem spk_17 (tx : ByteArray) (nu : Int) (kv : Value) (w : World) : Calls Tryz.prog 19 #[.agg #[.int .i64 17, .string tx, .int .i64 nu, kv]] w fun e w' => e = .returned (.int .i64 (spk 17 nu)) ∧ Below w.heap.size w w' := by
  have HR := hid (show spk 17 nu = 2 by simp [spk])
  have HB := hid (belowA w (.cells #[.int .i64 17, .string tx, .int .i64 nu, kv] 60))
  have HC := hid (cells4 (heap_alloc_new w (.cells #[.int .i64 17, .string tx, .int .i64 nu, kv] 60)))
  go_enter Tryz.func19, Tryz.ntmps19
  go_upto_region 1 with (fail)
  have ⟨x0, x1, x2, x3⟩ := HC.out
  generalize w.alloc (.cells #[.int .i64 17, .string tx, .int .i64 nu, kv] 60) = X at *
  go_wp2_with fail
  go_ret
  exact ⟨by rw [HR.out]; rfl, HB.out⟩
set_option maxHeartbeats 4000000 in
set_option maxRecDepth 100000 in
theorem spk_18 (tx : ByteArray) (nu : Int) (kv : Value) (w : World) : Calls Tryz.prog 19 #[.agg #[.int .i64 18, .string tx, .int .i64 nu, kv]] w fun e w' => e = .returned (.int .i64 (spk 18 nu)) ∧ Below w.heap.size w w' := by
  have HR := hid (show spk 18 nu = 2 by simp [spk])
  have HB := hid (belowA w (.cells #[.int .i64 18, .string tx, .int .i64 nu, kv] 60))
  have HC := hid (cells4 (heap_alloc_new w (.cells #[.int .i64 18, .string tx, .int .i64 nu, kv] 60)))
  go_enter Tryz.func19, Tryz.ntmps19
  go_upto_region 1 with (fail)
  have ⟨x0, x1, x2, x3⟩ := HC.out
  generalize w.alloc (.cells #[.int .i64 18, .string tx, .int .i64 nu, kv] 60) = X at *
  go_wp2_with fail
  go_ret
  exact ⟨by rw [HR.out]; rfl, HB.out⟩
set_option maxHeartbeats 4000000 in
set_option maxRecDepth 100000 in
theorem spk_10 (tx : ByteArray) (nu : Int) (kv : Value) (w : World) : Calls Tryz.prog 19 #[.agg #[.int .i64 10, .string tx, .int .i64 nu, kv]] w fun e w' => e = .returned (.int .i64 (spk 10 nu)) ∧ Below w.heap.size w w' := by
  have HR := hid (show spk 10 nu = 2 by simp [spk])
  have HB := hid (belowA w (.cells #[.int .i64 10, .string tx, .int .i64 nu, kv] 60))
  have HC := hid (cells4 (heap_alloc_new w (.cells #[.int .i64 10, .string tx, .int .i64 nu, kv] 60)))
  go_enter Tryz.func19, Tryz.ntmps19
  go_upto_region 1 with (fail)
  have ⟨x0, x1, x2, x3⟩ := HC.out
  generalize w.alloc (.cells #[.int .i64 10, .string tx, .int .i64 nu, kv] 60) = X at *
  go_wp2_with fail
  go_ret
  exact ⟨by rw [HR.out]; rfl, HB.out⟩
set_option maxHeartbeats 4000000 in
set_option maxRecDepth 100000 in
theorem spk_8 (tx : ByteArray) (nu : Int) (kv : Value) (w : World) : Calls Tryz.prog 19 #[.agg #[.int .i64 8, .string tx, .int .i64 nu, kv]] w fun e w' => e = .returned (.int .i64 (spk 8 nu)) ∧ Below w.heap.size w w' := by
  have HR := hid (show spk 8 nu = 2 by simp [spk])
  have HB := hid (belowA w (.cells #[.int .i64 8, .string tx, .int .i64 nu, kv] 60))
  have HC := hid (cells4 (heap_alloc_new w (.cells #[.int .i64 8, .string tx, .int .i64 nu, kv] 60)))
  go_enter Tryz.func19, Tryz.ntmps19
  go_upto_region 1 with (fail)
  have ⟨x0, x1, x2, x3⟩ := HC.out
  generalize w.alloc (.cells #[.int .i64 8, .string tx, .int .i64 nu, kv] 60) = X at *
  go_wp2_with fail
  go_ret
  exact ⟨by rw [HR.out]; rfl, HB.out⟩
set_option maxHeartbeats 4000000 in
set_option maxRecDepth 100000 in
theorem spk_9 (tx : ByteArray) (nu : Int) (kv : Value) (w : World) : Calls Tryz.prog 19 #[.agg #[.int .i64 9, .string tx, .int .i64 nu, kv]] w fun e w' => e = .returned (.int .i64 (spk 9 nu)) ∧ Below w.heap.size w w' := by
  have HR := hid (show spk 9 nu = 2 by simp [spk])
  have HB := hid (belowA w (.cells #[.int .i64 9, .string tx, .int .i64 nu, kv] 60))
  have HC := hid (cells4 (heap_alloc_new w (.cells #[.int .i64 9, .string tx, .int .i64 nu, kv] 60)))
  go_enter Tryz.func19, Tryz.ntmps19
  go_upto_region 1 with (fail)
  have ⟨x0, x1, x2, x3⟩ := HC.out
  generalize w.alloc (.cells #[.int .i64 9, .string tx, .int .i64 nu, kv] 60) = X at *
  go_wp2_with fail
  go_ret
  exact ⟨by rw [HR.out]; rfl, HB.out⟩
set_option maxHeartbeats 4000000 in
set_option maxRecDepth 100000 in
theorem spk_20 (tx : ByteArray) (nu : Int) (kv : Value) (w : World) : Calls Tryz.prog 19 #[.agg #[.int .i64 20, .string tx, .int .i64 nu, kv]] w fun e w' => e = .returned (.int .i64 (spk 20 nu)) ∧ Below w.heap.size w w' := by
  have HR := hid (show spk 20 nu = 2 by simp [spk])
  have HB := hid (belowA w (.cells #[.int .i64 20, .string tx, .int .i64 nu, kv] 60))
  have HC := hid (cells4 (heap_alloc_new w (.cells #[.int .i64 20, .string tx, .int .i64 nu, kv] 60)))
  go_enter Tryz.func19, Tryz.ntmps19
  go_upto_region 1 with (fail)
  have ⟨x0, x1, x2, x3⟩ := HC.out
  generalize w.alloc (.cells #[.int .i64 20, .string tx, .int .i64 nu, kv] 60) = X at *
  go_wp2_with fail
  go_ret
  exact ⟨by rw [HR.out]; rfl, HB.out⟩
set_option maxHeartbeats 4000000 in
set_option maxRecDepth 100000 in
theorem spk_else (tx : ByteArray) (nu : Int) (kv : Value) (k : Int) (hk : k ≠ 14 ∧ k ≠ 15 ∧ k ≠ 16 ∧ k ≠ 17 ∧ k ≠ 18 ∧ k ≠ 10 ∧ k ≠ 8 ∧ k ≠ 9 ∧ k ≠ 20) (w : World) : Calls Tryz.prog 19 #[.agg #[.int .i64 k, .string tx, .int .i64 nu, kv]] w fun e w' => e = .returned (.int .i64 (spk k nu)) ∧ Below w.heap.size w w' := by
  obtain ⟨h1, h2, h3, h4, h5, h6, h7, h8, h9⟩ := hk
  have e1 : (k == 14) = false := by simp; omega
  have e2 : (k == 15) = false := by simp; omega
  have e3 : (k == 16) = false := by simp; omega
  have e4 : (k == 17) = false := by simp; omega
  have e5 : (k == 18) = false := by simp; omega
  have e6 : (k == 10) = false := by simp; omega
  have e7 : (k == 8) = false := by simp; omega
  have e8 : (k == 9) = false := by simp; omega
  have e9 : (k == 20) = false := by simp; omega
  have HR := hid (show spk k nu = 0 by unfold spk; rw [if_neg (by omega), if_neg (by omega)])
  have HB := hid (belowA w (.cells #[.int .i64 k, .string tx, .int .i64 nu, kv] 60))
  have HC := hid (cells4 (heap_alloc_new w (.cells #[.int .i64 k, .string tx, .int .i64 nu, kv] 60)))
  clear h1 h2 h3 h4 h5 h6 h7 h8 h9
  go_enter Tryz.func19, Tryz.ntmps19
  go_upto_region 1 with (fail)
  have ⟨x0, x1, x2, x3⟩ := HC.out
  generalize w.alloc (.cells #[.int .i64 k, .string tx, .int .i64 nu, kv] 60) = X at *
  go_wp2_with fail
  go_ret
  exact ⟨by rw [HR.out]; rfl, HB.out⟩
theorem speaks_any (k : Int) (tx : ByteArray) (nu : Int) (kv : Value) (w : World) : Calls Tryz.prog 19 #[.agg #[.int .i64 k, .string tx, .int .i64 nu, kv]] w fun e w' => e = .returned (.int .i64 (spk k nu)) ∧ Below w.heap.size w w' := by
  by_cases h : k ≠ 14 ∧ k ≠ 15 ∧ k ≠ 16 ∧ k ≠ 17 ∧ k ≠ 18 ∧ k ≠ 10 ∧ k ≠ 8 ∧ k ≠ 9 ∧ k ≠ 20
  · exact spk_else tx nu kv k h w
  · have hc : k = 14 ∨ k = 15 ∨ k = 16 ∨ k = 17 ∨ k = 18 ∨ k = 10 ∨ k = 8 ∨ k = 9 ∨ k = 20 := by omega
    rcases hc with rfl | rfl | rfl | rfl | rfl | rfl | rfl | rfl | rfl
    · exact spk_14 tx nu kv w
    · exact spk_15 tx nu kv w
    · exact spk_16 tx nu kv w
    · exact spk_17 tx nu kv w
    · exact spk_18 tx nu kv w
    · exact spk_10 tx nu kv w
    · exact spk_8 tx nu kv w
    · exact spk_9 tx nu kv w
    · exact spk_20 tx nu kv w
end Go.Proofs.YtiddnjjaidiohaaGreatDoor.L
