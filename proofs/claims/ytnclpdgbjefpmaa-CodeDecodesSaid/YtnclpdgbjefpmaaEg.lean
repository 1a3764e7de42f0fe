import Derived.Test.YtnclpdgbjefpmaaEf
namespace Go.Proofs.Ytnclpdgbjefpmaa.L
open Go.RowKit
set_option linter.unusedVariables false
set_option linter.unusedSimpArgs false
theorem info3b : (Try.prog.info? 124).map (·.size) = some 3 := by kernel_rfl
def usV (o : Int) : Array Value := #[.bool (us o).1, .bool (us o).2.1, .bool (us o).2.2]
set_option maxHeartbeats 8000000 in
theorem uses_any (o : Int) (w : World) : Calls Try.prog 88 #[.int .i64 o] w fun e w' => e = .returned (.agg (usV o)) ∧ Below w.heap.size w w' := by
  have hc : o = 1 ∨ o = 2 ∨ o = 3 ∨ o = 4 ∨ o = 5 ∨ o = 6 ∨ o = 7 ∨ o = 12 ∨ o = 13 ∨ o = 14 ∨ o = 16 ∨ o = 17 ∨ o = 18 ∨ o = 19 ∨ o = 20 ∨ o = 21 ∨ o = 22 ∨ o = 23 ∨ o = 24 ∨ o = 25 ∨ o = 26 ∨ o = 31 ∨ o = 32 ∨ o = 33 ∨ o = 34 ∨ (o ≠ 1 ∧ o ≠ 2 ∧ o ≠ 3 ∧ o ≠ 4 ∧ o ≠ 5 ∧ o ≠ 6 ∧ o ≠ 7 ∧ o ≠ 12 ∧ o ≠ 13 ∧ o ≠ 14 ∧ o ≠ 16 ∧ o ≠ 17 ∧ o ≠ 18 ∧ o ≠ 19 ∧ o ≠ 20 ∧ o ≠ 21 ∧ o ≠ 22 ∧ o ≠ 23 ∧ o ≠ 24 ∧ o ≠ 25 ∧ o ≠ 26 ∧ o ≠ 31 ∧ o ≠ 32 ∧ o ≠ 33 ∧ o ≠ 34) := by omega
  rcases hc with rfl | rfl | rfl | rfl | rfl | rfl | rfl | rfl | rfl | rfl | rfl | rfl | rfl | rfl | rfl | rfl | rfl | rfl | rfl | rfl | rfl | rfl | rfl | rfl | rfl | h
  · rw [show usV 1 = #[.bool true, .bool false, .bool false] from rfl]
    go_enter Try.func88, Try.ntmps88
    go_wp2
    exact ⟨rfl, .agg #[.bool true, .bool false, .bool false], results_cell_row Try.results88 _ _ w.heap.size 124 #[.bool true, .bool false, .bool false] (0, 0) _ rfl (heap_alloc_new w _) Try.underlying124 rfl info3b, rfl, belowA w _⟩
  · rw [show usV 2 = #[.bool true, .bool false, .bool false] from rfl]
    go_enter Try.func88, Try.ntmps88
    go_wp2
    exact ⟨rfl, .agg #[.bool true, .bool false, .bool false], results_cell_row Try.results88 _ _ w.heap.size 124 #[.bool true, .bool false, .bool false] (0, 0) _ rfl (heap_alloc_new w _) Try.underlying124 rfl info3b, rfl, belowA w _⟩
  · rw [show usV 3 = #[.bool true, .bool false, .bool false] from rfl]
    go_enter Try.func88, Try.ntmps88
    go_wp2
    exact ⟨rfl, .agg #[.bool true, .bool false, .bool false], results_cell_row Try.results88 _ _ w.heap.size 124 #[.bool true, .bool false, .bool false] (0, 0) _ rfl (heap_alloc_new w _) Try.underlying124 rfl info3b, rfl, belowA w _⟩
  · rw [show usV 4 = #[.bool true, .bool false, .bool false] from rfl]
    go_enter Try.func88, Try.ntmps88
    go_wp2
    exact ⟨rfl, .agg #[.bool true, .bool false, .bool false], results_cell_row Try.results88 _ _ w.heap.size 124 #[.bool true, .bool false, .bool false] (0, 0) _ rfl (heap_alloc_new w _) Try.underlying124 rfl info3b, rfl, belowA w _⟩
  · rw [show usV 5 = #[.bool true, .bool false, .bool false] from rfl]
    go_enter Try.func88, Try.ntmps88
    go_wp2
    exact ⟨rfl, .agg #[.bool true, .bool false, .bool false], results_cell_row Try.results88 _ _ w.heap.size 124 #[.bool true, .bool false, .bool false] (0, 0) _ rfl (heap_alloc_new w _) Try.underlying124 rfl info3b, rfl, belowA w _⟩
  · rw [show usV 6 = #[.bool true, .bool false, .bool false] from rfl]
    go_enter Try.func88, Try.ntmps88
    go_wp2
    exact ⟨rfl, .agg #[.bool true, .bool false, .bool false], results_cell_row Try.results88 _ _ w.heap.size 124 #[.bool true, .bool false, .bool false] (0, 0) _ rfl (heap_alloc_new w _) Try.underlying124 rfl info3b, rfl, belowA w _⟩
  · rw [show usV 7 = #[.bool true, .bool false, .bool false] from rfl]
    go_enter Try.func88, Try.ntmps88
    go_wp2
    exact ⟨rfl, .agg #[.bool true, .bool false, .bool false], results_cell_row Try.results88 _ _ w.heap.size 124 #[.bool true, .bool false, .bool false] (0, 0) _ rfl (heap_alloc_new w _) Try.underlying124 rfl info3b, rfl, belowA w _⟩
  · rw [show usV 12 = #[.bool true, .bool true, .bool false] from rfl]
    go_enter Try.func88, Try.ntmps88
    go_wp2
    exact ⟨rfl, .agg #[.bool true, .bool true, .bool false], results_cell_row Try.results88 _ _ w.heap.size 124 #[.bool true, .bool true, .bool false] (0, 0) _ rfl (heap_alloc_new w _) Try.underlying124 rfl info3b, rfl, belowA w _⟩
  · rw [show usV 13 = #[.bool true, .bool false, .bool false] from rfl]
    go_enter Try.func88, Try.ntmps88
    go_wp2
    exact ⟨rfl, .agg #[.bool true, .bool false, .bool false], results_cell_row Try.results88 _ _ w.heap.size 124 #[.bool true, .bool false, .bool false] (0, 0) _ rfl (heap_alloc_new w _) Try.underlying124 rfl info3b, rfl, belowA w _⟩
  · rw [show usV 14 = #[.bool true, .bool false, .bool false] from rfl]
    go_enter Try.func88, Try.ntmps88
    go_wp2
    exact ⟨rfl, .agg #[.bool true, .bool false, .bool false], results_cell_row Try.results88 _ _ w.heap.size 124 #[.bool true, .bool false, .bool false] (0, 0) _ rfl (heap_alloc_new w _) Try.underlying124 rfl info3b, rfl, belowA w _⟩
  · rw [show usV 16 = #[.bool true, .bool true, .bool true] from rfl]
    go_enter Try.func88, Try.ntmps88
    go_wp2
    exact ⟨rfl, .agg #[.bool true, .bool true, .bool true], results_cell_row Try.results88 _ _ w.heap.size 124 #[.bool true, .bool true, .bool true] (0, 0) _ rfl (heap_alloc_new w _) Try.underlying124 rfl info3b, rfl, belowA w _⟩
  · rw [show usV 17 = #[.bool true, .bool true, .bool false] from rfl]
    go_enter Try.func88, Try.ntmps88
    go_wp2
    exact ⟨rfl, .agg #[.bool true, .bool true, .bool false], results_cell_row Try.results88 _ _ w.heap.size 124 #[.bool true, .bool true, .bool false] (0, 0) _ rfl (heap_alloc_new w _) Try.underlying124 rfl info3b, rfl, belowA w _⟩
  · rw [show usV 18 = #[.bool false, .bool true, .bool true] from rfl]
    go_enter Try.func88, Try.ntmps88
    go_wp2
    exact ⟨rfl, .agg #[.bool false, .bool true, .bool true], results_cell_row Try.results88 _ _ w.heap.size 124 #[.bool false, .bool true, .bool true] (0, 0) _ rfl (heap_alloc_new w _) Try.underlying124 rfl info3b, rfl, belowA w _⟩
  · rw [show usV 19 = #[.bool false, .bool true, .bool false] from rfl]
    go_enter Try.func88, Try.ntmps88
    go_wp2
    exact ⟨rfl, .agg #[.bool false, .bool true, .bool false], results_cell_row Try.results88 _ _ w.heap.size 124 #[.bool false, .bool true, .bool false] (0, 0) _ rfl (heap_alloc_new w _) Try.underlying124 rfl info3b, rfl, belowA w _⟩
  · rw [show usV 20 = #[.bool false, .bool true, .bool true] from rfl]
    go_enter Try.func88, Try.ntmps88
    go_wp2
    exact ⟨rfl, .agg #[.bool false, .bool true, .bool true], results_cell_row Try.results88 _ _ w.heap.size 124 #[.bool false, .bool true, .bool true] (0, 0) _ rfl (heap_alloc_new w _) Try.underlying124 rfl info3b, rfl, belowA w _⟩
  · rw [show usV 21 = #[.bool false, .bool true, .bool false] from rfl]
    go_enter Try.func88, Try.ntmps88
    go_wp2
    exact ⟨rfl, .agg #[.bool false, .bool true, .bool false], results_cell_row Try.results88 _ _ w.heap.size 124 #[.bool false, .bool true, .bool false] (0, 0) _ rfl (heap_alloc_new w _) Try.underlying124 rfl info3b, rfl, belowA w _⟩
  · rw [show usV 22 = #[.bool false, .bool true, .bool false] from rfl]
    go_enter Try.func88, Try.ntmps88
    go_wp2
    exact ⟨rfl, .agg #[.bool false, .bool true, .bool false], results_cell_row Try.results88 _ _ w.heap.size 124 #[.bool false, .bool true, .bool false] (0, 0) _ rfl (heap_alloc_new w _) Try.underlying124 rfl info3b, rfl, belowA w _⟩
  · rw [show usV 23 = #[.bool false, .bool true, .bool false] from rfl]
    go_enter Try.func88, Try.ntmps88
    go_wp2
    exact ⟨rfl, .agg #[.bool false, .bool true, .bool false], results_cell_row Try.results88 _ _ w.heap.size 124 #[.bool false, .bool true, .bool false] (0, 0) _ rfl (heap_alloc_new w _) Try.underlying124 rfl info3b, rfl, belowA w _⟩
  · rw [show usV 24 = #[.bool true, .bool false, .bool false] from rfl]
    go_enter Try.func88, Try.ntmps88
    go_wp2
    exact ⟨rfl, .agg #[.bool true, .bool false, .bool false], results_cell_row Try.results88 _ _ w.heap.size 124 #[.bool true, .bool false, .bool false] (0, 0) _ rfl (heap_alloc_new w _) Try.underlying124 rfl info3b, rfl, belowA w _⟩
  · rw [show usV 25 = #[.bool true, .bool false, .bool true] from rfl]
    go_enter Try.func88, Try.ntmps88
    go_wp2
    exact ⟨rfl, .agg #[.bool true, .bool false, .bool true], results_cell_row Try.results88 _ _ w.heap.size 124 #[.bool true, .bool false, .bool true] (0, 0) _ rfl (heap_alloc_new w _) Try.underlying124 rfl info3b, rfl, belowA w _⟩
  · rw [show usV 26 = #[.bool true, .bool false, .bool false] from rfl]
    go_enter Try.func88, Try.ntmps88
    go_wp2
    exact ⟨rfl, .agg #[.bool true, .bool false, .bool false], results_cell_row Try.results88 _ _ w.heap.size 124 #[.bool true, .bool false, .bool false] (0, 0) _ rfl (heap_alloc_new w _) Try.underlying124 rfl info3b, rfl, belowA w _⟩
  · rw [show usV 31 = #[.bool true, .bool false, .bool false] from rfl]
    go_enter Try.func88, Try.ntmps88
    go_wp2
    exact ⟨rfl, .agg #[.bool true, .bool false, .bool false], results_cell_row Try.results88 _ _ w.heap.size 124 #[.bool true, .bool false, .bool false] (0, 0) _ rfl (heap_alloc_new w _) Try.underlying124 rfl info3b, rfl, belowA w _⟩
  · rw [show usV 32 = #[.bool true, .bool false, .bool false] from rfl]
    go_enter Try.func88, Try.ntmps88
    go_wp2
    exact ⟨rfl, .agg #[.bool true, .bool false, .bool false], results_cell_row Try.results88 _ _ w.heap.size 124 #[.bool true, .bool false, .bool false] (0, 0) _ rfl (heap_alloc_new w _) Try.underlying124 rfl info3b, rfl, belowA w _⟩
  · rw [show usV 33 = #[.bool true, .bool false, .bool false] from rfl]
    go_enter Try.func88, Try.ntmps88
    go_wp2
    exact ⟨rfl, .agg #[.bool true, .bool false, .bool false], results_cell_row Try.results88 _ _ w.heap.size 124 #[.bool true, .bool false, .bool false] (0, 0) _ rfl (heap_alloc_new w _) Try.underlying124 rfl info3b, rfl, belowA w _⟩
  · rw [show usV 34 = #[.bool true, .bool false, .bool false] from rfl]
    go_enter Try.func88, Try.ntmps88
    go_wp2
    exact ⟨rfl, .agg #[.bool true, .bool false, .bool false], results_cell_row Try.results88 _ _ w.heap.size 124 #[.bool true, .bool false, .bool false] (0, 0) _ rfl (heap_alloc_new w _) Try.underlying124 rfl info3b, rfl, belowA w _⟩
  · obtain ⟨h1, h2, h3, h4, h5, h6, h7, h12, h13, h14, h16, h17, h18, h19, h20, h21, h22, h23, h24, h25, h26, h31, h32, h33, h34⟩ := h
    have e1 : (o == 1) = false := by simpa using h1
    have e2 : (o == 2) = false := by simpa using h2
    have e3 : (o == 3) = false := by simpa using h3
    have e4 : (o == 4) = false := by simpa using h4
    have e5 : (o == 5) = false := by simpa using h5
    have e6 : (o == 6) = false := by simpa using h6
    have e7 : (o == 7) = false := by simpa using h7
    have e12 : (o == 12) = false := by simpa using h12
    have e13 : (o == 13) = false := by simpa using h13
    have e14 : (o == 14) = false := by simpa using h14
    have e16 : (o == 16) = false := by simpa using h16
    have e17 : (o == 17) = false := by simpa using h17
    have e18 : (o == 18) = false := by simpa using h18
    have e19 : (o == 19) = false := by simpa using h19
    have e20 : (o == 20) = false := by simpa using h20
    have e21 : (o == 21) = false := by simpa using h21
    have e22 : (o == 22) = false := by simpa using h22
    have e23 : (o == 23) = false := by simpa using h23
    have e24 : (o == 24) = false := by simpa using h24
    have e25 : (o == 25) = false := by simpa using h25
    have e26 : (o == 26) = false := by simpa using h26
    have e31 : (o == 31) = false := by simpa using h31
    have e32 : (o == 32) = false := by simpa using h32
    have e33 : (o == 33) = false := by simpa using h33
    have e34 : (o == 34) = false := by simpa using h34
    rw [show usV o = #[.bool false, .bool false, .bool false] from by unfold usV us; rw [if_neg (by omega), if_neg (by omega), if_neg (by omega), if_neg (by omega), if_neg (by omega), if_neg (by omega)]]
    clear h1 h2 h3 h4 h5 h6 h7 h12 h13 h14 h16 h17 h18 h19 h20 h21 h22 h23 h24 h25 h26 h31 h32 h33 h34
    go_enter Try.func88, Try.ntmps88
    go_wp2
    exact ⟨rfl, .agg #[.bool false, .bool false, .bool false], results_cell_row Try.results88 _ _ w.heap.size 124 #[.bool false, .bool false, .bool false] (0, 0) _ rfl (heap_alloc_new w _) Try.underlying124 rfl info3b, rfl, belowA w _⟩
end Go.Proofs.Ytnclpdgbjefpmaa.L
