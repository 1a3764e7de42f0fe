import Derived.Test.YtimmjikpcekffaaGreatDoorMgBC
import Derived.Test.YtimmjikpcekffaaGreatDoorNve
namespace Go.Proofs.YtimmjikpcekffaaGreatDoor.L
open Go.RowKit Go.Shelf
set_option linter.unusedVariables false
set_option linter.unusedSimpArgs false
theorem infoOp : (Tryz.prog.info? 130).map (·.size) = some 10 := by kernel_rfl
theorem infoLt : (Tryz.prog.info? 49).map (·.size) = some 16 := by kernel_rfl
theorem infoPc : (Tryz.prog.info? 95).map (·.size) = some 20 := by kernel_rfl
theorem below_row {B : Nat} {w w' : World} (h : Below B w w') {g : Nat} (hg : B ≤ g) (cs : Array Value) : Below B w (w'.setRow g cs) :=
  ⟨h.os, h.tape, h.output, by rw [setRow_size]; exact h.size, fun k hk => (setRow_other _ _ _ _ (by omega)).trans (h.block k hk)⟩
set_option maxHeartbeats 4000000 in
set_option maxRecDepth 100000 in
theorem operand_0 (gp k1 k2 : Nat) (sa pa : Option Addr) (sn sc pn pc : Nat) (w : World) (h : Fy w gp k1 k2) :
    Calls Tryz.prog 71 #[.agg #[.slice (some ⟨gp, 0, none⟩) 4 4, .slice sa sn sc, .slice pa pn pc], .int .i64 0] w fun e w' => e = .returned (.agg #[.bool false, .bool false, .bool false, .string ⟨#[]⟩, .int .i64 0, .int .i64 2, .int .i64 2, .string ⟨#[122, 111, 110, 101]⟩, .int .i64 0, .pointer none]) ∧ Below w.heap.size w w' := by
  have HB0 := hid (belowA w (.cells #[.slice (some ⟨gp, 0, none⟩) 4 4, .slice sa sn sc, .slice pa pn pc] 79))
  have HX0 := hid (heap_alloc_new w (.cells #[.slice (some ⟨gp, 0, none⟩) 4 4, .slice sa sn sc, .slice pa pn pc] 79))
  have HB1 := hid (belowA (w.alloc (.cells #[.slice (some ⟨gp, 0, none⟩) 4 4, .slice sa sn sc, .slice pa pn pc] 79)) (.cells #[.bool false, .bool false, .bool false, .string ⟨#[]⟩, .int .i64 0, .int .i64 0, .int .i64 0, .string ⟨#[]⟩, .int .i64 0, .pointer none] 130))
  have HX1 := hid (heap_alloc_new (w.alloc (.cells #[.slice (some ⟨gp, 0, none⟩) 4 4, .slice sa sn sc, .slice pa pn pc] 79)) (.cells #[.bool false, .bool false, .bool false, .string ⟨#[]⟩, .int .i64 0, .int .i64 0, .int .i64 0, .string ⟨#[]⟩, .int .i64 0, .pointer none] 130))
  have HSZ := hid (show (w.alloc (.cells #[.slice (some ⟨gp, 0, none⟩) 4 4, .slice sa sn sc, .slice pa pn pc] 79)).heap.size = w.heap.size + 1 by simp)
  rw [HSZ.out] at HX1
  have HBB := hid (bchS HB0.out HB1.out)
  have HF := hid (h.low HBB.out)
  have HM := hid ((HB1.out.block _ (lt_blk HX0.out)).trans HX0.out)
  clear h
  go_enter Tryz.func71, Tryz.ntmps71
  go_upto_region 1 with (fail)
  generalize (w.alloc (.cells #[.slice (some ⟨gp, 0, none⟩) 4 4, .slice sa sn sc, .slice pa pn pc] 79)).alloc (.cells #[.bool false, .bool false, .bool false, .string ⟨#[]⟩, .int .i64 0, .int .i64 0, .int .i64 0, .string ⟨#[]⟩, .int .i64 0, .pointer none] 130) = X at *
  have m0 : X.cell? ⟨w.heap.size, 0, none⟩ = some (.slice (some ⟨gp, 0, none⟩) 4 4) := cell_of_row _ _ 0 _ _ _ HM.out
  have p0 : X.cell? ⟨gp, 0, none⟩ = some (.int .i64 14) := cell_of_row _ _ 0 _ _ _ HF.out.row
  have p1 : X.cell? ⟨gp, 1, none⟩ = some (.string ⟨#[122, 111, 110, 101]⟩) := cell_of_row _ _ 1 _ _ _ HF.out.row
  have p2 : X.cell? ⟨gp, 2, none⟩ = some (.int .i64 2) := cell_of_row _ _ 2 _ _ _ HF.out.row
  have p3 : X.cell? ⟨gp, 3, none⟩ = some (.slice none 0 0) := cell_of_row _ _ 3 _ _ _ HF.out.row
  have HB2 := hid (belowA X (.cells #[.int .i64 14, .string ⟨#[122, 111, 110, 101]⟩, .int .i64 2, .slice none 0 0] 31))
  have HP2 := hid (heap_alloc_new X (.cells #[.int .i64 14, .string ⟨#[122, 111, 110, 101]⟩, .int .i64 2, .slice none 0 0] 31))
  go_upto_region 2 with (fail)
  clear m0 p0 p1 p2 p3
  generalize X.alloc (.cells #[.int .i64 14, .string ⟨#[122, 111, 110, 101]⟩, .int .i64 2, .slice none 0 0] 31) = Y at *
  have HBY := hid (HBB.out.trans (HB2.out.mono HBB.out.size))
  have HY1 := hid ((HB2.out.block _ (lt_blk HX1.out)).trans HX1.out)
  have ⟨q0, q1, q2, q3⟩ := cells4 HP2.out
  generalize X.heap.size = g at *
  go_upto_region 8 with (fail)
  refine wp_region_lit ?_
  refine wpList_plain rfl fun K hK => ?_
  have HK := hid hK
  clear hK
  go_simp
  refine HK.out _ _ ?_
  clear HK
  try simp only [Act.put, List.setIfInBounds_toArray, List.set_cons_zero, List.set_cons_succ]
  refine wpList_plain rfl fun K hK => ?_
  have HK := hid hK
  clear hK
  go_simp
  refine HK.out _ _ ?_
  clear HK
  try simp only [Act.put, List.setIfInBounds_toArray, List.set_cons_zero, List.set_cons_succ]
  refine wpList_plain rfl fun K hK => ?_
  have HK := hid hK
  clear hK
  go_simp
  refine HK.out _ _ ?_
  clear HK
  try simp only [Act.put, List.setIfInBounds_toArray, List.set_cons_zero, List.set_cons_succ]
  refine wpList_plain rfl fun K hK => ?_
  have HK := hid hK
  clear hK
  go_simp
  refine HK.out _ _ ?_
  clear HK
  try simp only [Act.put, List.setIfInBounds_toArray, List.set_cons_zero, List.set_cons_succ]
  refine wpList_plain rfl fun K hK => ?_
  have HK := hid hK
  clear hK
  go_simp
  refine HK.out _ _ ?_
  clear HK
  try simp only [Act.put, List.setIfInBounds_toArray, List.set_cons_zero, List.set_cons_succ]
  refine wpList_plain rfl fun K hK => ?_
  have HK := hid hK
  clear hK
  go_simp
  refine HK.out _ _ ?_
  clear HK
  try simp only [Act.put, List.setIfInBounds_toArray, List.set_cons_zero, List.set_cons_succ]
  refine wpList_store_row rfl 130 _ _ rfl (w.heap.size + 1) #[.bool false, .bool false, .bool false, .string ⟨#[]⟩, .int .i64 0, .int .i64 2, .int .i64 2, .string ⟨#[122, 111, 110, 101]⟩, .int .i64 0, .pointer none] rfl rfl 130 _ HY1.out infoOp rfl (by kernel_rfl) ?_
  try simp only [Act.put, List.setIfInBounds_toArray, List.set_cons_zero, List.set_cons_succ]
  have HV := hid (setRow_heap Y _ _ #[.bool false, .bool false, .bool false, .string ⟨#[]⟩, .int .i64 0, .int .i64 2, .int .i64 2, .string ⟨#[122, 111, 110, 101]⟩, .int .i64 0, .pointer none] _ _ HY1.out)
  have HBV := hid (show Below w.heap.size w (Y.setRow (w.heap.size + 1) #[.bool false, .bool false, .bool false, .string ⟨#[]⟩, .int .i64 0, .int .i64 2, .int .i64 2, .string ⟨#[122, 111, 110, 101]⟩, .int .i64 0, .pointer none]) from below_row HBY.out (by omega) _)
  clear q0 q1 q2 q3
  generalize Y.setRow (w.heap.size + 1) #[.bool false, .bool false, .bool false, .string ⟨#[]⟩, .int .i64 0, .int .i64 2, .int .i64 2, .string ⟨#[122, 111, 110, 101]⟩, .int .i64 0, .pointer none] = V at *
  go_wp2_with fail
  exact ⟨rfl, .agg #[.bool false, .bool false, .bool false, .string ⟨#[]⟩, .int .i64 0, .int .i64 2, .int .i64 2, .string ⟨#[122, 111, 110, 101]⟩, .int .i64 0, .pointer none], results_cell_row Tryz.results71 _ V (w.heap.size + 1) 130 #[.bool false, .bool false, .bool false, .string ⟨#[]⟩, .int .i64 0, .int .i64 2, .int .i64 2, .string ⟨#[122, 111, 110, 101]⟩, .int .i64 0, .pointer none] (0, 0) _ rfl HV.out Tryz.underlying130 rfl infoOp, rfl, HBV.out⟩
set_option maxHeartbeats 4000000 in
set_option maxRecDepth 100000 in
theorem operand_1 (gp k1 k2 : Nat) (sa pa : Option Addr) (sn sc pn pc : Nat) (w : World) (h : Fy w gp k1 k2) :
    Calls Tryz.prog 71 #[.agg #[.slice (some ⟨gp, 0, none⟩) 4 4, .slice sa sn sc, .slice pa pn pc], .int .i64 1] w fun e w' => e = .returned (.agg #[.bool true, .bool true, .bool true, .string ⟨#[97]⟩, .int .i64 0, .int .i64 0, .int .i64 0, .string ⟨#[]⟩, .int .i64 0, .pointer none]) ∧ Below w.heap.size w w' := by
  have HB0 := hid (belowA w (.cells #[.slice (some ⟨gp, 0, none⟩) 4 4, .slice sa sn sc, .slice pa pn pc] 79))
  have HX0 := hid (heap_alloc_new w (.cells #[.slice (some ⟨gp, 0, none⟩) 4 4, .slice sa sn sc, .slice pa pn pc] 79))
  have HB1 := hid (belowA (w.alloc (.cells #[.slice (some ⟨gp, 0, none⟩) 4 4, .slice sa sn sc, .slice pa pn pc] 79)) (.cells #[.bool false, .bool false, .bool false, .string ⟨#[]⟩, .int .i64 0, .int .i64 0, .int .i64 0, .string ⟨#[]⟩, .int .i64 0, .pointer none] 130))
  have HX1 := hid (heap_alloc_new (w.alloc (.cells #[.slice (some ⟨gp, 0, none⟩) 4 4, .slice sa sn sc, .slice pa pn pc] 79)) (.cells #[.bool false, .bool false, .bool false, .string ⟨#[]⟩, .int .i64 0, .int .i64 0, .int .i64 0, .string ⟨#[]⟩, .int .i64 0, .pointer none] 130))
  have HSZ := hid (show (w.alloc (.cells #[.slice (some ⟨gp, 0, none⟩) 4 4, .slice sa sn sc, .slice pa pn pc] 79)).heap.size = w.heap.size + 1 by simp)
  rw [HSZ.out] at HX1
  have HBB := hid (bchS HB0.out HB1.out)
  have HF := hid (h.low HBB.out)
  have HM := hid ((HB1.out.block _ (lt_blk HX0.out)).trans HX0.out)
  clear h
  go_enter Tryz.func71, Tryz.ntmps71
  go_upto_region 1 with (fail)
  generalize (w.alloc (.cells #[.slice (some ⟨gp, 0, none⟩) 4 4, .slice sa sn sc, .slice pa pn pc] 79)).alloc (.cells #[.bool false, .bool false, .bool false, .string ⟨#[]⟩, .int .i64 0, .int .i64 0, .int .i64 0, .string ⟨#[]⟩, .int .i64 0, .pointer none] 130) = X at *
  have m0 : X.cell? ⟨w.heap.size, 0, none⟩ = some (.slice (some ⟨gp, 0, none⟩) 4 4) := cell_of_row _ _ 0 _ _ _ HM.out
  have p0 : X.cell? ⟨gp, 4, none⟩ = some (.int .i64 11) := cell_of_row _ _ 4 _ _ _ HF.out.row
  have p1 : X.cell? ⟨gp, 5, none⟩ = some (.string ⟨#[97]⟩) := cell_of_row _ _ 5 _ _ _ HF.out.row
  have p2 : X.cell? ⟨gp, 6, none⟩ = some (.int .i64 0) := cell_of_row _ _ 6 _ _ _ HF.out.row
  have p3 : X.cell? ⟨gp, 7, none⟩ = some (.slice none 0 0) := cell_of_row _ _ 7 _ _ _ HF.out.row
  have HB2 := hid (belowA X (.cells #[.int .i64 11, .string ⟨#[97]⟩, .int .i64 0, .slice none 0 0] 31))
  have HP2 := hid (heap_alloc_new X (.cells #[.int .i64 11, .string ⟨#[97]⟩, .int .i64 0, .slice none 0 0] 31))
  go_upto_region 2 with (fail)
  clear m0 p0 p1 p2 p3
  generalize X.alloc (.cells #[.int .i64 11, .string ⟨#[97]⟩, .int .i64 0, .slice none 0 0] 31) = Y at *
  have HBY := hid (HBB.out.trans (HB2.out.mono HBB.out.size))
  have HY1 := hid ((HB2.out.block _ (lt_blk HX1.out)).trans HX1.out)
  have ⟨q0, q1, q2, q3⟩ := cells4 HP2.out
  generalize X.heap.size = g at *
  go_upto_region 4 with (fail)
  refine wp_region_lit ?_
  refine wpList_plain rfl fun K hK => ?_
  have HK := hid hK
  clear hK
  go_simp
  refine HK.out _ _ ?_
  clear HK
  try simp only [Act.put, List.setIfInBounds_toArray, List.set_cons_zero, List.set_cons_succ]
  refine wpList_plain rfl fun K hK => ?_
  have HK := hid hK
  clear hK
  go_simp
  refine HK.out _ _ ?_
  clear HK
  try simp only [Act.put, List.setIfInBounds_toArray, List.set_cons_zero, List.set_cons_succ]
  refine wpList_plain rfl fun K hK => ?_
  have HK := hid hK
  clear hK
  go_simp
  refine HK.out _ _ ?_
  clear HK
  try simp only [Act.put, List.setIfInBounds_toArray, List.set_cons_zero, List.set_cons_succ]
  refine wpList_store_row rfl 130 _ _ rfl (w.heap.size + 1) #[.bool true, .bool true, .bool true, .string ⟨#[97]⟩, .int .i64 0, .int .i64 0, .int .i64 0, .string ⟨#[]⟩, .int .i64 0, .pointer none] rfl rfl 130 _ HY1.out infoOp rfl (by kernel_rfl) ?_
  try simp only [Act.put, List.setIfInBounds_toArray, List.set_cons_zero, List.set_cons_succ]
  have HV := hid (setRow_heap Y _ _ #[.bool true, .bool true, .bool true, .string ⟨#[97]⟩, .int .i64 0, .int .i64 0, .int .i64 0, .string ⟨#[]⟩, .int .i64 0, .pointer none] _ _ HY1.out)
  have HBV := hid (show Below w.heap.size w (Y.setRow (w.heap.size + 1) #[.bool true, .bool true, .bool true, .string ⟨#[97]⟩, .int .i64 0, .int .i64 0, .int .i64 0, .string ⟨#[]⟩, .int .i64 0, .pointer none]) from below_row HBY.out (by omega) _)
  clear q0 q1 q2 q3
  generalize Y.setRow (w.heap.size + 1) #[.bool true, .bool true, .bool true, .string ⟨#[97]⟩, .int .i64 0, .int .i64 0, .int .i64 0, .string ⟨#[]⟩, .int .i64 0, .pointer none] = V at *
  go_wp2_with fail
  exact ⟨rfl, .agg #[.bool true, .bool true, .bool true, .string ⟨#[97]⟩, .int .i64 0, .int .i64 0, .int .i64 0, .string ⟨#[]⟩, .int .i64 0, .pointer none], results_cell_row Tryz.results71 _ V (w.heap.size + 1) 130 #[.bool true, .bool true, .bool true, .string ⟨#[97]⟩, .int .i64 0, .int .i64 0, .int .i64 0, .string ⟨#[]⟩, .int .i64 0, .pointer none] (0, 0) _ rfl HV.out Tryz.underlying130 rfl infoOp, rfl, HBV.out⟩
end Go.Proofs.YtimmjikpcekffaaGreatDoor.L
namespace Go.Proofs.YtimmjikpcekffaaGreatDoor.L
open Go.RowKit Go.Shelf
set_option linter.unusedVariables false
set_option linter.unusedSimpArgs false
theorem undef_0 (w : World) : Calls Tryz.prog 73 #[.agg #[.bool false, .bool false, .bool false, .string ⟨#[]⟩, .int .i64 0, .int .i64 2, .int .i64 2, .string ⟨#[122, 111, 110, 101]⟩, .int .i64 0, .pointer none]] w fun e w' => e = .returned (.bool false) ∧ Below w.heap.size w w' := by
  have HB0 := hid (belowA w (.cells #[.bool false, .bool false, .bool false, .string ⟨#[]⟩, .int .i64 0, .int .i64 2, .int .i64 2, .string ⟨#[122, 111, 110, 101]⟩, .int .i64 0, .pointer none] 130))
  go_enter Tryz.func73, Tryz.ntmps73
  go_wp2_with fail
  go_ret
  exact ⟨rfl, HB0.out⟩
theorem undef_1 (w : World) : Calls Tryz.prog 73 #[.agg #[.bool true, .bool true, .bool true, .string ⟨#[97]⟩, .int .i64 0, .int .i64 0, .int .i64 0, .string ⟨#[]⟩, .int .i64 0, .pointer none]] w fun e w' => e = .returned (.bool false) ∧ Below w.heap.size w w' := by
  have HB0 := hid (belowA w (.cells #[.bool true, .bool true, .bool true, .string ⟨#[97]⟩, .int .i64 0, .int .i64 0, .int .i64 0, .string ⟨#[]⟩, .int .i64 0, .pointer none] 130))
  go_enter Tryz.func73, Tryz.ntmps73
  go_wp2_with fail
  go_ret
  exact ⟨rfl, HB0.out⟩
end Go.Proofs.YtimmjikpcekffaaGreatDoor.L
namespace Go.Proofs.YtimmjikpcekffaaGreatDoor.L
open Go.RowKit Go.Shelf
set_option linter.unusedVariables false
set_option linter.unusedSimpArgs false
set_option maxHeartbeats 4000000 in
set_option maxRecDepth 100000 in
theorem against9 (w : World) : Calls Tryz.prog 74 #[.agg #[.bool false, .bool false, .bool false, .string ⟨#[]⟩, .int .i64 0, .int .i64 2, .int .i64 2, .string ⟨#[122, 111, 110, 101]⟩, .int .i64 0, .pointer none], .int .i64 1, .agg #[.bool true, .bool true, .bool true, .string ⟨#[97]⟩, .int .i64 0, .int .i64 0, .int .i64 0, .string ⟨#[]⟩, .int .i64 0, .pointer none]] w fun e w' => ∃ g, e = .returned (.agg #[.int .i64 1, .int .i64 2, .int .i64 2, .string ⟨#[122, 111, 110, 101]⟩, .int .i64 0, .int .i64 0, .int .i64 0, .slice (some ⟨g, 0, none⟩) 1 1, .slice none 0 0, .int .i64 0, .int .i64 0, .string ⟨#[]⟩, .int .i64 0, .int .i64 0, .string ⟨#[]⟩, .int .i64 0]) ∧ w'.heap[g]? = some (.cells #[.string ⟨#[97]⟩] 9 (0, 0)) ∧ w.heap.size ≤ g ∧ Below w.heap.size w w' := by
  have HB0 := hid (belowA w (.cells #[.bool false, .bool false, .bool false, .string ⟨#[]⟩, .int .i64 0, .int .i64 2, .int .i64 2, .string ⟨#[122, 111, 110, 101]⟩, .int .i64 0, .pointer none] 130))
  have HX0 := hid (heap_alloc_new w (.cells #[.bool false, .bool false, .bool false, .string ⟨#[]⟩, .int .i64 0, .int .i64 2, .int .i64 2, .string ⟨#[122, 111, 110, 101]⟩, .int .i64 0, .pointer none] 130))
  have HB1 := hid (belowA (w.alloc (.cells #[.bool false, .bool false, .bool false, .string ⟨#[]⟩, .int .i64 0, .int .i64 2, .int .i64 2, .string ⟨#[122, 111, 110, 101]⟩, .int .i64 0, .pointer none] 130)) (.cells #[.bool true, .bool true, .bool true, .string ⟨#[97]⟩, .int .i64 0, .int .i64 0, .int .i64 0, .string ⟨#[]⟩, .int .i64 0, .pointer none] 130))
  have HX1 := hid (heap_alloc_new (w.alloc (.cells #[.bool false, .bool false, .bool false, .string ⟨#[]⟩, .int .i64 0, .int .i64 2, .int .i64 2, .string ⟨#[122, 111, 110, 101]⟩, .int .i64 0, .pointer none] 130)) (.cells #[.bool true, .bool true, .bool true, .string ⟨#[97]⟩, .int .i64 0, .int .i64 0, .int .i64 0, .string ⟨#[]⟩, .int .i64 0, .pointer none] 130))
  have HB2 := hid (belowA ((w.alloc (.cells #[.bool false, .bool false, .bool false, .string ⟨#[]⟩, .int .i64 0, .int .i64 2, .int .i64 2, .string ⟨#[122, 111, 110, 101]⟩, .int .i64 0, .pointer none] 130)).alloc (.cells #[.bool true, .bool true, .bool true, .string ⟨#[97]⟩, .int .i64 0, .int .i64 0, .int .i64 0, .string ⟨#[]⟩, .int .i64 0, .pointer none] 130)) (.cells #[.int .i64 0, .int .i64 0, .int .i64 0, .string ⟨#[]⟩, .int .i64 0, .int .i64 0, .int .i64 0, .slice none 0 0, .slice none 0 0, .int .i64 0, .int .i64 0, .string ⟨#[]⟩, .int .i64 0, .int .i64 0, .string ⟨#[]⟩, .int .i64 0] 49))
  have HX2 := hid (heap_alloc_new ((w.alloc (.cells #[.bool false, .bool false, .bool false, .string ⟨#[]⟩, .int .i64 0, .int .i64 2, .int .i64 2, .string ⟨#[122, 111, 110, 101]⟩, .int .i64 0, .pointer none] 130)).alloc (.cells #[.bool true, .bool true, .bool true, .string ⟨#[97]⟩, .int .i64 0, .int .i64 0, .int .i64 0, .string ⟨#[]⟩, .int .i64 0, .pointer none] 130)) (.cells #[.int .i64 0, .int .i64 0, .int .i64 0, .string ⟨#[]⟩, .int .i64 0, .int .i64 0, .int .i64 0, .slice none 0 0, .slice none 0 0, .int .i64 0, .int .i64 0, .string ⟨#[]⟩, .int .i64 0, .int .i64 0, .string ⟨#[]⟩, .int .i64 0] 49))
  have HS1 := hid (show (w.alloc (.cells #[.bool false, .bool false, .bool false, .string ⟨#[]⟩, .int .i64 0, .int .i64 2, .int .i64 2, .string ⟨#[122, 111, 110, 101]⟩, .int .i64 0, .pointer none] 130)).heap.size = w.heap.size + 1 by simp)
  have HS2 := hid (show ((w.alloc (.cells #[.bool false, .bool false, .bool false, .string ⟨#[]⟩, .int .i64 0, .int .i64 2, .int .i64 2, .string ⟨#[122, 111, 110, 101]⟩, .int .i64 0, .pointer none] 130)).alloc (.cells #[.bool true, .bool true, .bool true, .string ⟨#[97]⟩, .int .i64 0, .int .i64 0, .int .i64 0, .string ⟨#[]⟩, .int .i64 0, .pointer none] 130)).heap.size = w.heap.size + 2 by simp)
  rw [HS1.out] at HX1
  rw [HS2.out] at HX2
  have HBB := hid (bchS (bchS HB0.out HB1.out) HB2.out)
  have HM0 := hid (((bchS HB1.out HB2.out).block _ (lt_blk HX0.out)).trans HX0.out)
  have HM1 := hid ((HB2.out.block _ (lt_blk HX1.out)).trans HX1.out)
  go_enter Tryz.func74, Tryz.ntmps74
  go_upto_region 1 with (fail)
  generalize (((w.alloc (.cells #[.bool false, .bool false, .bool false, .string ⟨#[]⟩, .int .i64 0, .int .i64 2, .int .i64 2, .string ⟨#[122, 111, 110, 101]⟩, .int .i64 0, .pointer none] 130)).alloc (.cells #[.bool true, .bool true, .bool true, .string ⟨#[97]⟩, .int .i64 0, .int .i64 0, .int .i64 0, .string ⟨#[]⟩, .int .i64 0, .pointer none] 130)).alloc (.cells #[.int .i64 0, .int .i64 0, .int .i64 0, .string ⟨#[]⟩, .int .i64 0, .int .i64 0, .int .i64 0, .slice none 0 0, .slice none 0 0, .int .i64 0, .int .i64 0, .string ⟨#[]⟩, .int .i64 0, .int .i64 0, .string ⟨#[]⟩, .int .i64 0] 49)) = X at *
  have c5 := cell_of_row _ _ 5 _ _ _ HM0.out
  have c6 := cell_of_row _ _ 6 _ _ _ HM0.out
  have c7 := cell_of_row _ _ 7 _ _ _ HM0.out
  have c8 := cell_of_row _ _ 8 _ _ _ HM0.out
  have d2 := cell_of_row _ _ 2 _ _ _ HM1.out
  have d3 := cell_of_row _ _ 3 _ _ _ HM1.out
  simp only [List.getElem?_toArray, List.getElem?_cons_succ, List.getElem?_cons_zero] at c5 c6 c7 c8 d2 d3
  go_upto_region 8 with (fail)
  refine wp_region_lit ?_
  refine wpList_plain rfl fun K hK => ?_
  have HK := hid hK
  clear hK
  go_simp
  refine HK.out _ _ ?_
  clear HK
  try simp only [Act.put, List.setIfInBounds_toArray, List.set_cons_zero, List.set_cons_succ]
  refine wpList_plain rfl fun K hK => ?_
  have HK := hid hK
  clear hK
  go_simp
  refine HK.out _ _ ?_
  clear HK
  try simp only [Act.put, List.setIfInBounds_toArray, List.set_cons_zero, List.set_cons_succ]
  refine wpList_plain rfl fun K hK => ?_
  have HK := hid hK
  clear hK
  go_simp
  refine HK.out _ _ ?_
  clear HK
  try simp only [Act.put, List.setIfInBounds_toArray, List.set_cons_zero, List.set_cons_succ]
  refine wpList_plain rfl fun K hK => ?_
  have HK := hid hK
  clear hK
  go_simp
  refine HK.out _ _ ?_
  clear HK
  try simp only [Act.put, List.setIfInBounds_toArray, List.set_cons_zero, List.set_cons_succ]
  refine wpList_plain rfl fun K hK => ?_
  have HK := hid hK
  clear hK
  go_simp
  refine HK.out _ _ ?_
  clear HK
  try simp only [Act.put, List.setIfInBounds_toArray, List.set_cons_zero, List.set_cons_succ]
  refine wpList_plain rfl fun K hK => ?_
  have HK := hid hK
  clear hK
  go_simp
  refine HK.out _ _ ?_
  clear HK
  try simp only [Act.put, List.setIfInBounds_toArray, List.set_cons_zero, List.set_cons_succ]
  have HBY := hid (belowA X (.cells #[.string ⟨#[97]⟩] 9))
  have HXY := hid (heap_alloc_new X (.cells #[.string ⟨#[97]⟩] 9))
  have HY2 := hid ((HBY.out.block _ (lt_blk HX2.out)).trans HX2.out)
  have HLE := hid (lt_blk HX2.out)
  generalize X.alloc (.cells #[.string ⟨#[97]⟩] 9) = Y at *
  generalize hgx : X.heap.size = g at *
  refine wpList_store_row rfl 49 _ _ rfl (w.heap.size + 2) #[.int .i64 1, .int .i64 2, .int .i64 2, .string ⟨#[122, 111, 110, 101]⟩, .int .i64 0, .int .i64 0, .int .i64 0, .slice (some ⟨g, 0, none⟩) 1 1, .slice none 0 0, .int .i64 0, .int .i64 0, .string ⟨#[]⟩, .int .i64 0, .int .i64 0, .string ⟨#[]⟩, .int .i64 0] rfl rfl 49 _ HY2.out infoLt rfl (by kernel_rfl) ?_
  try simp only [Act.put, List.setIfInBounds_toArray, List.set_cons_zero, List.set_cons_succ]
  have HV := hid (setRow_heap Y _ _ #[.int .i64 1, .int .i64 2, .int .i64 2, .string ⟨#[122, 111, 110, 101]⟩, .int .i64 0, .int .i64 0, .int .i64 0, .slice (some ⟨g, 0, none⟩) 1 1, .slice none 0 0, .int .i64 0, .int .i64 0, .string ⟨#[]⟩, .int .i64 0, .int .i64 0, .string ⟨#[]⟩, .int .i64 0] _ _ HY2.out)
  have HBV := hid (show Below w.heap.size w (Y.setRow (w.heap.size + 2) #[.int .i64 1, .int .i64 2, .int .i64 2, .string ⟨#[122, 111, 110, 101]⟩, .int .i64 0, .int .i64 0, .int .i64 0, .slice (some ⟨g, 0, none⟩) 1 1, .slice none 0 0, .int .i64 0, .int .i64 0, .string ⟨#[]⟩, .int .i64 0, .int .i64 0, .string ⟨#[]⟩, .int .i64 0]) from below_row (HBB.out.trans (show Below w.heap.size X Y from (show Below X.heap.size X Y by rw [hgx]; exact HBY.out).mono HBB.out.size)) (by omega) _)
  have HG := hid (show (Y.setRow (w.heap.size + 2) #[.int .i64 1, .int .i64 2, .int .i64 2, .string ⟨#[122, 111, 110, 101]⟩, .int .i64 0, .int .i64 0, .int .i64 0, .slice (some ⟨g, 0, none⟩) 1 1, .slice none 0 0, .int .i64 0, .int .i64 0, .string ⟨#[]⟩, .int .i64 0, .int .i64 0, .string ⟨#[]⟩, .int .i64 0]).heap[g]? = _ from (setRow_other _ _ _ _ (by have := HLE.out; omega)).trans HXY.out)
  have HGE := hid (show w.heap.size ≤ g by have := HLE.out; omega)
  clear c5 c6 c7 c8 d2 d3
  generalize Y.setRow (w.heap.size + 2) #[.int .i64 1, .int .i64 2, .int .i64 2, .string ⟨#[122, 111, 110, 101]⟩, .int .i64 0, .int .i64 0, .int .i64 0, .slice (some ⟨g, 0, none⟩) 1 1, .slice none 0 0, .int .i64 0, .int .i64 0, .string ⟨#[]⟩, .int .i64 0, .int .i64 0, .string ⟨#[]⟩, .int .i64 0] = V at *
  go_wp2_with fail
  exact ⟨rfl, .agg #[.int .i64 1, .int .i64 2, .int .i64 2, .string ⟨#[122, 111, 110, 101]⟩, .int .i64 0, .int .i64 0, .int .i64 0, .slice (some ⟨g, 0, none⟩) 1 1, .slice none 0 0, .int .i64 0, .int .i64 0, .string ⟨#[]⟩, .int .i64 0, .int .i64 0, .string ⟨#[]⟩, .int .i64 0], results_cell_row Tryz.results74 _ V (w.heap.size + 2) 49 #[.int .i64 1, .int .i64 2, .int .i64 2, .string ⟨#[122, 111, 110, 101]⟩, .int .i64 0, .int .i64 0, .int .i64 0, .slice (some ⟨g, 0, none⟩) 1 1, .slice none 0 0, .int .i64 0, .int .i64 0, .string ⟨#[]⟩, .int .i64 0, .int .i64 0, .string ⟨#[]⟩, .int .i64 0] (0, 0) _ rfl HV.out Tryz.underlying49 rfl infoLt, g, rfl, HG.out, HGE.out, HBV.out⟩
set_option maxHeartbeats 4000000 in
set_option maxRecDepth 100000 in
theorem literal9 (g : Nat) (w : World) : Calls Tryz.prog 44 #[.agg #[.int .i64 1, .int .i64 2, .int .i64 2, .string ⟨#[122, 111, 110, 101]⟩, .int .i64 0, .int .i64 0, .int .i64 0, .slice (some ⟨g, 0, none⟩) 1 1, .slice none 0 0, .int .i64 0, .int .i64 0, .string ⟨#[]⟩, .int .i64 0, .int .i64 0, .string ⟨#[]⟩, .int .i64 0], .pointer none, .int .i64 1] w fun e w' => ∃ b, e = .returned (.pointer (some ⟨b, 0, none⟩)) ∧ w'.heap[b]? = some (.cells #[.int .i64 5, .bool true, .int .i64 1, .int .i64 2, .int .i64 2, .string ⟨#[122, 111, 110, 101]⟩, .int .i64 0, .int .i64 0, .int .i64 0, .slice (some ⟨g, 0, none⟩) 1 1, .slice none 0 0, .int .i64 0, .int .i64 0, .string ⟨#[]⟩, .int .i64 0, .int .i64 0, .string ⟨#[]⟩, .int .i64 0, .slice none 0 0, .pointer none] 95 (0, 0)) ∧ w.heap.size ≤ b ∧ Below w.heap.size w w' := by
  have HB0 := hid (belowA w (.cells #[.int .i64 1, .int .i64 2, .int .i64 2, .string ⟨#[122, 111, 110, 101]⟩, .int .i64 0, .int .i64 0, .int .i64 0, .slice (some ⟨g, 0, none⟩) 1 1, .slice none 0 0, .int .i64 0, .int .i64 0, .string ⟨#[]⟩, .int .i64 0, .int .i64 0, .string ⟨#[]⟩, .int .i64 0] 49))
  have HX0 := hid (heap_alloc_new w (.cells #[.int .i64 1, .int .i64 2, .int .i64 2, .string ⟨#[122, 111, 110, 101]⟩, .int .i64 0, .int .i64 0, .int .i64 0, .slice (some ⟨g, 0, none⟩) 1 1, .slice none 0 0, .int .i64 0, .int .i64 0, .string ⟨#[]⟩, .int .i64 0, .int .i64 0, .string ⟨#[]⟩, .int .i64 0] 49))
  go_enter Tryz.func44, Tryz.ntmps44
  go_upto_region 1 with (fail)
  generalize w.alloc (.cells #[.int .i64 1, .int .i64 2, .int .i64 2, .string ⟨#[122, 111, 110, 101]⟩, .int .i64 0, .int .i64 0, .int .i64 0, .slice (some ⟨g, 0, none⟩) 1 1, .slice none 0 0, .int .i64 0, .int .i64 0, .string ⟨#[]⟩, .int .i64 0, .int .i64 0, .string ⟨#[]⟩, .int .i64 0] 49) = X at *
  refine wp_region_lit ?_
  refine wpList_plain rfl fun K hK => ?_
  have HK := hid hK
  clear hK
  go_simp
  refine HK.out _ _ ?_
  clear HK
  try simp only [Act.put, List.setIfInBounds_toArray, List.set_cons_zero, List.set_cons_succ]
  refine wpList_plain rfl fun K hK => ?_
  have HK := hid hK
  clear hK
  go_simp
  refine HK.out _ _ ?_
  clear HK
  try simp only [Act.put, List.setIfInBounds_toArray, List.set_cons_zero, List.set_cons_succ]
  refine wpList_load_mid rfl 49 _ rfl w.heap.size 0 rfl [.int .i64 1, .int .i64 2, .int .i64 2, .string ⟨#[122, 111, 110, 101]⟩, .int .i64 0, .int .i64 0, .int .i64 0, .slice (some ⟨g, 0, none⟩) 1 1, .slice none 0 0, .int .i64 0, .int .i64 0, .string ⟨#[]⟩, .int .i64 0, .int .i64 0, .string ⟨#[]⟩, .int .i64 0] _ (fun j v h => by rw [Nat.zero_add, cell_of_row _ _ j _ _ _ HX0.out]; simpa using h) Tryz.underlying49 rfl infoLt ?_
  try simp only [Act.put, List.setIfInBounds_toArray, List.set_cons_zero, List.set_cons_succ]
  have HBY := hid (belowA X (.cells #[.int .i64 5, .bool true, .int .i64 1, .int .i64 2, .int .i64 2, .string ⟨#[122, 111, 110, 101]⟩, .int .i64 0, .int .i64 0, .int .i64 0, .slice (some ⟨g, 0, none⟩) 1 1, .slice none 0 0, .int .i64 0, .int .i64 0, .string ⟨#[]⟩, .int .i64 0, .int .i64 0, .string ⟨#[]⟩, .int .i64 0, .slice none 0 0, .pointer none] 95))
  have HXY := hid (heap_alloc_new X (.cells #[.int .i64 5, .bool true, .int .i64 1, .int .i64 2, .int .i64 2, .string ⟨#[122, 111, 110, 101]⟩, .int .i64 0, .int .i64 0, .int .i64 0, .slice (some ⟨g, 0, none⟩) 1 1, .slice none 0 0, .int .i64 0, .int .i64 0, .string ⟨#[]⟩, .int .i64 0, .int .i64 0, .string ⟨#[]⟩, .int .i64 0, .slice none 0 0, .pointer none] 95))
  go_wp2_with fail
  go_ret
  exact ⟨X.heap.size, rfl, HXY.out, HB0.out.size, HB0.out.trans (HBY.out.mono HB0.out.size)⟩
end Go.Proofs.YtimmjikpcekffaaGreatDoor.L
