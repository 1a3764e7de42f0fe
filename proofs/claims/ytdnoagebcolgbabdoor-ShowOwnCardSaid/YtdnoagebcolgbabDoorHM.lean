import Derived.Test.YtdnoagebcolgbabDoorHL
namespace Go.Proofs.YtdnoagebcolgbabDoor.L
open Go.RowKit Go.Shelf
set_option linter.unusedVariables false
theorem undrew {B : Nat} {w w' : World} (h : Below B w.drew w') : Below B w w' := ⟨h.os, h.tape, h.output, h.size, h.block⟩
/-- The fixed tree of awake in memory. -/
structure Fx (w : World) (gp gk : Nat) : Prop where
  row : w.heap[gp]? = some (.cells #[.int .i64 1, .string ⟨#[]⟩, .int .i64 0, .slice none 0 0, .int .i64 3, .string ⟨#[]⟩, .int .i64 0, .slice (some ⟨gk, 0, none⟩) 1 1] 33 (0, 0))
  kid : w.heap[gk]? = some (.cells #[.int .i64 0] 3 (0, 0))
theorem Fx.low {w w' : World} {gp gk : Nat} (h : Fx w gp gk) (k : Below w.heap.size w w') : Fx w' gp gk := ⟨(k.block _ (lt_blk h.row)).trans h.row, (k.block _ (lt_blk h.kid)).trans h.kid⟩
theorem Fx.cells {w : World} {gp gk : Nat} (h : Fx w gp gk) : w.cell? ⟨gp, 0, none⟩ = some (.int .i64 1) ∧ w.cell? ⟨gp, 1, none⟩ = some (.string ⟨#[]⟩) ∧ w.cell? ⟨gp, 2, none⟩ = some (.int .i64 0) ∧ w.cell? ⟨gp, 3, none⟩ = some (.slice none 0 0) ∧ w.cell? ⟨gp, 4, none⟩ = some (.int .i64 3) ∧ w.cell? ⟨gp, 5, none⟩ = some (.string ⟨#[]⟩) ∧ w.cell? ⟨gp, 6, none⟩ = some (.int .i64 0) ∧ w.cell? ⟨gp, 7, none⟩ = some (.slice (some ⟨gk, 0, none⟩) 1 1) ∧ w.cell? ⟨gk, 0, none⟩ = some (.int .i64 0) :=
  ⟨cell_of_row _ _ 0 _ _ _ h.row, cell_of_row _ _ 1 _ _ _ h.row, cell_of_row _ _ 2 _ _ _ h.row, cell_of_row _ _ 3 _ _ _ h.row, cell_of_row _ _ 4 _ _ _ h.row, cell_of_row _ _ 5 _ _ _ h.row, cell_of_row _ _ 6 _ _ _ h.row, cell_of_row _ _ 7 _ _ _ h.row, cell_of_row _ _ 0 _ _ _ h.kid⟩
set_option maxHeartbeats 4000000 in
set_option maxRecDepth 100000 in
theorem textof_fixed (gp gk : Nat) (w : World) (h : Fx w gp gk) :
    Calls Tryd.prog 13 #[.slice (some ⟨gp, 0, none⟩) 2 2] w fun e w' => e = .returned (.tuple #[.string ⟨#[33, 116, 114, 117, 101]⟩, .bool true]) ∧ Below w.heap.size w w' := by
  have M2 := make2
  have HF := hid h
  have hb1 := belowA w (.cells #[.string ⟨#[]⟩, .string ⟨#[]⟩] 9)
  have HB1 := hid hb1
  have HT1 := hid (heap_alloc_new w (.cells #[.string ⟨#[]⟩, .string ⟨#[]⟩] 9))
  have HS1 := hid (show (w.alloc (.cells #[.string ⟨#[]⟩, .string ⟨#[]⟩] 9)).heap.size = w.heap.size + 1 by simp)
  clear hb1 h
  go_enter Tryd.func13, Tryd.ntmps13
  go_upto_region 2 with (fail)
  have HFX := hid (HF.out.low HB1.out)
  generalize hXe : w.alloc (.cells #[.string ⟨#[]⟩, .string ⟨#[]⟩] 9) = X at *
  clear hXe M2
  go_wp2_with fail
  refine wp_loop_rounds 3 ?_
  rw [rounds_succ]
  have ⟨p0, p1, p2, p3, p4, p5, p6, p7, k0⟩ := HFX.out.cells
  have HB2 := hid (belowA X (.cells #[.int .i64 1, .string ⟨#[]⟩, .int .i64 0, .slice none 0 0] 33))
  have HP2 := hid (heap_alloc_new X (.cells #[.int .i64 1, .string ⟨#[]⟩, .int .i64 0, .slice none 0 0] 33))
  have HS2 := hid (show (X.alloc (.cells #[.int .i64 1, .string ⟨#[]⟩, .int .i64 0, .slice none 0 0] 33)).heap.size = X.heap.size + 1 by simp)
  go_upto_region 5 with (fail)
  have HFY := hid (HFX.out.low HB2.out)
  have HTY := hid ((HB2.out.block w.heap.size (by rw [HS1.out]; exact Nat.lt_succ_self _)).trans HT1.out)
  clear p0 p1 p2 p3 p4 p5 p6 p7 k0
  generalize X.alloc (.cells #[.int .i64 1, .string ⟨#[]⟩, .int .i64 0, .slice none 0 0] 33) = Y at *
  have hPl : X.heap.size < Y.heap.size := by rw [HS2.out]; exact Nat.lt_succ_self _
  have hTl : w.heap.size < Y.heap.size := by rw [HS2.out, HS1.out]; omega
  have hTP : w.heap.size ≠ X.heap.size := by rw [HS1.out]; omega
  generalize hPe : X.heap.size = P at *
  have ⟨q0, q1, q2, q3⟩ := cells4 HP2.out
  have HKN := hid kid_none
  have HCT := hid ctext_true
  have HPl := hid hPl
  have HTl := hid hTl
  go_region_held3 (fun Z => Z.cell? ⟨P, 0, none⟩ = some (.int .i64 1) ∧ Z.cell? ⟨P, 1, none⟩ = some (.string ⟨#[]⟩) ∧ Z.cell? ⟨P, 2, none⟩ = some (.int .i64 0) ∧ Z.cell? ⟨P, 3, none⟩ = some (.slice none 0 0)) (first | exact ⟨q0, q1, q2, q3⟩ | (refine ⟨?_, ?_, ?_, ?_⟩ <;> assumption) | go_keep)
    (first
      | (go_at_call 23; refine (HKN.out _ _ _ _ _ _).mono ?_; rintro e w1 ⟨⟨kv, rfl⟩, l1⟩; have a0 := (l1.cell (p := ⟨P, 0, none⟩) HPl.out).trans q0; have a1 := (l1.cell (p := ⟨P, 1, none⟩) HPl.out).trans q1; have a2 := (l1.cell (p := ⟨P, 2, none⟩) HPl.out).trans q2; have a3 := (l1.cell (p := ⟨P, 3, none⟩) HPl.out).trans q3; have L1 := hid l1; clear l1)
      | (go_at_call 22; refine (HCT.out _ _ _ _ _).mono ?_; rintro e w2 ⟨rfl, l2⟩; have L2 := hid (L1.out.trans (l2.mono L1.out.size)); clear l2; have a0 := (L2.out.cell (p := ⟨P, 0, none⟩) HPl.out).trans q0; have a1 := (L2.out.cell (p := ⟨P, 1, none⟩) HPl.out).trans q1; have a2 := (L2.out.cell (p := ⟨P, 2, none⟩) HPl.out).trans q2; have a3 := (L2.out.cell (p := ⟨P, 3, none⟩) HPl.out).trans q3; have HTZ := hid ((L2.out.block w.heap.size HTl.out).trans HTY.out); have t0 := cell_of_row _ _ 0 _ _ _ HTZ.out; have t1 : w2.frozen? ⟨w.heap.size, 0, none⟩ = false := by simp [World.frozen?, HTZ.out]))
  have HBV := hid (show Below w.heap.size w (w2.setCell ⟨w.heap.size, 0, none⟩ (.string ⟨#[116, 114, 117, 101]⟩)) from ((HB1.out.trans (HB2.out.mono (by have := HS1.out; omega))).trans ((show Below Y.heap.size Y w2 from undrew L2.out).mono (Nat.le_of_lt HTl.out))).setCell (p := ⟨w.heap.size, 0, none⟩) (Nat.le_refl _) _)
  have HTV := hid (show (w2.setCell ⟨w.heap.size, 0, none⟩ (.string ⟨#[116, 114, 117, 101]⟩)).heap[w.heap.size]? = some (.cells #[.string ⟨#[116, 114, 117, 101]⟩, .string ⟨#[]⟩] 9 (0, 0)) by
    rw [setCell_eq_setRow _ _ _ _ _ _ _ HTZ.out, setRow_heap _ _ _ _ _ _ HTZ.out]
    rfl)
  have HFV := hid (HF.out.low HBV.out)
  clear a0 a1 a2 a3 t0 t1 hPl hTl hTP q0 q1 q2 q3 HKN HCT
  rename_i hHeld
  clear hHeld
  generalize w2.setCell ⟨w.heap.size, 0, none⟩ (.string ⟨#[116, 114, 117, 101]⟩) = V at *
  have y0 : V.cell? ⟨w.heap.size, 0, none⟩ = some (.string ⟨#[116, 114, 117, 101]⟩) := cell_of_row _ _ 0 _ _ _ HTV.out
  go_wp2_with fail
  rw [rounds_succ]
  have ⟨p0, p1, p2, p3, p4, p5, p6, p7, k0⟩ := HFV.out.cells
  have HB3 := hid (belowA V (.cells #[.int .i64 3, .string ⟨#[]⟩, .int .i64 0, .slice (some ⟨gk, 0, none⟩) 1 1] 33))
  have HP3 := hid (heap_alloc_new V (.cells #[.int .i64 3, .string ⟨#[]⟩, .int .i64 0, .slice (some ⟨gk, 0, none⟩) 1 1] 33))
  have HS3 := hid (show (V.alloc (.cells #[.int .i64 3, .string ⟨#[]⟩, .int .i64 0, .slice (some ⟨gk, 0, none⟩) 1 1] 33)).heap.size = V.heap.size + 1 by simp)
  go_upto_region 5 with (fail)
  have HFU := hid (HFV.out.low HB3.out)
  have HTU := hid ((HB3.out.block w.heap.size (lt_blk HTV.out)).trans HTV.out)
  clear p0 p1 p2 p3 p4 p5 p6 p7 k0 y0
  have HVl := hid (lt_blk HTV.out)
  generalize V.alloc (.cells #[.int .i64 3, .string ⟨#[]⟩, .int .i64 0, .slice (some ⟨gk, 0, none⟩) 1 1] 33) = U at *
  have HRl := hid (show V.heap.size < U.heap.size by rw [HS3.out]; exact Nat.lt_succ_self _)
  have HTl2 := hid (lt_blk HTU.out)
  have hTR : w.heap.size ≠ V.heap.size := Nat.ne_of_lt HVl.out
  generalize hRe : V.heap.size = R at *
  have ⟨q0, q1, q2, q3⟩ := cells4 HP3.out
  have HK1 := hid (kid_one gp w.heap.size gk ⟨#[]⟩ 0 U.drew HFU.out.cells.1 (cell_of_row U _ 0 _ _ _ HTU.out) HFU.out.cells.2.2.2.2.2.2.2.2)
  have HCN := hid ctext_not
  go_region_held3 (fun Z => Z.cell? ⟨R, 0, none⟩ = some (.int .i64 3) ∧ Z.cell? ⟨R, 1, none⟩ = some (.string ⟨#[]⟩) ∧ Z.cell? ⟨R, 2, none⟩ = some (.int .i64 0) ∧ Z.cell? ⟨R, 3, none⟩ = some (.slice (some ⟨gk, 0, none⟩) 1 1)) (first | exact ⟨q0, q1, q2, q3⟩ | (refine ⟨?_, ?_, ?_, ?_⟩ <;> assumption) | go_keep)
    (first
      | (go_at_call 23; refine HK1.out.mono ?_; rintro e w3 ⟨g, rfl, hgl, hgc, l1⟩; have HGL := hid hgl; have HGC := hid hgc; clear hgl hgc; have a0 := (l1.cell (p := ⟨R, 0, none⟩) HRl.out).trans q0; have a1 := (l1.cell (p := ⟨R, 1, none⟩) HRl.out).trans q1; have a2 := (l1.cell (p := ⟨R, 2, none⟩) HRl.out).trans q2; have a3 := (l1.cell (p := ⟨R, 3, none⟩) HRl.out).trans q3; have L1 := hid l1; clear l1)
      | (go_at_call 22; refine (HCN.out _ _ _ _ _ HGL.out HGC.out).mono ?_; rintro e w4 ⟨rfl, l2⟩; have L4 := hid (L1.out.trans (l2.mono L1.out.size)); clear l2; have a0 := (L4.out.cell (p := ⟨R, 0, none⟩) HRl.out).trans q0; have a1 := (L4.out.cell (p := ⟨R, 1, none⟩) HRl.out).trans q1; have a2 := (L4.out.cell (p := ⟨R, 2, none⟩) HRl.out).trans q2; have a3 := (L4.out.cell (p := ⟨R, 3, none⟩) HRl.out).trans q3; have HTZ := hid ((L4.out.block w.heap.size HTl2.out).trans HTU.out); have t0 := cell_of_row _ _ 1 _ _ _ HTZ.out; have t1 : w4.frozen? ⟨w.heap.size, 1, none⟩ = false := by simp [World.frozen?, HTZ.out]))
  have HBF := hid (show Below w.heap.size w (w4.setCell ⟨w.heap.size, 1, none⟩ (.string ⟨#[33, 116, 114, 117, 101]⟩)) from ((HBV.out.trans (HB3.out.mono (by have := HVl.out; omega))).trans ((show Below U.heap.size U w4 from undrew L4.out).mono (Nat.le_of_lt HTl2.out))).setCell (p := ⟨w.heap.size, 1, none⟩) (Nat.le_refl _) _)
  have HTF := hid (show (w4.setCell ⟨w.heap.size, 1, none⟩ (.string ⟨#[33, 116, 114, 117, 101]⟩)).heap[w.heap.size]? = some (.cells #[.string ⟨#[116, 114, 117, 101]⟩, .string ⟨#[33, 116, 114, 117, 101]⟩] 9 (0, 0)) by
    rw [setCell_eq_setRow _ _ _ _ _ _ _ HTZ.out, setRow_heap _ _ _ _ _ _ HTZ.out]
    rfl)
  clear a0 a1 a2 a3 t0 t1 hTR q0 q1 q2 q3 HK1 HCN
  rename_i hHeld
  clear hHeld
  generalize w4.setCell ⟨w.heap.size, 1, none⟩ (.string ⟨#[33, 116, 114, 117, 101]⟩) = F at *
  have y1 : F.cell? ⟨w.heap.size, 1, none⟩ = some (.string ⟨#[33, 116, 114, 117, 101]⟩) := cell_of_row _ _ 1 _ _ _ HTF.out
  go_wp2_with fail
  rw [rounds_succ]
  go_wp2_with fail
  exact bodyPost_ret (v := .tuple #[.string ⟨#[33, 116, 114, 117, 101]⟩, .bool true]) (by simp [results, Tryd.results13]) rfl ⟨rfl, HBF.out⟩
end Go.Proofs.YtdnoagebcolgbabDoor.L
