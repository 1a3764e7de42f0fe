import Derived.Test.YtdnoagebcolgbabDoorHK
namespace Go.Proofs.YtdnoagebcolgbabDoor.L
open Go.RowKit Go.Shelf
set_option linter.unusedVariables false
theorem infoS : (Tryd.prog.info? 9).map (fun i => (i.zero, i.size, i.bytes)) = some (some (.string ⟨#[]⟩), 1, 16) := by kernel_rfl
theorem make_txt (n : Nat) (hn : n ≤ 1000) (w : World) : (Instr.makeSlice 59 (.int .i64 (n : Int)) (.int .i64 (n : Int))).run Tryd.prog w = .ok (.slice (some ⟨w.heap.size, 0, none⟩) n n) (w.alloc (.cells (madeCells #[.string ⟨#[]⟩] n) 9)) := by
  obtain ⟨i, hi, hz, hs, hb⟩ := info_parts infoS
  have h := run_makeSlice (P := Tryd.prog) w 59 9 i (.string ⟨#[]⟩) Tryd.underlying59 hi hz .i64 .i64 n n (by omega) (by omega) (by rw [hs]; omega) (by rw [hb]; omega) (by omega)
  rw [hs] at h
  simpa [Value.cells] using h
theorem make0 (w : World) : (Instr.makeSlice 59 (.int .i64 0) (.int .i64 0)).run Tryd.prog w = .ok (.slice (some ⟨w.heap.size, 0, none⟩) 0 0) (w.alloc (.cells #[] 9)) := by
  have h := make_txt 0 (by decide) w
  rw [show madeCells #[Value.string ⟨#[]⟩] 0 = #[] from by kernel_rfl] at h
  exact h
theorem make1 (w : World) : (Instr.makeSlice 59 (.int .i64 1) (.int .i64 1)).run Tryd.prog w = .ok (.slice (some ⟨w.heap.size, 0, none⟩) 1 1) (w.alloc (.cells #[.string ⟨#[]⟩] 9)) := by
  have h := make_txt 1 (by decide) w
  rw [show madeCells #[Value.string ⟨#[]⟩] 1 = #[.string ⟨#[]⟩] from by kernel_rfl] at h
  exact h
theorem make2 (w : World) : (Instr.makeSlice 59 (.int .i64 2) (.int .i64 2)).run Tryd.prog w = .ok (.slice (some ⟨w.heap.size, 0, none⟩) 2 2) (w.alloc (.cells #[.string ⟨#[]⟩, .string ⟨#[]⟩] 9)) := by
  have h := make_txt 2 (by decide) w
  rw [show madeCells #[Value.string ⟨#[]⟩] 2 = #[.string ⟨#[]⟩, .string ⟨#[]⟩] from by kernel_rfl] at h
  exact h
set_option maxHeartbeats 4000000 in
set_option maxRecDepth 100000 in
theorem kid_none (pv tv : Value) (kd : Int) (tx : ByteArray) (nu : Int) (w : World) :
    Calls Tryd.prog 23 #[pv, tv, .agg #[.int .i64 kd, .string tx, .int .i64 nu, .slice none 0 0]] w fun e w' => (∃ v, e = .returned v) ∧ Below w.heap.size w w' := by
  have M0 := make0
  have hb := (belowA w (.cells #[.int .i64 kd, .string tx, .int .i64 nu, .slice none 0 0] 33)).alloc (by simp) (.cells #[] 9)
  have HB := hid hb
  clear hb
  go_enter Tryd.func23, Tryd.ntmps23
  go_wp2_with fail
  refine wp_loop_rounds 1 ?_
  rw [rounds_succ]
  go_wp2_with fail
  go_ret
  exact ⟨⟨_, rfl⟩, HB.out⟩
set_option maxHeartbeats 4000000 in
set_option maxRecDepth 100000 in
theorem kid_one (gp gt gk : Nat) (tx : ByteArray) (nu : Int) (w : World) (hp : w.cell? ⟨gp, 0, none⟩ = some (.int .i64 1)) (ht : w.cell? ⟨gt, 0, none⟩ = some (.string ⟨#[116, 114, 117, 101]⟩)) (hk : w.cell? ⟨gk, 0, none⟩ = some (.int .i64 0)) :
    Calls Tryd.prog 23 #[.slice (some ⟨gp, 0, none⟩) 2 2, .slice (some ⟨gt, 0, none⟩) 2 2, .agg #[.int .i64 3, .string tx, .int .i64 nu, .slice (some ⟨gk, 0, none⟩) 1 1]] w fun e w' => ∃ g, e = .returned (.slice (some ⟨g, 0, none⟩) 1 1) ∧ g < w'.heap.size ∧ w'.cell? ⟨g, 0, none⟩ = some (.string ⟨#[116, 114, 117, 101]⟩) ∧ Below w.heap.size w w' := by
  have M1 := make1
  have HGR := hid grouped_any
  have lp := World.block_lt_of_cell? w _ hp
  have lt := World.block_lt_of_cell? w _ ht
  have lk := World.block_lt_of_cell? w _ hk
  simp only at lp lt lk
  have hb1 := belowA w (.cells #[.int .i64 3, .string tx, .int .i64 nu, .slice (some ⟨gk, 0, none⟩) 1 1] 33)
  have hb := hb1.alloc (by simp) (.cells #[.string ⟨#[]⟩] 9)
  have HB := hid hb
  have HS := hid (show ((w.alloc (.cells #[.int .i64 3, .string tx, .int .i64 nu, .slice (some ⟨gk, 0, none⟩) 1 1] 33)).alloc (.cells #[.string ⟨#[]⟩] 9)).heap.size = w.heap.size + 1 + 1 by simp)
  have HX := hid (show Boxed ((w.alloc (.cells #[.int .i64 3, .string tx, .int .i64 nu, .slice (some ⟨gk, 0, none⟩) 1 1] 33)).alloc (.cells #[.string ⟨#[]⟩] 9)) (w.heap.size + 1) 9 (.string ⟨#[]⟩) by
    have := Boxed.new (w.alloc (.cells #[.int .i64 3, .string tx, .int .i64 nu, .slice (some ⟨gk, 0, none⟩) 1 1] 33)) 9 (.string ⟨#[]⟩)
    rwa [World.size_alloc] at this)
  have HXP := hid (show ((w.alloc (.cells #[.int .i64 3, .string tx, .int .i64 nu, .slice (some ⟨gk, 0, none⟩) 1 1] 33)).alloc (.cells #[.string ⟨#[]⟩] 9)).heap[w.heap.size]? = some (.cells #[.int .i64 3, .string tx, .int .i64 nu, .slice (some ⟨gk, 0, none⟩) 1 1] 33 (0, 0)) from (Below.heap_alloc _ _ _ (by simp)).trans (heap_alloc_new w _))
  clear hb1
  have HPC := hid ((hb.cell (p := ⟨gp, 0, none⟩) lp).trans hp)
  have HTC := hid ((hb.cell (p := ⟨gt, 0, none⟩) lt).trans ht)
  have HKC := hid ((hb.cell (p := ⟨gk, 0, none⟩) lk).trans hk)
  clear hb hp ht hk
  go_enter Tryd.func23, Tryd.ntmps23
  go_upto_region 2 with (fail)
  generalize (w.alloc (.cells #[.int .i64 3, .string tx, .int .i64 nu, .slice (some ⟨gk, 0, none⟩) 1 1] 33)).alloc (.cells #[.string ⟨#[]⟩] 9) = X at *
  have ⟨x0, x1, x2, x3⟩ := cells4 HXP.out
  have xp := HPC.out
  have xt := HTC.out
  have xk := HKC.out
  have xc := HX.out.cell
  have xf := HX.out.frozen
  go_wp2_with fail
  refine wp_loop_rounds 2 ?_
  rw [rounds_succ]
  go_upto_region 6 with (fail)
  have HXY := hid (HX.out.set (.string ⟨#[116, 114, 117, 101]⟩))
  have HBY := hid (HB.out.setCell (p := ⟨w.heap.size + 1, 0, none⟩) (Nat.le_succ _) (.string ⟨#[116, 114, 117, 101]⟩))
  have y0 : (X.setCell ⟨w.heap.size + 1, 0, none⟩ (.string ⟨#[116, 114, 117, 101]⟩)).cell? ⟨w.heap.size, 0, none⟩ = some (.int .i64 3) := (World.cell?_setCell_far _ _ _ _ (Nat.succ_ne_self _)).trans x0
  have yp : (X.setCell ⟨w.heap.size + 1, 0, none⟩ (.string ⟨#[116, 114, 117, 101]⟩)).cell? ⟨gp, 0, none⟩ = some (.int .i64 1) := (World.cell?_setCell_far _ _ _ _ (by show w.heap.size + 1 ≠ gp; omega)).trans xp
  clear x0 x1 x2 x3 xp xt xk xc xf M1
  generalize X.setCell ⟨w.heap.size + 1, 0, none⟩ (.string ⟨#[116, 114, 117, 101]⟩) = Y at *
  have hbr : brB 3 1 = false := rfl
  go_region_held3 (fun Y => Y.cell? ⟨w.heap.size, 0, none⟩ = some (.int .i64 3) ∧ Y.cell? ⟨gp, 0, none⟩ = some (.int .i64 1)) (first | exact ⟨y0, yp⟩ | go_keep | assumption) (first | (go_at_call 39; refine (HGR.out _ _ _).mono ?_; rintro e w1 ⟨rfl, hww⟩; have hw2 := hww.symm; clear hww; subst hw2))
  go_wp2_with fail
  rw [rounds_succ]
  go_wp2_with fail
  go_ret
  exact ⟨w.heap.size + 1, rfl, HXY.out.lt, HXY.out.cell, HBY.out.drew⟩
end Go.Proofs.YtdnoagebcolgbabDoor.L
