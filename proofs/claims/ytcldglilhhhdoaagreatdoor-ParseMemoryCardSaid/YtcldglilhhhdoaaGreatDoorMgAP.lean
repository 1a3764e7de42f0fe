import Derived.Test.YtcldglilhhhdoaaGreatDoorPbN
import Derived.Laws.Tables
import Derived.Deep.WholeRow
import Derived.Laws.Rows
import Derived.Laws.StructEq
namespace Go.Proofs.YtcldglilhhhdoaaGreatDoor.L
open Go.RowKit Go.Shelf
set_option linter.unusedVariables false
set_option linter.unusedSimpArgs false
theorem fli4 {W : World} {N c : Nat} {a : Int} (h : Fli W N c a) : W.cell? ⟨N, 0, none⟩ = some (.int .i64 (c : Int)) ∧ W.cell? ⟨N, 1, none⟩ = some (.int .i64 a) ∧ W.cell? ⟨N, 2, none⟩ = some (.string ⟨#[]⟩) ∧ W.cell? ⟨N, 3, none⟩ = some .nilIface :=
 ⟨cell_of_row _ _ 0 _ _ _ h, cell_of_row _ _ 1 _ _ _ h, cell_of_row _ _ 2 _ _ _ h, cell_of_row _ _ 3 _ _ _ h⟩
theorem info53 : (Tryz.prog.info? 35).map (·.size) = some 19 := by kernel_rfl
set_option maxHeartbeats 4000000 in
set_option maxRecDepth 100000 in
theorem read_yes (N c : Nat) (a : Int) (w : World) (h : Fli w N c a) (h0 : c ≠ 0) : Calls Tryz.prog 12 #[fv N] w fun e w' => e = .returned (.agg #[.int .i64 (c : Int), .int .i64 a, .string ⟨#[]⟩, .int .i64 0, .int .i64 0, .int .i64 0, .string ⟨#[]⟩, .int .i64 0, .int .i64 0, .int .i64 0, .string ⟨#[]⟩, .int .i64 0, .int .i64 0, .int .i64 0, .string ⟨#[]⟩, .int .i64 0, .int .i64 0, .int .i64 0, .string ⟨#[]⟩]) ∧ Below w.heap.size w w' := by
 unfold fv
 have ra := run_assert
 obtain ⟨cs, hcs⟩ : ∃ cs : Array Value, cs = #[.int .i64 (c : Int), .int .i64 a, .string ⟨#[]⟩, .int .i64 0, .int .i64 0, .int .i64 0, .string ⟨#[]⟩, .int .i64 0, .int .i64 0, .int .i64 0, .string ⟨#[]⟩, .int .i64 0, .int .i64 0, .int .i64 0, .string ⟨#[]⟩, .int .i64 0, .int .i64 0, .int .i64 0, .string ⟨#[]⟩] := ⟨_, rfl⟩
 have HCS := hid hcs
 have hz9 : cs.size = 19 := by rw [hcs]; rfl
 clear hcs
 obtain ⟨c0, c1, c2, c3⟩ := fli4 h
 have h0' : ((c : Int) == 0) = false := by simpa using h0
 have hl := lt_blk h
 have hne : N ≠ w.heap.size := by omega
 go_enter Tryz.func12, Tryz.ntmps12
 go_upto_region 6 with (fail)
 have hb := belowA w (.cells #[.int .i64 0, .int .i64 0, .string ⟨#[]⟩, .int .i64 0, .int .i64 0, .int .i64 0, .string ⟨#[]⟩, .int .i64 0, .int .i64 0, .int .i64 0, .string ⟨#[]⟩, .int .i64 0, .int .i64 0, .int .i64 0, .string ⟨#[]⟩, .int .i64 0, .int .i64 0, .int .i64 0, .string ⟨#[]⟩] 35)
 have hx := heap_alloc_new w (.cells #[.int .i64 0, .int .i64 0, .string ⟨#[]⟩, .int .i64 0, .int .i64 0, .int .i64 0, .string ⟨#[]⟩, .int .i64 0, .int .i64 0, .int .i64 0, .string ⟨#[]⟩, .int .i64 0, .int .i64 0, .int .i64 0, .string ⟨#[]⟩, .int .i64 0, .int .i64 0, .int .i64 0, .string ⟨#[]⟩] 35)
 have HZ := hid (show (w.alloc (.cells #[.int .i64 0, .int .i64 0, .string ⟨#[]⟩, .int .i64 0, .int .i64 0, .int .i64 0, .string ⟨#[]⟩, .int .i64 0, .int .i64 0, .int .i64 0, .string ⟨#[]⟩, .int .i64 0, .int .i64 0, .int .i64 0, .string ⟨#[]⟩, .int .i64 0, .int .i64 0, .int .i64 0, .string ⟨#[]⟩] 35)).heap.size = w.heap.size + 1 by simp)
 replace c0 := (hb.cell (p := ⟨N, 0, none⟩) hl).trans c0
 replace c1 := (hb.cell (p := ⟨N, 1, none⟩) hl).trans c1
 replace c2 := (hb.cell (p := ⟨N, 2, none⟩) hl).trans c2
 replace c3 := (hb.cell (p := ⟨N, 3, none⟩) hl).trans c3
 have HB := hid hb
 have HX := hid hx
 clear hb hx h
 generalize w.alloc (.cells #[.int .i64 0, .int .i64 0, .string ⟨#[]⟩, .int .i64 0, .int .i64 0, .int .i64 0, .string ⟨#[]⟩, .int .i64 0, .int .i64 0, .int .i64 0, .string ⟨#[]⟩, .int .i64 0, .int .i64 0, .int .i64 0, .string ⟨#[]⟩, .int .i64 0, .int .i64 0, .int .i64 0, .string ⟨#[]⟩] 35) = W1 at *
 generalize hbz : w.heap.size = bz at *
 have hN1 : N < W1.heap.size := by have := HZ.out; omega
 refine wp_region_held_drew (S := (fun Y => Y.cell? ⟨N, 0, none⟩ = some (.int .i64 (c : Int)) ∧ Y.cell? ⟨N, 1, none⟩ = some (.int .i64 a) ∧ Y.cell? ⟨N, 2, none⟩ = some (.string ⟨#[]⟩))) (by kernel_rfl) ?_ (fun hHeld => ?_)
 ·exact ⟨c0, c1, c2⟩
 refine wpAnyH_take (i := 0) (oi := _) (v := ?_) rfl (by kernel_rfl) (by kernel_rfl) (by kernel_rfl) (fun _ _ _ h => h) (Or.inl ⟨by rfl, ?_⟩) (by assumption) ?_
 rotate_left
 ·intro w hSw
  try dsimp only at hSw
  go_simp
  try with_reducible rfl
 try simp only [Act.put, List.setIfInBounds_toArray, List.set_cons_zero, List.set_cons_succ]
 refine wpAnyH_take (i := 1) (oi := _) (v := ?_) rfl (by kernel_rfl) (by kernel_rfl) (by kernel_rfl) (fun _ _ _ h => h) (Or.inl ⟨by rfl, ?_⟩) (by assumption) ?_
 rotate_left
 ·intro w hSw
  try dsimp only at hSw
  go_simp
  try with_reducible rfl
 try simp only [Act.put, List.setIfInBounds_toArray, List.set_cons_zero, List.set_cons_succ]
 refine wpAnyH_take (i := 2) (oi := _) (v := ?_) rfl (by kernel_rfl) (by kernel_rfl) (by kernel_rfl) (fun _ _ _ h => h) (Or.inl ⟨by rfl, ?_⟩) (by assumption) ?_
 rotate_left
 ·intro w hSw
  try dsimp only at hSw
  go_simp
  try with_reducible rfl
 try simp only [Act.put, List.setIfInBounds_toArray, List.set_cons_zero, List.set_cons_succ]
 refine wpAnyH_take (i := 3) (oi := _) (v := ?_) rfl (by kernel_rfl) (by kernel_rfl) (by kernel_rfl) (fun _ _ _ h => h) (Or.inl ⟨by rfl, ?_⟩) (by assumption) ?_
 rotate_left
 ·intro w hSw
  try dsimp only at hSw
  go_simp
  try with_reducible rfl
 try simp only [Act.put, List.setIfInBounds_toArray, List.set_cons_zero, List.set_cons_succ]
 refine wpAnyH_take (i := 4) (oi := _) (v := ?_) rfl (by kernel_rfl) (by kernel_rfl) (by kernel_rfl) (fun _ _ _ h => h) (Or.inl ⟨by rfl, ?_⟩) (by assumption) ?_
 rotate_left
 ·intro w hSw
  try dsimp only at hSw
  go_simp
  try with_reducible rfl
 try simp only [Act.put, List.setIfInBounds_toArray, List.set_cons_zero, List.set_cons_succ]
 refine wpAnyH_take (i := 5) (oi := _) (v := ?_) rfl (by kernel_rfl) (by kernel_rfl) (by kernel_rfl) (fun _ _ _ h => h) (Or.inl ⟨by rfl, ?_⟩) (by assumption) ?_
 rotate_left
 ·intro w hSw
  try dsimp only at hSw
  go_simp
  try with_reducible rfl
 try simp only [Act.put, List.setIfInBounds_toArray, List.set_cons_zero, List.set_cons_succ]
 refine wpAnyH_take (i := 6) (oi := _) (v := ?_) rfl (by kernel_rfl) (by kernel_rfl) (by kernel_rfl) (fun _ _ _ h => h) (Or.inl ⟨by rfl, ?_⟩) (by assumption) ?_
 rotate_left
 ·intro w hSw
  try dsimp only at hSw
  go_simp
  try with_reducible rfl
 try simp only [Act.put, List.setIfInBounds_toArray, List.set_cons_zero, List.set_cons_succ]
 refine wpAnyH_take (i := 7) (oi := _) (v := ?_) rfl (by kernel_rfl) (by kernel_rfl) (by kernel_rfl) (fun _ _ _ h => h) (Or.inl ⟨by rfl, ?_⟩) (by assumption) ?_
 rotate_left
 ·intro w hSw
  try dsimp only at hSw
  go_simp
  try with_reducible rfl
 try simp only [Act.put, List.setIfInBounds_toArray, List.set_cons_zero, List.set_cons_succ]
 refine wpAnyH_take (i := 8) (oi := _) (v := ?_) rfl (by kernel_rfl) (by kernel_rfl) (by kernel_rfl) (fun _ _ _ h => h) (Or.inl ⟨by rfl, ?_⟩) (by assumption) ?_
 rotate_left
 ·intro w hSw
  try dsimp only at hSw
  go_simp
  try with_reducible rfl
 try simp only [Act.put, List.setIfInBounds_toArray, List.set_cons_zero, List.set_cons_succ]
 refine wpAnyH_take (i := 9) (oi := _) (v := ?_) rfl (by kernel_rfl) (by kernel_rfl) (by kernel_rfl) (fun _ _ _ h => h) (Or.inl ⟨by rfl, ?_⟩) (by assumption) ?_
 rotate_left
 ·intro w hSw
  try dsimp only at hSw
  go_simp
  try with_reducible rfl
 try simp only [Act.put, List.setIfInBounds_toArray, List.set_cons_zero, List.set_cons_succ]
 refine wpAnyH_take (i := 10) (oi := _) (v := ?_) rfl (by kernel_rfl) (by kernel_rfl) (by kernel_rfl) (fun _ _ _ h => h) (Or.inl ⟨by rfl, ?_⟩) (by assumption) ?_
 rotate_left
 ·intro w hSw
  try dsimp only at hSw
  go_simp
  try with_reducible rfl
 try simp only [Act.put, List.setIfInBounds_toArray, List.set_cons_zero, List.set_cons_succ]
 refine wpAnyH_take (i := 11) (oi := _) (v := ?_) rfl (by kernel_rfl) (by kernel_rfl) (by kernel_rfl) (fun _ _ _ h => h) (Or.inl ⟨by rfl, ?_⟩) (by assumption) ?_
 rotate_left
 ·intro w hSw
  try dsimp only at hSw
  go_simp
  try with_reducible rfl
 try simp only [Act.put, List.setIfInBounds_toArray, List.set_cons_zero, List.set_cons_succ]
 refine wpAnyH_take (i := 12) (oi := _) (v := .agg cs) rfl (by kernel_rfl) (by kernel_rfl) (by kernel_rfl) (fun _ _ _ h => h) (Or.inl ⟨by rfl, ?_⟩) (by assumption) ?_
 ·intro w hSw
  clear hSw
  go_simp
  exact HCS.out.symm
 try simp only [Act.put, List.setIfInBounds_toArray, List.set_cons_zero, List.set_cons_succ]
 refine wpAnyH_ready (rs := [13]) (by kernel_rfl) (by simp) ?_
 refine AllReadyH.cons (o := _) rfl (fun K hK => ?_) AllReadyH.nil
 go_simp
 refine hK.out _ _ ?_ (fun hHeld => ?_)
 ·exact ⟨(World.cell?_alloc_some W1 _ _ (by rw [c0]; rfl)).trans c0, (World.cell?_alloc_some W1 _ _ (by rw [c1]; rfl)).trans c1, (World.cell?_alloc_some W1 _ _ (by rw [c2]; rfl)).trans c2⟩
 clear hK K
 try simp only [Act.put, List.setIfInBounds_toArray, List.set_cons_zero, List.set_cons_succ]
 refine wpAnyH_ready (rs := [14]) (by kernel_rfl) (by simp) ?_
 refine AllReadyH.cons (o := _) rfl (fun K hK => ?_) AllReadyH.nil
 rw [if_pos (by rfl)]
 refine wp_store_row 35 _ _ rfl W1.heap.size cs rfl rfl 35 _ (heap_alloc_new W1 _) (by rw [hz9]; exact info53) (by rw [hz9]; rfl) (by rw [HCS.out]; kernel_rfl) ?_
 refine hK.out _ _ ?_ (fun hHeld => ?_)
 ·exact ⟨((cell_setRow_other _ _ _ _ (Nat.ne_of_lt hN1)).trans (World.cell?_alloc_some W1 _ _ (by rw [c0]; rfl))).trans c0, ((cell_setRow_other _ _ _ _ (Nat.ne_of_lt hN1)).trans (World.cell?_alloc_some W1 _ _ (by rw [c1]; rfl))).trans c1, ((cell_setRow_other _ _ _ _ (Nat.ne_of_lt hN1)).trans (World.cell?_alloc_some W1 _ _ (by rw [c2]; rfl))).trans c2⟩
 clear hK K hHeld
 try simp only [Act.put, List.setIfInBounds_toArray, List.set_cons_zero, List.set_cons_succ]
 refine wpAnyH_done (by kernel_rfl) ?_ _
 generalize hZC : (#[.int .i64 0, .int .i64 0, .string ⟨#[]⟩, .int .i64 0, .int .i64 0, .int .i64 0, .string ⟨#[]⟩, .int .i64 0, .int .i64 0, .int .i64 0, .string ⟨#[]⟩, .int .i64 0, .int .i64 0, .int .i64 0, .string ⟨#[]⟩, .int .i64 0, .int .i64 0, .int .i64 0, .string ⟨#[]⟩] : Array Value) = ZC at *
 have hza : (W1.alloc (.cells ZC 35)).drew.heap.size = W1.heap.size + 1 := by simp
 have hb2 : Below W1.heap.size W1 ((W1.alloc (.cells ZC 35)).drew.setRow W1.heap.size cs) := ⟨rfl, rfl, rfl, by rw [setRow_size, hza]; omega, fun k hk => (setRow_other _ _ _ _ (Nat.ne_of_lt hk)).trans ((belowA W1 _).block k hk)⟩
 have hx2 : ((W1.alloc (.cells ZC 35)).drew.setRow W1.heap.size cs).heap[W1.heap.size]? = some (.cells cs 35 (0, 0)) := setRow_heap _ _ ZC _ _ _ (heap_alloc_new W1 _)
 have hz19 : ZC.size = 19 := by rw [← hZC]; rfl
 have HZC := hid hZC
 clear hZC hza
 replace c3 := (hb2.cell (p := ⟨N, 3, none⟩) hN1).trans c3
 have HB2 := hid hb2
 have HX2 := hid hx2
 clear hb2 hx2 c0 c1 c2
 generalize (W1.alloc (.cells ZC 35)).drew.setRow W1.heap.size cs = W2 at *
 have HX1 := hid (show W2.heap[bz]? = some (.cells ZC 35 (0, 0)) from (HB2.out.block _ (lt_blk HX.out)).trans HX.out)
 have HZ9 := hid hz9
 have HZ19 := hid hz19
 clear hz9 hz19
 generalize W1.heap.size = b1 at *
 go_wp2_with fail
 refine wp_loop_rounds 1 ?_
 rw [rounds_succ]
 go_upto_region 26 with (fail)
 refine wp_region_lit ?_
 refine wpList_load_row rfl 35 _ rfl b1 rfl 35 cs (0, 0) _ HX2.out Tryz.underlying35 rfl (by rw [HZ9.out]; exact info53) ?_
 try simp only [Act.put, List.setIfInBounds_toArray, List.set_cons_zero, List.set_cons_succ]
 refine wpList_store_row rfl 35 _ _ rfl bz cs rfl rfl 35 ZC HX1.out (by rw [HZ9.out]; exact info53) (by rw [HZ9.out, HZ19.out]) (by rw [HCS.out]; kernel_rfl) ?_
 try simp only [Act.put, List.setIfInBounds_toArray, List.set_cons_zero, List.set_cons_succ]
 have hb3 : Below bz w (W2.setRow bz cs) := by
  have h1 := HB.out
  have h2 := HB2.out
  have h3 := HZ.out
  exact ⟨h2.os.trans h1.os, h2.tape.trans h1.tape, h2.output.trans h1.output, by rw [setRow_size]; exact Nat.le_trans h1.size h2.size, fun k hk => ((setRow_other _ _ _ _ (Nat.ne_of_lt hk)).trans (h2.block k (by omega))).trans (h1.block k hk)⟩
 have hx3 := setRow_heap W2 bz ZC cs _ _ HX1.out
 have HX3 := hid hx3
 clear hx3
 have HB3 := hid hb3
 clear hb3 c3
 generalize W2.setRow bz cs = W3 at *
 go_wp2_with fail
 refine ⟨rfl, .agg cs, results_cell_row Tryz.results12 _ W3 bz 35 cs (0, 0) _ rfl HX3.out Tryz.underlying35 rfl (by rw [HZ9.out]; exact info53), ?_, ?_⟩
 ·rw [HCS.out]
 ·rw [hbz]
  exact HB3.out
end Go.Proofs.YtcldglilhhhdoaaGreatDoor.L
namespace Go.Proofs.YtcldglilhhhdoaaGreatDoor.L
open Go.RowKit Go.Shelf
set_option linter.unusedVariables false
set_option linter.unusedSimpArgs false
set_option maxRecDepth 100000 in
theorem eq_causes (w : World) : (Op.equalIn 9999 33 (.agg #[.int .i64 0, .int .i64 0, .int .i64 0, .string ⟨#[]⟩, .int .i64 0, .int .i64 0, .int .i64 0, .string ⟨#[]⟩, .int .i64 0, .int .i64 0, .int .i64 0, .string ⟨#[]⟩, .int .i64 0, .int .i64 0, .int .i64 0, .string ⟨#[]⟩]) (.agg #[.int .i64 0, .int .i64 0, .int .i64 0, .string ⟨#[]⟩, .int .i64 0, .int .i64 0, .int .i64 0, .string ⟨#[]⟩, .int .i64 0, .int .i64 0, .int .i64 0, .string ⟨#[]⟩, .int .i64 0, .int .i64 0, .int .i64 0, .string ⟨#[]⟩])).run Tryz.prog w = .ok true w := by
 kernel_rfl
theorem flds : (Tryz.prog.fieldsOf 35).toList = [{ name := "Code", type := 3, offset := 0, embedded := false, tag := "", pkgPath := "", byteOffset := 0 }, { name := "At", type := 3, offset := 1, embedded := false, tag := "", pkgPath := "", byteOffset := 8 }, { name := "Name", type := 9, offset := 2, embedded := false, tag := "", pkgPath := "", byteOffset := 16 }, { name := "Causes", type := 33, offset := 3, embedded := false, tag := "", pkgPath := "", byteOffset := 32 }] := by
 kernel_rfl
theorem str53 : Tryz.prog.underlying 35 = some (.struct (Tryz.prog.fieldsOf 35)) := by kernel_rfl
theorem held53 : Tryz.prog.stoodInHeld 35 = false := by kernel_rfl
theorem p0 (c a : Int) (w : World) : (part 3 #[.int .i64 c, .int .i64 a, .string ⟨#[]⟩, .int .i64 0, .int .i64 0, .int .i64 0, .string ⟨#[]⟩, .int .i64 0, .int .i64 0, .int .i64 0, .string ⟨#[]⟩, .int .i64 0, .int .i64 0, .int .i64 0, .string ⟨#[]⟩, .int .i64 0, .int .i64 0, .int .i64 0, .string ⟨#[]⟩] 0).run Tryz.prog w = .ok (.int .i64 c) w := by kernel_rfl
theorem p1 (c a : Int) (w : World) : (part 3 #[.int .i64 c, .int .i64 a, .string ⟨#[]⟩, .int .i64 0, .int .i64 0, .int .i64 0, .string ⟨#[]⟩, .int .i64 0, .int .i64 0, .int .i64 0, .string ⟨#[]⟩, .int .i64 0, .int .i64 0, .int .i64 0, .string ⟨#[]⟩, .int .i64 0, .int .i64 0, .int .i64 0, .string ⟨#[]⟩] 1).run Tryz.prog w = .ok (.int .i64 a) w := by kernel_rfl
theorem p2 (c a : Int) (w : World) : (part 9 #[.int .i64 c, .int .i64 a, .string ⟨#[]⟩, .int .i64 0, .int .i64 0, .int .i64 0, .string ⟨#[]⟩, .int .i64 0, .int .i64 0, .int .i64 0, .string ⟨#[]⟩, .int .i64 0, .int .i64 0, .int .i64 0, .string ⟨#[]⟩, .int .i64 0, .int .i64 0, .int .i64 0, .string ⟨#[]⟩] 2).run Tryz.prog w = .ok (.string ⟨#[]⟩) w := by kernel_rfl
theorem p3 (c a : Int) (w : World) : (part 33 #[.int .i64 c, .int .i64 a, .string ⟨#[]⟩, .int .i64 0, .int .i64 0, .int .i64 0, .string ⟨#[]⟩, .int .i64 0, .int .i64 0, .int .i64 0, .string ⟨#[]⟩, .int .i64 0, .int .i64 0, .int .i64 0, .string ⟨#[]⟩, .int .i64 0, .int .i64 0, .int .i64 0, .string ⟨#[]⟩] 3).run Tryz.prog w = .ok (.agg #[.int .i64 0, .int .i64 0, .int .i64 0, .string ⟨#[]⟩, .int .i64 0, .int .i64 0, .int .i64 0, .string ⟨#[]⟩, .int .i64 0, .int .i64 0, .int .i64 0, .string ⟨#[]⟩, .int .i64 0, .int .i64 0, .int .i64 0, .string ⟨#[]⟩]) w := by kernel_rfl
theorem eq53 (c a : Int) (w : World) : (Op.equalIn 10000 35 (.agg #[.int .i64 c, .int .i64 a, .string ⟨#[]⟩, .int .i64 0, .int .i64 0, .int .i64 0, .string ⟨#[]⟩, .int .i64 0, .int .i64 0, .int .i64 0, .string ⟨#[]⟩, .int .i64 0, .int .i64 0, .int .i64 0, .string ⟨#[]⟩, .int .i64 0, .int .i64 0, .int .i64 0, .string ⟨#[]⟩]) (.agg #[.int .i64 c, .int .i64 a, .string ⟨#[]⟩, .int .i64 0, .int .i64 0, .int .i64 0, .string ⟨#[]⟩, .int .i64 0, .int .i64 0, .int .i64 0, .string ⟨#[]⟩, .int .i64 0, .int .i64 0, .int .i64 0, .string ⟨#[]⟩, .int .i64 0, .int .i64 0, .int .i64 0, .string ⟨#[]⟩])).run Tryz.prog w = .ok true w := by
 have e0 := p0 c a
 have e1 := p1 c a
 have e2 := p2 c a
 have e3 := p3 c a
 rw [run_equalIn_struct w 9999 35 _ _ str53 held53, flds]
 generalize (#[.int .i64 c, .int .i64 a, .string ⟨#[]⟩, .int .i64 0, .int .i64 0, .int .i64 0, .string ⟨#[]⟩, .int .i64 0, .int .i64 0, .int .i64 0, .string ⟨#[]⟩, .int .i64 0, .int .i64 0, .int .i64 0, .string ⟨#[]⟩, .int .i64 0, .int .i64 0, .int .i64 0, .string ⟨#[]⟩] : Array Value) = X at *
 have i0 : ∀ (x : Int) (w : World), (Op.equalIn 9999 3 (.int .i64 x) (.int .i64 x)).run Tryz.prog w = .ok true w := fun x w => by
  rw [run_equalIn_int w 9998 3 .i64 .i64 x x (by kernel_rfl)]
  simp
 have i2 : ∀ (w : World), (Op.equalIn 9999 9 (.string ⟨#[]⟩) (.string ⟨#[]⟩)).run Tryz.prog w = .ok true w := fun w => by
  rw [run_equalIn_string w 9998 9 _ _ (by kernel_rfl)]
  simp
 have i3 := eq_causes
 simp [Op.eqFields, Sem.run_bind, e0, e1, e2, e3, i0, i2, i3]
theorem run_eq53 (c a : Int) (w : World) : (binOp .eql 35 (.agg #[.int .i64 c, .int .i64 a, .string ⟨#[]⟩, .int .i64 0, .int .i64 0, .int .i64 0, .string ⟨#[]⟩, .int .i64 0, .int .i64 0, .int .i64 0, .string ⟨#[]⟩, .int .i64 0, .int .i64 0, .int .i64 0, .string ⟨#[]⟩, .int .i64 0, .int .i64 0, .int .i64 0, .string ⟨#[]⟩]) (.agg #[.int .i64 c, .int .i64 a, .string ⟨#[]⟩, .int .i64 0, .int .i64 0, .int .i64 0, .string ⟨#[]⟩, .int .i64 0, .int .i64 0, .int .i64 0, .string ⟨#[]⟩, .int .i64 0, .int .i64 0, .int .i64 0, .string ⟨#[]⟩, .int .i64 0, .int .i64 0, .int .i64 0, .string ⟨#[]⟩])).run Tryz.prog w = .ok (.bool true) w := by
 rw [run_eql_struct, eq53]
 rfl
end Go.Proofs.YtcldglilhhhdoaaGreatDoor.L
namespace Go.Proofs.YtcldglilhhhdoaaGreatDoor.L
open Go.RowKit Go.Shelf
set_option linter.unusedVariables false
set_option linter.unusedSimpArgs false
def wk : ByteArray := ⟨#[33, 110, 111, 100, 101, 91, 34, 122, 34, 93, 32, 61, 61, 32, 34, 97, 34]⟩
def wkT : List Tok := [⟨4, ⟨#[33]⟩, 0, 0, 1⟩, ⟨3, ⟨#[110, 111, 100, 101]⟩, 0, 1, 5⟩, ⟨4, ⟨#[91]⟩, 0, 5, 6⟩, ⟨1, ⟨#[122]⟩, 0, 6, 9⟩, ⟨4, ⟨#[93]⟩, 0, 9, 10⟩, ⟨4, ⟨#[61, 61]⟩, 0, 11, 13⟩, ⟨1, ⟨#[97]⟩, 0, 14, 17⟩, ⟨0, ⟨#[]⟩, 0, 17, 17⟩]
theorem wk_t0 : tokS wk 0 = .ok ⟨4, ⟨#[33]⟩, 0, 0, 1⟩ := by
 unfold tokS
 rw [if_neg (by decide), if_neg (by decide), if_neg (by decide)]
 unfold markS
 rw [if_neg (by decide), if_pos (by decide)]
 rfl
theorem wk_t1 : tokS wk 1 = .ok ⟨3, ⟨#[110, 111, 100, 101]⟩, 0, 1, 5⟩ := by
 have e : behW wk 1 = 5 := (behW_go wk 1 (by decide) (by decide)).trans ((behW_go wk 2 (by decide) (by decide)).trans ((behW_go wk 3 (by decide) (by decide)).trans ((behW_go wk 4 (by decide) (by decide)).trans (behW_no wk 5 (by decide) (by decide)))))
 unfold tokS
 rw [if_neg (by decide), if_neg (by decide), if_pos (by decide), e]
 rfl
theorem wk_t5 : tokS wk 5 = .ok ⟨4, ⟨#[91]⟩, 0, 5, 6⟩ := by
 unfold tokS
 rw [if_neg (by decide), if_neg (by decide), if_neg (by decide)]
 unfold markS
 rw [if_neg (by decide), if_pos (by decide)]
 rfl
theorem wk_t6 : tokS wk 6 = .ok ⟨1, ⟨#[122]⟩, 0, 6, 9⟩ := by
 unfold tokS
 rw [if_pos (by decide), txS_go wk 6 7 [] (by decide) (by decide) (by decide) (by decide)]
 simp only [List.nil_append, List.cons_append]
 rw [txS_q wk 6 _ _ (by decide) (by decide)]
 rfl
theorem wk_t9 : tokS wk 9 = .ok ⟨4, ⟨#[93]⟩, 0, 9, 10⟩ := by
 unfold tokS
 rw [if_neg (by decide), if_neg (by decide), if_neg (by decide)]
 unfold markS
 rw [if_neg (by decide), if_pos (by decide)]
 rfl
theorem wk_t11 : tokS wk 11 = .ok ⟨4, ⟨#[61, 61]⟩, 0, 11, 13⟩ := by
 unfold tokS
 rw [if_neg (by decide), if_neg (by decide), if_neg (by decide)]
 unfold markS
 rw [if_pos (by decide)]
 rfl
theorem wk_t14 : tokS wk 14 = .ok ⟨1, ⟨#[97]⟩, 0, 14, 17⟩ := by
 unfold tokS
 rw [if_pos (by decide), txS_go wk 14 15 [] (by decide) (by decide) (by decide) (by decide)]
 simp only [List.nil_append, List.cons_append]
 rw [txS_q wk 14 _ _ (by decide) (by decide)]
 rfl
theorem wk_scan : scanT wk = (wkT, none) := by
 have hs : scanT wk = scanS wk 0 := if_pos (by decide)
 have g0 : gapS wk 0 = 0 := gapS_no wk 0 (by decide) (by decide) (by decide)
 have s0 := scan_go (s := wk) (k := 0) (by rw [g0]; decide) (by rw [g0]; exact wk_t0)
 have g1 : gapS wk 1 = 1 := gapS_no wk 1 (by decide) (by decide) (by decide)
 have s1 := scan_go (s := wk) (k := 1) (by rw [g1]; decide) (by rw [g1]; exact wk_t1)
 have g5 : gapS wk 5 = 5 := gapS_no wk 5 (by decide) (by decide) (by decide)
 have s5 := scan_go (s := wk) (k := 5) (by rw [g5]; decide) (by rw [g5]; exact wk_t5)
 have g6 : gapS wk 6 = 6 := gapS_no wk 6 (by decide) (by decide) (by decide)
 have s6 := scan_go (s := wk) (k := 6) (by rw [g6]; decide) (by rw [g6]; exact wk_t6)
 have g9 : gapS wk 9 = 9 := gapS_no wk 9 (by decide) (by decide) (by decide)
 have s9 := scan_go (s := wk) (k := 9) (by rw [g9]; decide) (by rw [g9]; exact wk_t9)
 have g10 : gapS wk 10 = 11 := (gapS_blk wk 10 (by decide) (by decide)).trans (gapS_no wk 11 (by decide) (by decide) (by decide))
 have s10 := scan_go (s := wk) (k := 10) (by rw [g10]; decide) (by rw [g10]; exact wk_t11)
 have g13 : gapS wk 13 = 14 := (gapS_blk wk 13 (by decide) (by decide)).trans (gapS_no wk 14 (by decide) (by decide) (by decide))
 have s13 := scan_go (s := wk) (k := 13) (by rw [g13]; decide) (by rw [g13]; exact wk_t14)
 have g17 : gapS wk 17 = 17 := gapS_end wk 17 (by decide)
 have s17 : scanS wk 17 = ([tokE wk.size], none) := scan_fin (by rw [g17]; decide)
 simp only at s0 s1 s5 s6 s9 s10 s13
 rw [hs, s0, s1, s5, s6, s9, s10, s13, s17]
 rfl
def wn : ByteArray := ⟨#[116, 114, 117, 101, 32, 116, 114, 117, 101]⟩
def wnT : List Tok := [⟨3, ⟨#[116, 114, 117, 101]⟩, 0, 0, 4⟩, ⟨3, ⟨#[116, 114, 117, 101]⟩, 0, 5, 9⟩, ⟨0, ⟨#[]⟩, 0, 9, 9⟩]
theorem wn_t0 : tokS wn 0 = .ok ⟨3, ⟨#[116, 114, 117, 101]⟩, 0, 0, 4⟩ := by
 have e : behW wn 0 = 4 := (behW_go wn 0 (by decide) (by decide)).trans ((behW_go wn 1 (by decide) (by decide)).trans ((behW_go wn 2 (by decide) (by decide)).trans ((behW_go wn 3 (by decide) (by decide)).trans (behW_no wn 4 (by decide) (by decide)))))
 unfold tokS
 rw [if_neg (by decide), if_neg (by decide), if_pos (by decide), e]
 rfl
theorem wn_t5 : tokS wn 5 = .ok ⟨3, ⟨#[116, 114, 117, 101]⟩, 0, 5, 9⟩ := by
 have e : behW wn 5 = 9 := (behW_go wn 5 (by decide) (by decide)).trans ((behW_go wn 6 (by decide) (by decide)).trans ((behW_go wn 7 (by decide) (by decide)).trans ((behW_go wn 8 (by decide) (by decide)).trans (behW_end wn 9 (by decide)))))
 unfold tokS
 rw [if_neg (by decide), if_neg (by decide), if_pos (by decide), e]
 rfl
theorem wn_scan : scanT wn = (wnT, none) := by
 have hs : scanT wn = scanS wn 0 := if_pos (by decide)
 have g0 : gapS wn 0 = 0 := gapS_no wn 0 (by decide) (by decide) (by decide)
 have s0 := scan_go (s := wn) (k := 0) (by rw [g0]; decide) (by rw [g0]; exact wn_t0)
 have g4 : gapS wn 4 = 5 := (gapS_blk wn 4 (by decide) (by decide)).trans (gapS_no wn 5 (by decide) (by decide) (by decide))
 have s4 := scan_go (s := wn) (k := 4) (by rw [g4]; decide) (by rw [g4]; exact wn_t5)
 have g9 : gapS wn 9 = 9 := gapS_end wn 9 (by decide)
 have s9 : scanS wn 9 = ([tokE wn.size], none) := scan_fin (by rw [g9]; decide)
 simp only at s0 s4
 rw [hs, s0, s4, s9]
 rfl
set_option maxRecDepth 100000 in
theorem wk_par : wholeP wkT 16392 = .ok ((), ⟨7, 0, [⟨14, ⟨#[122]⟩, 2, []⟩, ⟨11, ⟨#[97]⟩, 0, []⟩, ⟨6, ⟨#[]⟩, 1, [0, 1]⟩, ⟨3, ⟨#[]⟩, 0, [2]⟩], [1, 14, 11, 0]⟩) := by
 simp [wholeP, gr, rowP, rowsP, unitP, negP, withP, atomP, constP, compP, termP, wordP, whoP, elP, bnd, markP, textP, openP, shutP, putP, adv, isM, isEl, rfE, betO, cmpO, tk, ByteArray.toList_eq, wkT]
set_option maxRecDepth 100000 in
theorem wn_par : wholeP wnT 16392 = .error (120, 5) := by
 simp [wholeP, gr, rowP, rowsP, unitP, negP, withP, atomP, constP, compP, termP, wordP, whoP, elP, bnd, markP, textP, openP, shutP, putP, adv, isM, isEl, rfE, betO, cmpO, tk, ByteArray.toList_eq, wnT]
end Go.Proofs.YtcldglilhhhdoaaGreatDoor.L
namespace Go.Proofs.YtcldglilhhhdoaaGreatDoor.L
open Go.RowKit
set_option linter.unusedVariables false
set_option linter.unusedSimpArgs false
set_option maxHeartbeats 4000000 in
set_option maxRecDepth 100000 in
theorem sints_yes (a b : Option Addr) (A : List Int) (ca cb : Nat) (w : World) (ha : RdI w a A) (hb : RdI w b A) (hA : A.length ≤ 140737488355328) :
  Calls Tryz.prog 14 #[.slice a A.length ca, .slice b A.length cb] w fun e w' => e = .returned (.bool true) ∧ Below w.heap.size w w' := by
 obtain ⟨L, hL⟩ : ∃ L, L = A.length := ⟨_, rfl⟩
 rw [← hL] at hA ⊢
 have RA := hid ha
 have RB := hid hb
 have HLA := hid hL
 have hm : L ≤ maxLen := by unfold maxLen; omega
 have e0 : ((L : Int) != (L : Int)) = false := by simp
 clear ha hb hL
 go_enter Tryz.func14, Tryz.ntmps14
 go_wp2
 go_loopw [5] (fun i wr => ∃ k : Nat, k ≤ L ∧ i = .int .i64 k ∧ Hid (∃ m, wr = w.drewN m)) (fun i _ => L - (intOf i).toNat)
 case atStart => exact ⟨0, Nat.zero_le _, rfl, hid ⟨0, rfl⟩⟩
 case round =>
  obtain ⟨k, hk, rfl, HB⟩ := hrel
  by_cases hlt : k < L
  ·obtain ⟨m0, hm0⟩ := HB.out
   have r1 : RdI wr a A := by rw [hm0]; exact RA.out
   have r2 : RdI wr b A := by rw [hm0]; exact RB.out
   have HM := hid hm0
   clear hm0
   rcases r1 with h0 | ⟨b1, o1, rfl, hb1, hc1⟩
   ·have := HLA.out; omega
   rcases r2 with h0 | ⟨b2, o2, rfl, hb2, hc2⟩
   ·have := HLA.out; omega
   have p0 := hc1 k (by rw [← HLA.out]; exact hlt)
   have q0 := hc2 k (by rw [← HLA.out]; exact hlt)
   generalize A.getD k 0 = x at *
   clear hc1 hc2
   have g1 : (k : Int) < (L : Int) := by omega
   have g2 : (0 : Int) ≤ (k : Int) := by omega
   have e1 : (x != x) = false := by simp
   go_wp2_with fail
   go_quiet (fail)
   go_wp2_with fail
   refine ⟨⟨k + 1, by omega, by go_num, hid ⟨m0 + nq, by rw [HM.out, World.drewN_drewN]⟩⟩, by simp [intOf]; omega⟩
  ·have hkl : k = L := by omega
   subst hkl
   go_wp2_with fail
   go_ret
   obtain ⟨m0, hm0⟩ := HB.out
   exact ⟨rfl, by rw [hm0]; exact below_drewN (Below.refl _ w) _⟩
theorem own_rdi {W : World} {B : Nat} {v : Value} {l : List Int} (h : OwnI W B v l) : ∃ a c, v = .slice a l.length c ∧ RdI W a l := by
 rcases h.2 with ⟨e, n0⟩ | ⟨g, cap, cur, e, hb, hg, h3⟩
 ·exact ⟨none, 0, by rw [e, n0], Or.inl n0⟩
 ·refine ⟨_, cap, e, Or.inr ⟨g, 0, rfl, lt_blk hg, fun j hj => ?_⟩⟩
  subst e
  rw [Nat.zero_add, World.ownsRow.cellAt h j (by omega)]
  simp [hj]
end Go.Proofs.YtcldglilhhhdoaaGreatDoor.L
