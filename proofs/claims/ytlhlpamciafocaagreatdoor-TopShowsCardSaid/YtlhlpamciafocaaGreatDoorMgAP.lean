import Derived.Test.YtlhlpamciafocaaGreatDoorMgAO
import Derived.Laws.Tables
import Derived.Deep.WholeRow
import Derived.Laws.Rows
import Derived.Laws.StructEq
namespace Go.Proofs.YtlhlpamciafocaaGreatDoor.L
open Go.RowKit Go.Shelf
set_option linter.unusedVariables false
set_option linter.unusedSimpArgs false
theorem fli4 {W : World} {N c : Nat} {a : Int} (h : Fli W N c a) : W.cell? ⟨N, 0, none⟩ = some (.int .i64 (c : Int)) ∧ W.cell? ⟨N, 1, none⟩ = some (.int .i64 a) ∧ W.cell? ⟨N, 2, none⟩ = some (.string ⟨#[]⟩) ∧ W.cell? ⟨N, 3, none⟩ = some .nilIface :=
  ⟨cell_of_row _ _ 0 _ _ _ h, cell_of_row _ _ 1 _ _ _ h, cell_of_row _ _ 2 _ _ _ h, cell_of_row _ _ 3 _ _ _ h⟩
theorem info53 : (Tryz.prog.info? 45).map (·.size) = some 19 := by kernel_rfl
set_option maxHeartbeats 4000000 in
set_option maxRecDepth 100000 in
theorem read_yes (N c : Nat) (a : Int) (w : World) (h : Fli w N c a) (h0 : c ≠ 0) : Calls Tryz.prog 16 #[fv N] w fun e w' => e = .returned (.agg #[.int .i64 (c : Int), .int .i64 a, .string ⟨#[]⟩, .int .i64 0, .int .i64 0, .int .i64 0, .string ⟨#[]⟩, .int .i64 0, .int .i64 0, .int .i64 0, .string ⟨#[]⟩, .int .i64 0, .int .i64 0, .int .i64 0, .string ⟨#[]⟩, .int .i64 0, .int .i64 0, .int .i64 0, .string ⟨#[]⟩]) ∧ Below w.heap.size w w' := by
  unfold fv
  have ra := run_assert
  obtain ⟨cs, hcs⟩ : ∃ cs : Array Value, cs = #[.int .i64 (c : Int), .int .i64 a, .string ⟨#[]⟩, .int .i64 0, .int .i64 0, .int .i64 0, .string ⟨#[]⟩, .int .i64 0, .int .i64 0, .int .i64 0, .string ⟨#[]⟩, .int .i64 0, .int .i64 0, .int .i64 0, .string ⟨#[]⟩, .int .i64 0, .int .i64 0, .int .i64 0, .string ⟨#[]⟩] := ⟨_, rfl⟩
  have HCS := hid hcs
  have hz9 : cs.size = 19 := by rw [hcs]; rfl
  clear hcs
  obtain ⟨c0, c1, c2, c3⟩ := fli4 h
  have h0' : ((c : Int) == 0) = false := by simpa using h0
  have hl := lt_blk h
  have hne : N ≠ w.heap.size := by omega
  go_enter Tryz.func16, Tryz.ntmps16
  go_upto_region 6 with (fail)
  have hb := belowA w (.cells #[.int .i64 0, .int .i64 0, .string ⟨#[]⟩, .int .i64 0, .int .i64 0, .int .i64 0, .string ⟨#[]⟩, .int .i64 0, .int .i64 0, .int .i64 0, .string ⟨#[]⟩, .int .i64 0, .int .i64 0, .int .i64 0, .string ⟨#[]⟩, .int .i64 0, .int .i64 0, .int .i64 0, .string ⟨#[]⟩] 45)
  have hx := heap_alloc_new w (.cells #[.int .i64 0, .int .i64 0, .string ⟨#[]⟩, .int .i64 0, .int .i64 0, .int .i64 0, .string ⟨#[]⟩, .int .i64 0, .int .i64 0, .int .i64 0, .string ⟨#[]⟩, .int .i64 0, .int .i64 0, .int .i64 0, .string ⟨#[]⟩, .int .i64 0, .int .i64 0, .int .i64 0, .string ⟨#[]⟩] 45)
  have HZ := hid (show (w.alloc (.cells #[.int .i64 0, .int .i64 0, .string ⟨#[]⟩, .int .i64 0, .int .i64 0, .int .i64 0, .string ⟨#[]⟩, .int .i64 0, .int .i64 0, .int .i64 0, .string ⟨#[]⟩, .int .i64 0, .int .i64 0, .int .i64 0, .string ⟨#[]⟩, .int .i64 0, .int .i64 0, .int .i64 0, .string ⟨#[]⟩] 45)).heap.size = w.heap.size + 1 by simp)
  replace c0 := (hb.cell (p := ⟨N, 0, none⟩) hl).trans c0
  replace c1 := (hb.cell (p := ⟨N, 1, none⟩) hl).trans c1
  replace c2 := (hb.cell (p := ⟨N, 2, none⟩) hl).trans c2
  replace c3 := (hb.cell (p := ⟨N, 3, none⟩) hl).trans c3
  have HB := hid hb
  have HX := hid hx
  clear hb hx h
  generalize w.alloc (.cells #[.int .i64 0, .int .i64 0, .string ⟨#[]⟩, .int .i64 0, .int .i64 0, .int .i64 0, .string ⟨#[]⟩, .int .i64 0, .int .i64 0, .int .i64 0, .string ⟨#[]⟩, .int .i64 0, .int .i64 0, .int .i64 0, .string ⟨#[]⟩, .int .i64 0, .int .i64 0, .int .i64 0, .string ⟨#[]⟩] 45) = W1 at *
  generalize hbz : w.heap.size = bz at *
  have hN1 : N < W1.heap.size := by have := HZ.out; omega
  refine wp_region_held_drew (S := (fun Y => Y.cell? ⟨N, 0, none⟩ = some (.int .i64 (c : Int)) ∧ Y.cell? ⟨N, 1, none⟩ = some (.int .i64 a) ∧ Y.cell? ⟨N, 2, none⟩ = some (.string ⟨#[]⟩))) (by kernel_rfl) ?_ (fun hHeld => ?_)
  · exact ⟨c0, c1, c2⟩
  refine wpAnyH_take (i := 0) (oi := _) (v := ?_) rfl (by kernel_rfl) (by kernel_rfl) (by kernel_rfl) (fun _ _ _ h => h) (Or.inl ⟨by rfl, ?_⟩) (by assumption) ?_
  rotate_left
  · intro w hSw
    try dsimp only at hSw
    go_simp
    try with_reducible rfl
  try simp only [Act.put, List.setIfInBounds_toArray, List.set_cons_zero, List.set_cons_succ]
  refine wpAnyH_take (i := 1) (oi := _) (v := ?_) rfl (by kernel_rfl) (by kernel_rfl) (by kernel_rfl) (fun _ _ _ h => h) (Or.inl ⟨by rfl, ?_⟩) (by assumption) ?_
  rotate_left
  · intro w hSw
    try dsimp only at hSw
    go_simp
    try with_reducible rfl
  try simp only [Act.put, List.setIfInBounds_toArray, List.set_cons_zero, List.set_cons_succ]
  refine wpAnyH_take (i := 2) (oi := _) (v := ?_) rfl (by kernel_rfl) (by kernel_rfl) (by kernel_rfl) (fun _ _ _ h => h) (Or.inl ⟨by rfl, ?_⟩) (by assumption) ?_
  rotate_left
  · intro w hSw
    try dsimp only at hSw
    go_simp
    try with_reducible rfl
  try simp only [Act.put, List.setIfInBounds_toArray, List.set_cons_zero, List.set_cons_succ]
  refine wpAnyH_take (i := 3) (oi := _) (v := ?_) rfl (by kernel_rfl) (by kernel_rfl) (by kernel_rfl) (fun _ _ _ h => h) (Or.inl ⟨by rfl, ?_⟩) (by assumption) ?_
  rotate_left
  · intro w hSw
    try dsimp only at hSw
    go_simp
    try with_reducible rfl
  try simp only [Act.put, List.setIfInBounds_toArray, List.set_cons_zero, List.set_cons_succ]
  refine wpAnyH_take (i := 4) (oi := _) (v := ?_) rfl (by kernel_rfl) (by kernel_rfl) (by kernel_rfl) (fun _ _ _ h => h) (Or.inl ⟨by rfl, ?_⟩) (by assumption) ?_
  rotate_left
  · intro w hSw
    try dsimp only at hSw
    go_simp
    try with_reducible rfl
  try simp only [Act.put, List.setIfInBounds_toArray, List.set_cons_zero, List.set_cons_succ]
  refine wpAnyH_take (i := 5) (oi := _) (v := ?_) rfl (by kernel_rfl) (by kernel_rfl) (by kernel_rfl) (fun _ _ _ h => h) (Or.inl ⟨by rfl, ?_⟩) (by assumption) ?_
  rotate_left
  · intro w hSw
    try dsimp only at hSw
    go_simp
    try with_reducible rfl
  try simp only [Act.put, List.setIfInBounds_toArray, List.set_cons_zero, List.set_cons_succ]
  refine wpAnyH_take (i := 6) (oi := _) (v := ?_) rfl (by kernel_rfl) (by kernel_rfl) (by kernel_rfl) (fun _ _ _ h => h) (Or.inl ⟨by rfl, ?_⟩) (by assumption) ?_
  rotate_left
  · intro w hSw
    try dsimp only at hSw
    go_simp
    try with_reducible rfl
  try simp only [Act.put, List.setIfInBounds_toArray, List.set_cons_zero, List.set_cons_succ]
  refine wpAnyH_take (i := 7) (oi := _) (v := ?_) rfl (by kernel_rfl) (by kernel_rfl) (by kernel_rfl) (fun _ _ _ h => h) (Or.inl ⟨by rfl, ?_⟩) (by assumption) ?_
  rotate_left
  · intro w hSw
    try dsimp only at hSw
    go_simp
    try with_reducible rfl
  try simp only [Act.put, List.setIfInBounds_toArray, List.set_cons_zero, List.set_cons_succ]
  refine wpAnyH_take (i := 8) (oi := _) (v := ?_) rfl (by kernel_rfl) (by kernel_rfl) (by kernel_rfl) (fun _ _ _ h => h) (Or.inl ⟨by rfl, ?_⟩) (by assumption) ?_
  rotate_left
  · intro w hSw
    try dsimp only at hSw
    go_simp
    try with_reducible rfl
  try simp only [Act.put, List.setIfInBounds_toArray, List.set_cons_zero, List.set_cons_succ]
  refine wpAnyH_take (i := 9) (oi := _) (v := ?_) rfl (by kernel_rfl) (by kernel_rfl) (by kernel_rfl) (fun _ _ _ h => h) (Or.inl ⟨by rfl, ?_⟩) (by assumption) ?_
  rotate_left
  · intro w hSw
    try dsimp only at hSw
    go_simp
    try with_reducible rfl
  try simp only [Act.put, List.setIfInBounds_toArray, List.set_cons_zero, List.set_cons_succ]
  refine wpAnyH_take (i := 10) (oi := _) (v := ?_) rfl (by kernel_rfl) (by kernel_rfl) (by kernel_rfl) (fun _ _ _ h => h) (Or.inl ⟨by rfl, ?_⟩) (by assumption) ?_
  rotate_left
  · intro w hSw
    try dsimp only at hSw
    go_simp
    try with_reducible rfl
  try simp only [Act.put, List.setIfInBounds_toArray, List.set_cons_zero, List.set_cons_succ]
  refine wpAnyH_take (i := 11) (oi := _) (v := ?_) rfl (by kernel_rfl) (by kernel_rfl) (by kernel_rfl) (fun _ _ _ h => h) (Or.inl ⟨by rfl, ?_⟩) (by assumption) ?_
  rotate_left
  · intro w hSw
    try dsimp only at hSw
    go_simp
    try with_reducible rfl
  try simp only [Act.put, List.setIfInBounds_toArray, List.set_cons_zero, List.set_cons_succ]
  refine wpAnyH_take (i := 12) (oi := _) (v := .agg cs) rfl (by kernel_rfl) (by kernel_rfl) (by kernel_rfl) (fun _ _ _ h => h) (Or.inl ⟨by rfl, ?_⟩) (by assumption) ?_
  · intro w hSw
    clear hSw
    go_simp
    exact HCS.out.symm
  try simp only [Act.put, List.setIfInBounds_toArray, List.set_cons_zero, List.set_cons_succ]
  refine wpAnyH_ready (rs := [13]) (by kernel_rfl) (by simp) ?_
  refine AllReadyH.cons (o := _) rfl (fun K hK => ?_) AllReadyH.nil
  go_simp
  refine hK.out _ _ ?_ (fun hHeld => ?_)
  · exact ⟨(World.cell?_alloc_some W1 _ _ (by rw [c0]; rfl)).trans c0, (World.cell?_alloc_some W1 _ _ (by rw [c1]; rfl)).trans c1, (World.cell?_alloc_some W1 _ _ (by rw [c2]; rfl)).trans c2⟩
  clear hK K
  try simp only [Act.put, List.setIfInBounds_toArray, List.set_cons_zero, List.set_cons_succ]
  refine wpAnyH_ready (rs := [14]) (by kernel_rfl) (by simp) ?_
  refine AllReadyH.cons (o := _) rfl (fun K hK => ?_) AllReadyH.nil
  rw [if_pos (by rfl)]
  refine wp_store_row 45 _ _ rfl W1.heap.size cs rfl rfl 45 _ (heap_alloc_new W1 _) (by rw [hz9]; exact info53) (by rw [hz9]; rfl) (by rw [HCS.out]; kernel_rfl) ?_
  refine hK.out _ _ ?_ (fun hHeld => ?_)
  · exact ⟨((cell_setRow_other _ _ _ _ (Nat.ne_of_lt hN1)).trans (World.cell?_alloc_some W1 _ _ (by rw [c0]; rfl))).trans c0, ((cell_setRow_other _ _ _ _ (Nat.ne_of_lt hN1)).trans (World.cell?_alloc_some W1 _ _ (by rw [c1]; rfl))).trans c1, ((cell_setRow_other _ _ _ _ (Nat.ne_of_lt hN1)).trans (World.cell?_alloc_some W1 _ _ (by rw [c2]; rfl))).trans c2⟩
  clear hK K hHeld
  try simp only [Act.put, List.setIfInBounds_toArray, List.set_cons_zero, List.set_cons_succ]
  refine wpAnyH_done (by kernel_rfl) ?_ _
  generalize hZC : (#[.int .i64 0, .int .i64 0, .string ⟨#[]⟩, .int .i64 0, .int .i64 0, .int .i64 0, .string ⟨#[]⟩, .int .i64 0, .int .i64 0, .int .i64 0, .string ⟨#[]⟩, .int .i64 0, .int .i64 0, .int .i64 0, .string ⟨#[]⟩, .int .i64 0, .int .i64 0, .int .i64 0, .string ⟨#[]⟩] : Array Value) = ZC at *
  have hza : (W1.alloc (.cells ZC 45)).drew.heap.size = W1.heap.size + 1 := by simp
  have hb2 : Below W1.heap.size W1 ((W1.alloc (.cells ZC 45)).drew.setRow W1.heap.size cs) := ⟨rfl, rfl, rfl, by rw [setRow_size, hza]; omega, fun k hk => (setRow_other _ _ _ _ (Nat.ne_of_lt hk)).trans ((belowA W1 _).block k hk)⟩
  have hx2 : ((W1.alloc (.cells ZC 45)).drew.setRow W1.heap.size cs).heap[W1.heap.size]? = some (.cells cs 45 (0, 0)) := setRow_heap _ _ ZC _ _ _ (heap_alloc_new W1 _)
  have hz19 : ZC.size = 19 := by rw [← hZC]; rfl
  have HZC := hid hZC
  clear hZC hza
  replace c3 := (hb2.cell (p := ⟨N, 3, none⟩) hN1).trans c3
  have HB2 := hid hb2
  have HX2 := hid hx2
  clear hb2 hx2 c0 c1 c2
  generalize (W1.alloc (.cells ZC 45)).drew.setRow W1.heap.size cs = W2 at *
  have HX1 := hid (show W2.heap[bz]? = some (.cells ZC 45 (0, 0)) from (HB2.out.block _ (lt_blk HX.out)).trans HX.out)
  have HZ9 := hid hz9
  have HZ19 := hid hz19
  clear hz9 hz19
  generalize W1.heap.size = b1 at *
  go_wp2_with fail
  refine wp_loop_rounds 1 ?_
  rw [rounds_succ]
  go_upto_region 26 with (fail)
  refine wp_region_lit ?_
  refine wpList_load_row rfl 45 _ rfl b1 rfl 45 cs (0, 0) _ HX2.out Tryz.underlying45 rfl (by rw [HZ9.out]; exact info53) ?_
  try simp only [Act.put, List.setIfInBounds_toArray, List.set_cons_zero, List.set_cons_succ]
  refine wpList_store_row rfl 45 _ _ rfl bz cs rfl rfl 45 ZC HX1.out (by rw [HZ9.out]; exact info53) (by rw [HZ9.out, HZ19.out]) (by rw [HCS.out]; kernel_rfl) ?_
  try simp only [Act.put, List.setIfInBounds_toArray, List.set_cons_zero, List.set_cons_succ]
  have hb3 : Below bz w (W2.setRow bz cs) := by
    have h1 := HB.out
    have h2 := HB2.out
    have h3 := HZ.out
    exact ⟨h2.os.trans h1.os, h2.tape.trans h1.tape, h2.output.trans h1.output, by rw [setRow_size]; exact Nat.le_trans h1.size h2.size, fun k hk => ((setRow_other _ _ _ _ (Nat.ne_of_lt hk)).trans (h2.block k (by omega))).trans (h1.block k hk)⟩
  have hx3 := setRow_heap W2 bz ZC cs _ _ HX1.out
  have HX3 := hid hx3
  clear hx3
  have HB3 := hid hb3
  clear hb3 c3
  generalize W2.setRow bz cs = W3 at *
  go_wp2_with fail
  refine ⟨rfl, .agg cs, results_cell_row Tryz.results16 _ W3 bz 45 cs (0, 0) _ rfl HX3.out Tryz.underlying45 rfl (by rw [HZ9.out]; exact info53), ?_, ?_⟩
  · rw [HCS.out]
  · rw [hbz]
    exact HB3.out
end Go.Proofs.YtlhlpamciafocaaGreatDoor.L
namespace Go.Proofs.YtlhlpamciafocaaGreatDoor.L
open Go.RowKit Go.Shelf
set_option linter.unusedVariables false
set_option linter.unusedSimpArgs false
set_option maxRecDepth 100000 in
theorem eq_causes (w : World) : (Op.equalIn 9999 43 (.agg #[.int .i64 0, .int .i64 0, .int .i64 0, .string ⟨#[]⟩, .int .i64 0, .int .i64 0, .int .i64 0, .string ⟨#[]⟩, .int .i64 0, .int .i64 0, .int .i64 0, .string ⟨#[]⟩, .int .i64 0, .int .i64 0, .int .i64 0, .string ⟨#[]⟩]) (.agg #[.int .i64 0, .int .i64 0, .int .i64 0, .string ⟨#[]⟩, .int .i64 0, .int .i64 0, .int .i64 0, .string ⟨#[]⟩, .int .i64 0, .int .i64 0, .int .i64 0, .string ⟨#[]⟩, .int .i64 0, .int .i64 0, .int .i64 0, .string ⟨#[]⟩])).run Tryz.prog w = .ok true w := by
  kernel_rfl
theorem flds : (Tryz.prog.fieldsOf 45).toList = [{ name := "Code", type := 3, offset := 0, embedded := false, tag := "", pkgPath := "", byteOffset := 0 }, { name := "At", type := 3, offset := 1, embedded := false, tag := "", pkgPath := "", byteOffset := 8 }, { name := "Name", type := 9, offset := 2, embedded := false, tag := "", pkgPath := "", byteOffset := 16 }, { name := "Causes", type := 43, offset := 3, embedded := false, tag := "", pkgPath := "", byteOffset := 32 }] := by
  kernel_rfl
theorem str53 : Tryz.prog.underlying 45 = some (.struct (Tryz.prog.fieldsOf 45)) := by kernel_rfl
theorem held53 : Tryz.prog.stoodInHeld 45 = false := by kernel_rfl
theorem guard53 : Tryz.prog.eqGuardType Tryz.prog.depth 45 = false := by kernel_rfl
theorem p0 (c a : Int) (w : World) : (part 3 #[.int .i64 c, .int .i64 a, .string ⟨#[]⟩, .int .i64 0, .int .i64 0, .int .i64 0, .string ⟨#[]⟩, .int .i64 0, .int .i64 0, .int .i64 0, .string ⟨#[]⟩, .int .i64 0, .int .i64 0, .int .i64 0, .string ⟨#[]⟩, .int .i64 0, .int .i64 0, .int .i64 0, .string ⟨#[]⟩] 0).run Tryz.prog w = .ok (.int .i64 c) w := by kernel_rfl
theorem p1 (c a : Int) (w : World) : (part 3 #[.int .i64 c, .int .i64 a, .string ⟨#[]⟩, .int .i64 0, .int .i64 0, .int .i64 0, .string ⟨#[]⟩, .int .i64 0, .int .i64 0, .int .i64 0, .string ⟨#[]⟩, .int .i64 0, .int .i64 0, .int .i64 0, .string ⟨#[]⟩, .int .i64 0, .int .i64 0, .int .i64 0, .string ⟨#[]⟩] 1).run Tryz.prog w = .ok (.int .i64 a) w := by kernel_rfl
theorem p2 (c a : Int) (w : World) : (part 9 #[.int .i64 c, .int .i64 a, .string ⟨#[]⟩, .int .i64 0, .int .i64 0, .int .i64 0, .string ⟨#[]⟩, .int .i64 0, .int .i64 0, .int .i64 0, .string ⟨#[]⟩, .int .i64 0, .int .i64 0, .int .i64 0, .string ⟨#[]⟩, .int .i64 0, .int .i64 0, .int .i64 0, .string ⟨#[]⟩] 2).run Tryz.prog w = .ok (.string ⟨#[]⟩) w := by kernel_rfl
theorem p3 (c a : Int) (w : World) : (part 43 #[.int .i64 c, .int .i64 a, .string ⟨#[]⟩, .int .i64 0, .int .i64 0, .int .i64 0, .string ⟨#[]⟩, .int .i64 0, .int .i64 0, .int .i64 0, .string ⟨#[]⟩, .int .i64 0, .int .i64 0, .int .i64 0, .string ⟨#[]⟩, .int .i64 0, .int .i64 0, .int .i64 0, .string ⟨#[]⟩] 3).run Tryz.prog w = .ok (.agg #[.int .i64 0, .int .i64 0, .int .i64 0, .string ⟨#[]⟩, .int .i64 0, .int .i64 0, .int .i64 0, .string ⟨#[]⟩, .int .i64 0, .int .i64 0, .int .i64 0, .string ⟨#[]⟩, .int .i64 0, .int .i64 0, .int .i64 0, .string ⟨#[]⟩]) w := by kernel_rfl
theorem eq53 (c a : Int) (w : World) : (Op.equalIn 10000 45 (.agg #[.int .i64 c, .int .i64 a, .string ⟨#[]⟩, .int .i64 0, .int .i64 0, .int .i64 0, .string ⟨#[]⟩, .int .i64 0, .int .i64 0, .int .i64 0, .string ⟨#[]⟩, .int .i64 0, .int .i64 0, .int .i64 0, .string ⟨#[]⟩, .int .i64 0, .int .i64 0, .int .i64 0, .string ⟨#[]⟩]) (.agg #[.int .i64 c, .int .i64 a, .string ⟨#[]⟩, .int .i64 0, .int .i64 0, .int .i64 0, .string ⟨#[]⟩, .int .i64 0, .int .i64 0, .int .i64 0, .string ⟨#[]⟩, .int .i64 0, .int .i64 0, .int .i64 0, .string ⟨#[]⟩, .int .i64 0, .int .i64 0, .int .i64 0, .string ⟨#[]⟩])).run Tryz.prog w = .ok true w := by
  have e0 := p0 c a
  have e1 := p1 c a
  have e2 := p2 c a
  have e3 := p3 c a
  rw [run_equalIn_struct w 9999 45 _ _ str53 held53, flds]
  generalize (#[.int .i64 c, .int .i64 a, .string ⟨#[]⟩, .int .i64 0, .int .i64 0, .int .i64 0, .string ⟨#[]⟩, .int .i64 0, .int .i64 0, .int .i64 0, .string ⟨#[]⟩, .int .i64 0, .int .i64 0, .int .i64 0, .string ⟨#[]⟩, .int .i64 0, .int .i64 0, .int .i64 0, .string ⟨#[]⟩] : Array Value) = X at *
  have i0 : ∀ (x : Int) (w : World), (Op.equalIn 9999 3 (.int .i64 x) (.int .i64 x)).run Tryz.prog w = .ok true w := fun x w => by
    rw [run_equalIn_int w 9998 3 .i64 .i64 x x (by kernel_rfl)]
    simp
  have i2 : ∀ (w : World), (Op.equalIn 9999 9 (.string ⟨#[]⟩) (.string ⟨#[]⟩)).run Tryz.prog w = .ok true w := fun w => by
    rw [run_equalIn_string w 9998 9 _ _ (by kernel_rfl)]
    simp
  have i3 := eq_causes
  simp [Op.eqFields, Sem.run_bind, e0, e1, e2, e3, i0, i2, i3]
theorem run_eq53 (c a : Int) (w : World) : (binOp .eql 45 (.agg #[.int .i64 c, .int .i64 a, .string ⟨#[]⟩, .int .i64 0, .int .i64 0, .int .i64 0, .string ⟨#[]⟩, .int .i64 0, .int .i64 0, .int .i64 0, .string ⟨#[]⟩, .int .i64 0, .int .i64 0, .int .i64 0, .string ⟨#[]⟩, .int .i64 0, .int .i64 0, .int .i64 0, .string ⟨#[]⟩]) (.agg #[.int .i64 c, .int .i64 a, .string ⟨#[]⟩, .int .i64 0, .int .i64 0, .int .i64 0, .string ⟨#[]⟩, .int .i64 0, .int .i64 0, .int .i64 0, .string ⟨#[]⟩, .int .i64 0, .int .i64 0, .int .i64 0, .string ⟨#[]⟩, .int .i64 0, .int .i64 0, .int .i64 0, .string ⟨#[]⟩])).run Tryz.prog w = .ok (.bool true) w := by
  rw [run_eql_struct, eq53]
  rfl
end Go.Proofs.YtlhlpamciafocaaGreatDoor.L
namespace Go.Proofs.YtlhlpamciafocaaGreatDoor.L
open Go.RowKit Go.Shelf
set_option linter.unusedVariables false
set_option linter.unusedSimpArgs false
end Go.Proofs.YtlhlpamciafocaaGreatDoor.L
namespace Go.Proofs.YtlhlpamciafocaaGreatDoor.L
open Go.RowKit
set_option linter.unusedVariables false
set_option linter.unusedSimpArgs false
theorem own_rdi {W : World} {B : Nat} {v : Value} {l : List Int} (h : OwnI W B v l) : ∃ a c, v = .slice a l.length c ∧ RdI W a l := by
  rcases h.2 with ⟨e, n0⟩ | ⟨g, cap, cur, e, hb, hg, h3⟩
  · exact ⟨none, 0, by rw [e, n0], Or.inl n0⟩
  · refine ⟨_, cap, e, Or.inr ⟨g, 0, rfl, lt_blk hg, fun j hj => ?_⟩⟩
    subst e
    rw [Nat.zero_add, World.ownsRow.cellAt h j (by omega)]
    simp [hj]
end Go.Proofs.YtlhlpamciafocaaGreatDoor.L
namespace Go.Proofs.YtlhlpamciafocaaGreatDoor.L
open Go.RowKit
set_option linter.unusedVariables false
set_option linter.unusedSimpArgs false
end Go.Proofs.YtlhlpamciafocaaGreatDoor.L
namespace Go.Proofs.YtlhlpamciafocaaGreatDoor.L
open Go.RowKit Go.Shelf
set_option linter.unusedVariables false
end Go.Proofs.YtlhlpamciafocaaGreatDoor.L
namespace Go.Proofs.YtlhlpamciafocaaGreatDoor.L
open Go.RowKit
set_option linter.unusedVariables false
set_option linter.unusedSimpArgs false
/-- Two lists of tokens agree ahead of n. -/
def Ag (T T' : List Tok) (n : Nat) : Prop := ∀ j, j < n → tk T' j = tk T j
theorem Ag.le {T T' : List Tok} {n m : Nat} (h : Ag T T' n) (hm : m ≤ n) : Ag T T' m := fun j hj => h j (by omega)
/-- A fault of the token at i. -/
def Ft (T : List Tok) (i c : Nat) (x : Int) : Prop := x = ((tk T i).a : Int) ∧ ((c = 121 ∧ (tk T i).kind = 0) ∨ ((c = 120 ∨ c = 122 ∨ c = 124) ∧ (tk T i).kind ≠ 0))
/-- What is read hangs on the tokens up to the one that is looked at, or that is refused. -/
def Loc {α : Type} (p : List Tok → PS → PRes α) : Prop := ∀ T s,
  (∀ a s', p T s = .ok (a, s') → s.nx ≤ s'.nx ∧ ∀ T', Ag T T' (s'.nx + 1) → p T' s = .ok (a, s')) ∧
  (∀ c x, p T s = .error (c, x) → ∃ i, s.nx ≤ i ∧ ((c = 0 ∧ x = 0) ∨ Ft T i c x) ∧ ∀ T', Ag T T' (i + 1) → p T' s = .error (c, x))
theorem loc_prim {α : Type} {p : List Tok → PS → PRes α} (h : ∀ T s, (∃ a s', p T s = .ok (a, s') ∧ s.nx ≤ s'.nx ∧ ∀ T', tk T' s.nx = tk T s.nx → p T' s = .ok (a, s')) ∨ (∃ c x, p T s = .error (c, x) ∧ Ft T s.nx c x ∧ ∀ T', tk T' s.nx = tk T s.nx → p T' s = .error (c, x))) : Loc p := by
  intro T s
  rcases h T s with ⟨a, s', e, h1, h2⟩ | ⟨c, x, e, h1, h2⟩
  · refine ⟨fun a' s'' e' => ?_, fun c x e' => ?_⟩
    · rw [e] at e'
      injection e' with e'
      injection e' with e1 e2
      subst e1
      subst e2
      exact ⟨h1, fun T' hT => h2 T' (hT _ (by omega))⟩
    · rw [e] at e'
      cases e'
  · refine ⟨fun a' s'' e' => ?_, fun c' x' e' => ?_⟩
    · rw [e] at e'
      cases e'
    · rw [e] at e'
      injection e' with e'
      injection e' with e1 e2
      subst e1
      subst e2
      exact ⟨s.nx, Nat.le_refl _, Or.inr h1, fun T' hT => h2 T' (hT _ (by omega))⟩
theorem loc_ok {α : Type} (a : α) (f : PS → PS) (hf : ∀ s, s.nx ≤ (f s).nx) : Loc (fun _ s => .ok (a, f s)) :=
  loc_prim fun T s => Or.inl ⟨a, f s, rfl, hf s, fun _ _ => rfl⟩
theorem loc_put (p : Pt) (x : Int) (f : PS → PS) (hf : ∀ s, s.nx ≤ (f s).nx) : Loc (fun _ s => putP (f s) p x) :=
  loc_prim fun T s => Or.inl ⟨_, _, rfl, hf s, fun _ _ => rfl⟩
theorem ft_ref (T : List Tok) (s : PS) : Ft T s.nx (rfE T s).1 (rfE T s).2 := by
  unfold rfE
  refine ⟨rfl, ?_⟩
  by_cases h : (tk T s.nx).kind = 0
  · rw [if_pos h]; exact Or.inl ⟨rfl, h⟩
  · rw [if_neg h]; exact Or.inr ⟨Or.inl rfl, h⟩
theorem ref_eq {T T' : List Tok} {s : PS} (h : tk T' s.nx = tk T s.nx) : rfE T' s = rfE T s := by unfold rfE; rw [h]
theorem isM_eq {T T' : List Tok} {s : PS} {m : List UInt8} (h : tk T' s.nx = tk T s.nx) : isM T' s m = isM T s m := by unfold isM; rw [h]
theorem loc_ref {α : Type} : Loc (fun T s => (.error (rfE T s) : PRes α)) :=
  loc_prim fun T s => Or.inr ⟨(rfE T s).1, (rfE T s).2, rfl, ft_ref T s, fun T' h => by rw [ref_eq h]⟩
theorem loc_mark (m : List UInt8) : Loc (fun T s => markP T s m) := by
  refine loc_prim fun T s => ?_
  cases h : isM T s m
  · refine Or.inr ⟨(rfE T s).1, (rfE T s).2, ?_, ft_ref T s, fun T' h' => ?_⟩
    · unfold markP; rw [h]; rfl
    · unfold markP; rw [isM_eq h', h, ref_eq h']; rfl
  · refine Or.inl ⟨(), adv s, ?_, Nat.le_succ _, fun T' h' => ?_⟩
    · unfold markP; rw [h]; rfl
    · unfold markP; rw [isM_eq h', h]; rfl
theorem loc_text : Loc (fun T s => textP T s) := by
  refine loc_prim fun T s => ?_
  by_cases h : (tk T s.nx).kind = 1
  · refine Or.inl ⟨(tk T s.nx).text, adv s, ?_, Nat.le_succ _, fun T' h' => ?_⟩
    · unfold textP; rw [if_pos h]
    · unfold textP; rw [h', if_pos h]
  · refine Or.inr ⟨(rfE T s).1, (rfE T s).2, ?_, ft_ref T s, fun T' h' => ?_⟩
    · unfold textP; rw [if_neg h]
    · unfold textP; rw [h', if_neg h, ref_eq h']
theorem loc_open (m : List UInt8) : Loc (fun T s => openP T s m) := by
  refine loc_prim fun T s => ?_
  cases h : isM T s m
  · refine Or.inr ⟨(rfE T s).1, (rfE T s).2, ?_, ft_ref T s, fun T' h' => ?_⟩
    · unfold openP; rw [h]; rfl
    · unfold openP; rw [isM_eq h', h, ref_eq h']; rfl
  · by_cases hn : s.ns = 32
    · refine Or.inr ⟨122, ((tk T s.nx).a : Int), ?_, ⟨rfl, Or.inr ⟨Or.inr (Or.inl rfl), isM_kind h⟩⟩, fun T' h' => ?_⟩
      · unfold openP; rw [h, if_pos rfl, if_pos hn]
      · unfold openP; rw [isM_eq h', h, if_pos rfl, if_pos hn, h']
    · refine Or.inl ⟨(), { adv s with ns := s.ns + 1 }, ?_, Nat.le_succ _, fun T' h' => ?_⟩
      · unfold openP; rw [h, if_pos rfl, if_neg hn]
      · unfold openP; rw [isM_eq h', h, if_pos rfl, if_neg hn]
theorem loc_el : Loc (fun T s => elP T s) := by
  refine loc_prim fun T s => ?_
  by_cases h : (tk T s.nx).kind = 1
  · refine Or.inl ⟨_, _, by unfold elP; rw [if_pos h]; rfl, Nat.le_succ _, fun T' h' => ?_⟩
    unfold elP; rw [h', if_pos h]; rfl
  · refine Or.inl ⟨_, _, by unfold elP; rw [if_neg h]; rfl, Nat.le_succ _, fun T' h' => ?_⟩
    unfold elP; rw [h', if_neg h]; rfl
theorem loc_const (k : Int) : Loc (fun T s => constP T s k) :=
  loc_prim fun T s => Or.inl ⟨_, _, rfl, Nat.le_succ _, fun T' h' => by unfold constP; rw [h']; rfl⟩
theorem loc_field : Loc (fun T s => fieldP T s) := by
  refine loc_prim fun T s => ?_
  by_cases h : fieldO (tk T s.nx) = 0
  · refine Or.inr ⟨(rfE T s).1, (rfE T s).2, ?_, ft_ref T s, fun T' h' => ?_⟩
    · unfold fieldP; rw [if_pos h]
    · unfold fieldP; rw [h', if_pos h, ref_eq h']
  · refine Or.inl ⟨_, _, by unfold fieldP; rw [if_neg h], Nat.le_succ _, fun T' h' => ?_⟩
    unfold fieldP; rw [h', if_neg h]
theorem loc_tok {α : Type} {f : Tok → List Tok → PS → PRes α} (h : ∀ t, Loc (f t)) : Loc (fun T s => f (tk T s.nx) T s) := by
  intro T s
  obtain ⟨h1, h2⟩ := h (tk T s.nx) T s
  refine ⟨fun a s' e => ?_, fun c x e => ?_⟩
  · obtain ⟨h3, h4⟩ := h1 a s' e
    refine ⟨h3, fun T' hT => ?_⟩
    show f (tk T' s.nx) T' s = _
    rw [hT s.nx (by omega)]
    exact h4 T' hT
  · obtain ⟨i, h3, h4, h5⟩ := h2 c x e
    refine ⟨i, h3, h4, fun T' hT => ?_⟩
    show f (tk T' s.nx) T' s = _
    rw [hT s.nx (by omega)]
    exact h5 T' hT
theorem loc_bnd {α β : Type} {p : List Tok → PS → PRes α} {f : α → List Tok → PS → PRes β} (hp : Loc p) (hf : ∀ a, Loc (f a)) : Loc (fun T s => bnd (p T s) (fun a s1 => f a T s1)) := by
  intro T s
  obtain ⟨h1, h2⟩ := hp T s
  refine ⟨fun b s' e => ?_, fun c x e => ?_⟩
  · obtain ⟨a, s1, e1, e2⟩ := bnd_inv e
    obtain ⟨h3, h4⟩ := h1 a s1 e1
    obtain ⟨h5, h6⟩ := (hf a T s1).1 b s' e2
    refine ⟨Nat.le_trans h3 h5, fun T' hT => ?_⟩
    show bnd (p T' s) _ = _
    rw [h4 T' (hT.le (by omega)), bnd_ok]
    exact h6 T' hT
  · cases e1 : p T s with
    | error q =>
      obtain ⟨c', x'⟩ := q
      have e' : bnd (p T s) (fun a s1 => f a T s1) = .error (c, x) := e
      rw [e1, bnd_bad] at e'
      injection e' with e'
      injection e' with ea eb
      subst ea
      subst eb
      obtain ⟨i, h3, h4, h5⟩ := h2 _ _ e1
      refine ⟨i, h3, h4, fun T' hT => ?_⟩
      show bnd (p T' s) _ = _
      rw [h5 T' hT, bnd_bad]
    | ok q =>
      obtain ⟨a, s1⟩ := q
      have e' : bnd (p T s) (fun a s1 => f a T s1) = .error (c, x) := e
      rw [e1, bnd_ok] at e'
      obtain ⟨h3, h4⟩ := h1 a s1 e1
      obtain ⟨i, h5, h6, h7⟩ := (hf a T s1).2 c x e'
      refine ⟨i, Nat.le_trans h3 h5, h6, fun T' hT => ?_⟩
      show bnd (p T' s) _ = _
      rw [h4 T' (hT.le (by omega)), bnd_ok]
      exact h7 T' hT
theorem loc_at {α : Type} {p : List Tok → PS → PRes α} (hp : Loc p) : Loc (fun T s => p T (adv s)) := by
  intro T s
  obtain ⟨h1, h2⟩ := hp T (adv s)
  refine ⟨fun a s' e => ?_, fun c x e => ?_⟩
  · obtain ⟨h3, h4⟩ := h1 a s' e
    exact ⟨Nat.le_trans (Nat.le_succ _) h3, h4⟩
  · obtain ⟨i, h3, h4, h5⟩ := h2 c x e
    exact ⟨i, Nat.le_trans (Nat.le_succ _) h3, h4, h5⟩
theorem loc_if {α : Type} {c : Tok → Prop} [DecidablePred c] {p q : List Tok → PS → PRes α} (hp : Loc p) (hq : Loc q) : Loc (fun T s => if c (tk T s.nx) then p T s else q T s) := by
  refine loc_tok (f := fun t T s => if c t then p T s else q T s) fun t => ?_
  by_cases h : c t
  · have e : (fun T s => if c t then p T s else q T s) = p := by funext T s; rw [if_pos h]
    rw [e]; exact hp
  · have e : (fun T s => if c t then p T s else q T s) = q := by funext T s; rw [if_neg h]
    rw [e]; exact hq
theorem loc_isM {α : Type} {m : List UInt8} {p q : List Tok → PS → PRes α} (hp : Loc p) (hq : Loc q) : Loc (fun T s => if isM T s m = true then p T s else q T s) :=
  loc_if (c := fun t => (decide (t.kind = 4) && decide (t.text.toList = m)) = true) hp hq
theorem loc_mem (n : Nat) : Loc (fun T s => memP T s n) := by
  by_cases hn : n = 64
  · refine loc_prim fun T s => ?_
    cases h : isEl (tk T s.nx)
    · refine Or.inr ⟨(rfE T s).1, (rfE T s).2, ?_, ft_ref T s, fun T' h' => ?_⟩
      · unfold memP; rw [h]; rfl
      · unfold memP; rw [h', h, ref_eq h']; rfl
    · refine Or.inr ⟨124, ((tk T s.nx).a : Int), ?_, ⟨rfl, Or.inr ⟨Or.inr (Or.inr rfl), isel_kind h⟩⟩, fun T' h' => ?_⟩
      · unfold memP; rw [h, if_pos rfl, if_pos hn]
      · unfold memP; rw [h', h, if_pos rfl, if_pos hn]
  · have e : (fun T s => memP T s n) = (fun T s => if isEl (tk T s.nx) = true then elP T s else .error (rfE T s)) := by
      funext T s
      unfold memP
      rw [if_neg hn]
    rw [e]
    exact loc_if (c := fun t => isEl t = true) loc_el loc_ref
theorem loc_mems : ∀ (n : Nat) (ks : List Int), Loc (fun T s => memsP T n ks s)
  | 0, ks => loc_ok ks (fun s => s) (fun s => Nat.le_refl _)
  | n + 1, ks => loc_isM (m := [44]) (loc_bnd (loc_at (loc_mem ks.length)) (fun k => loc_mems n (ks ++ [k]))) (loc_ok ks (fun s => s) (fun s => Nat.le_refl _))
theorem loc_set : Loc (fun T s => setP T s) := by
  refine loc_tok (f := fun t T s => bnd (markP T s [123]) fun _ s1 => bnd (if isM T s1 [125] = true then .ok ([], s1) else bnd (memP T s1 0) fun k s2 => .ok ([k], s2)) fun ks s2 => bnd (memsP T 4097 ks s2) fun ks s3 => bnd (markP T s3 [125]) fun _ s4 => putP s4 ⟨13, ⟨#[]⟩, 0, ks⟩ (t.a : Int)) fun t => ?_
  refine loc_bnd (f := fun _ T s1 => bnd (if isM T s1 [125] = true then .ok ([], s1) else bnd (memP T s1 0) fun k s2 => .ok ([k], s2)) fun ks s2 => bnd (memsP T 4097 ks s2) fun ks s3 => bnd (markP T s3 [125]) fun _ s4 => putP s4 ⟨13, ⟨#[]⟩, 0, ks⟩ (t.a : Int)) (loc_mark _) fun _ => ?_
  refine loc_bnd (p := fun T s1 => if isM T s1 [125] = true then .ok ([], s1) else bnd (memP T s1 0) fun k s2 => .ok ([k], s2)) (f := fun ks T s2 => bnd (memsP T 4097 ks s2) fun ks s3 => bnd (markP T s3 [125]) fun _ s4 => putP s4 ⟨13, ⟨#[]⟩, 0, ks⟩ (t.a : Int)) (loc_isM (loc_ok [] (fun s => s) (fun s => Nat.le_refl _)) (loc_bnd (loc_mem 0) fun k => loc_ok [k] (fun s => s) (fun s => Nat.le_refl _))) fun ks => ?_
  refine loc_bnd (f := fun ks T s3 => bnd (markP T s3 [125]) fun _ s4 => putP s4 ⟨13, ⟨#[]⟩, 0, ks⟩ (t.a : Int)) (loc_mems 4097 ks) fun ks => ?_
  exact loc_bnd (loc_mark _) fun _ => loc_put _ _ (fun s => s) (fun s => Nat.le_refl _)
theorem loc_named : Loc (fun T s => namedP T s) :=
  loc_bnd (f := fun _ T s1 => bnd (textP T s1) fun t s2 => bnd (markP T s2 [41]) fun _ s3 => .ok (t, s3)) (loc_mark _) fun _ => loc_bnd (f := fun t T s2 => bnd (markP T s2 [41]) fun _ s3 => .ok (t, s3)) loc_text fun t => loc_bnd (loc_mark _) fun _ => loc_ok t (fun s => s) (fun s => Nat.le_refl _)
theorem loc_tol : Loc (fun T s => tolP T s) :=
  loc_tok (f := fun t T s => bnd (namedP T (adv s)) fun x s1 => putP s1 ⟨10, x, 0, []⟩ (t.a : Int)) fun t => loc_bnd (loc_at loc_named) fun x => loc_put _ _ (fun s => s) (fun s => Nat.le_refl _)
theorem loc_who (side : Int) : Loc (fun T s => whoP T s side) := by
  refine loc_tok (f := fun t T s => if isM T (adv s) [91] = true then bnd (textP T (adv (adv s))) fun x s1 => bnd (markP T s1 [93]) fun _ s2 => putP s2 ⟨14, x, side, []⟩ (t.a : Int) else bnd (markP T (adv s) [46]) fun _ s1 => bnd (fieldP T s1) fun k s2 => if k = 18 then bnd (namedP T s2) fun x s3 => putP s3 ⟨18, x, side, []⟩ (t.a : Int) else putP s2 ⟨k, ⟨#[]⟩, side, []⟩ (t.a : Int)) fun t => ?_
  refine loc_at (p := fun T s => if isM T s [91] = true then bnd (textP T (adv s)) fun x s1 => bnd (markP T s1 [93]) fun _ s2 => putP s2 ⟨14, x, side, []⟩ (t.a : Int) else bnd (markP T s [46]) fun _ s1 => bnd (fieldP T s1) fun k s2 => if k = 18 then bnd (namedP T s2) fun x s3 => putP s3 ⟨18, x, side, []⟩ (t.a : Int) else putP s2 ⟨k, ⟨#[]⟩, side, []⟩ (t.a : Int)) ?_
  refine loc_isM ?_ ?_
  · exact loc_bnd (f := fun x T s1 => bnd (markP T s1 [93]) fun _ s2 => putP s2 ⟨14, x, side, []⟩ (t.a : Int)) (loc_at loc_text) fun x => loc_bnd (loc_mark _) fun _ => loc_put _ _ (fun s => s) (fun s => Nat.le_refl _)
  · refine loc_bnd (f := fun _ T s1 => bnd (fieldP T s1) fun k s2 => if k = 18 then bnd (namedP T s2) fun x s3 => putP s3 ⟨18, x, side, []⟩ (t.a : Int) else putP s2 ⟨k, ⟨#[]⟩, side, []⟩ (t.a : Int)) (loc_mark _) fun _ => ?_
    refine loc_bnd (f := fun k T s2 => if k = 18 then bnd (namedP T s2) fun x s3 => putP s3 ⟨18, x, side, []⟩ (t.a : Int) else putP s2 ⟨k, ⟨#[]⟩, side, []⟩ (t.a : Int)) loc_field fun k => ?_
    by_cases h : k = 18
    · have e : (fun (T : List Tok) (s2 : PS) => if k = 18 then bnd (namedP T s2) fun x s3 => putP s3 ⟨18, x, side, []⟩ (t.a : Int) else putP s2 ⟨k, ⟨#[]⟩, side, []⟩ (t.a : Int)) = (fun T s2 => bnd (namedP T s2) fun x s3 => putP s3 ⟨18, x, side, []⟩ (t.a : Int)) := by funext T s2; rw [if_pos h]
      rw [e]
      exact loc_bnd loc_named fun x => loc_put _ _ (fun s => s) (fun s => Nat.le_refl _)
    · have e : (fun (T : List Tok) (s2 : PS) => if k = 18 then bnd (namedP T s2) fun x s3 => putP s3 ⟨18, x, side, []⟩ (t.a : Int) else putP s2 ⟨k, ⟨#[]⟩, side, []⟩ (t.a : Int)) = (fun T s2 => putP s2 ⟨k, ⟨#[]⟩, side, []⟩ (t.a : Int)) := by funext T s2; rw [if_neg h]
      rw [e]
      exact loc_put _ _ (fun s => s) (fun s => Nat.le_refl _)
section
variable {one : List Tok → PS → PRes Int}
theorem loc_rows (h : Loc one) (m : List UInt8) : ∀ (n : Nat) (ks : List Int), Loc (fun T s => rowsP T (one T) m n ks s)
  | 0, ks => loc_ok ks (fun s => s) (fun s => Nat.le_refl _)
  | n + 1, ks => loc_isM (m := m) (loc_bnd (f := fun k T s1 => rowsP T (one T) m n (ks ++ [k]) s1) (loc_at h) (fun k => loc_rows h m n (ks ++ [k]))) (loc_ok ks (fun s => s) (fun s => Nat.le_refl _))
theorem loc_row (h : Loc one) (kd : Int) (m : List UInt8) : Loc (fun T s => rowP T (one T) kd m s) := by
  refine loc_bnd (f := fun k0 T s1 => bnd (rowsP T (one T) m 4097 [k0] s1) fun ks s2 => if ks.length = 1 then .ok (k0, s2) else putP s2 ⟨kd, ⟨#[]⟩, 0, ks⟩ ((tk T s1.nx).a : Int)) h fun k0 => ?_
  refine loc_tok (f := fun t T s1 => bnd (rowsP T (one T) m 4097 [k0] s1) fun ks s2 => if ks.length = 1 then .ok (k0, s2) else putP s2 ⟨kd, ⟨#[]⟩, 0, ks⟩ (t.a : Int)) fun t => ?_
  refine loc_bnd (f := fun ks T s2 => if ks.length = 1 then .ok (k0, s2) else putP s2 ⟨kd, ⟨#[]⟩, 0, ks⟩ (t.a : Int)) (loc_rows h m 4097 [k0]) fun ks => ?_
  by_cases hl : ks.length = 1
  · have e : (fun (T : List Tok) (s2 : PS) => if ks.length = 1 then (.ok (k0, s2) : PRes Int) else putP s2 ⟨kd, ⟨#[]⟩, 0, ks⟩ (t.a : Int)) = fun _ s2 => .ok (k0, s2) := by funext T s2; rw [if_pos hl]
    rw [e]; exact loc_ok k0 (fun s => s) (fun s => Nat.le_refl _)
  · have e : (fun (T : List Tok) (s2 : PS) => if ks.length = 1 then (.ok (k0, s2) : PRes Int) else putP s2 ⟨kd, ⟨#[]⟩, 0, ks⟩ (t.a : Int)) = fun _ s2 => putP s2 ⟨kd, ⟨#[]⟩, 0, ks⟩ (t.a : Int) := by funext T s2; rw [if_neg hl]
    rw [e]; exact loc_put _ _ (fun s => s) (fun s => Nat.le_refl _)
theorem loc_with {α : Type} {inner : List Tok → PS → PRes α} (h : Loc inner) : Loc (fun T s => withP T (inner T) s) :=
  loc_bnd (f := fun _ T s1 => bnd (inner T s1) fun k s2 => bnd (markP T s2 [41]) fun _ s3 => .ok (k, shutP s3)) (loc_open _) fun _ => loc_bnd (f := fun k T s2 => bnd (markP T s2 [41]) fun _ s3 => .ok (k, shutP s3)) h fun k => loc_bnd (loc_mark _) fun _ => loc_ok k shutP (fun s => Nat.le_refl _)
theorem loc_sel (h : Loc one) (kd : Int) : Loc (fun T s => selP T (one T) kd s) := by
  refine loc_tok (f := fun t T s => bnd (withP T (fun s1 => bnd (textP T s1) fun x s2 => bnd (markP T s2 [44]) fun _ s3 => bnd (one T s3) fun k s4 => .ok ((x, k), s4)) (adv s)) fun tk2 s5 => putP s5 ⟨kd, tk2.1, 0, [tk2.2]⟩ (t.a : Int)) fun t => ?_
  refine loc_bnd (p := fun T s => withP T (fun s1 => bnd (textP T s1) fun x s2 => bnd (markP T s2 [44]) fun _ s3 => bnd (one T s3) fun k s4 => .ok ((x, k), s4)) (adv s)) (loc_at (loc_with (inner := fun T s1 => bnd (textP T s1) fun x s2 => bnd (markP T s2 [44]) fun _ s3 => bnd (one T s3) fun k s4 => .ok ((x, k), s4)) ?_)) fun q => loc_put _ _ (fun s => s) (fun s => Nat.le_refl _)
  exact loc_bnd (f := fun x T s2 => bnd (markP T s2 [44]) fun _ s3 => bnd (one T s3) fun k s4 => .ok ((x, k), s4)) loc_text fun x => loc_bnd (f := fun _ T s3 => bnd (one T s3) fun k s4 => .ok ((x, k), s4)) (loc_mark _) fun _ => loc_bnd h fun k => loc_ok (x, k) (fun s => s) (fun s => Nat.le_refl _)
theorem loc_neg (h : Loc one) : Loc (fun T s => negP T (one T) s) :=
  loc_tok (f := fun t T s => bnd (openP T s [33]) fun _ s1 => bnd (one T s1) fun k s2 => putP (shutP s2) ⟨3, ⟨#[]⟩, 0, [k]⟩ (t.a : Int)) fun t => loc_bnd (f := fun _ T s1 => bnd (one T s1) fun k s2 => putP (shutP s2) ⟨3, ⟨#[]⟩, 0, [k]⟩ (t.a : Int)) (loc_open _) fun _ => loc_bnd h fun k => loc_put _ _ shutP (fun s => Nat.le_refl _)
theorem loc_comp (h : Loc one) : Loc (fun T s => compP T (one T) s) := by
  refine loc_bnd (f := fun l T s1 => match betO (tk T s1.nx) with | none => .error (rfE T s1) | some (kd, nu) => bnd (one T (adv s1)) fun r s2 => putP s2 ⟨kd, ⟨#[]⟩, nu, [l, r]⟩ ((tk T s1.nx).a : Int)) h fun l => ?_
  refine loc_tok (f := fun t T s1 => match betO t with | none => .error (rfE T s1) | some (kd, nu) => bnd (one T (adv s1)) fun r s2 => putP s2 ⟨kd, ⟨#[]⟩, nu, [l, r]⟩ (t.a : Int)) fun t => ?_
  cases betO t with
  | none => exact loc_ref
  | some q => exact loc_bnd (loc_at h) fun r => loc_put _ _ (fun s => s) (fun s => Nat.le_refl _)
end
theorem loc_atom {ex te : List Tok → PS → PRes Int} (h1 : Loc ex) (h2 : Loc te) : Loc (fun T s => atomP T (ex T) (te T) s) :=
  loc_if (c := fun t => t.kind = 3) (loc_if (c := fun t => t.text.toList = [116, 114, 117, 101]) (loc_const 1) (loc_if (c := fun t => t.text.toList = [102, 97, 108, 115, 101]) (loc_const 2) (loc_if (c := fun t => t.text.toList = [110, 101, 97, 114]) (loc_sel h1 8) (loc_if (c := fun t => t.text.toList = [97, 112, 97, 114, 116]) (loc_sel h1 9) (loc_if (c := fun t => t.text.toList = [116, 111, 108, 101, 114, 97, 116, 101, 100]) loc_tol (loc_comp h2)))))) (loc_comp h2)
theorem loc_word {ex te : List Tok → PS → PRes Int} (h1 : Loc ex) (h2 : Loc te) : Loc (fun T s => wordP T (ex T) (te T) s) :=
  loc_if (c := fun t => t.text.toList = [110, 111, 100, 101]) (loc_who 2) (loc_if (c := fun t => t.text.toList = [112, 111, 100]) (loc_who 1) (loc_if (c := fun t => t.text.toList = [105, 116]) (loc_who 3) (loc_if (c := fun t => t.text.toList = [105, 110, 116])
    (loc_tok (f := fun t T s => bnd (withP T (te T) (adv s)) fun k s1 => putP s1 ⟨19, ⟨#[]⟩, 0, [k]⟩ (t.a : Int)) fun t => loc_bnd (p := fun T s => withP T (te T) (adv s)) (loc_at (p := fun T s => withP T (te T) s) (loc_with h2)) fun k => loc_put _ _ (fun s => s) (fun s => Nat.le_refl _))
    (loc_if (c := fun t => t.text.toList = [99, 111, 117, 110, 116]) (loc_sel h1 20) loc_ref))))
theorem loc_unit {ex un te : List Tok → PS → PRes Int} (h1 : Loc ex) (h2 : Loc un) (h3 : Loc te) : Loc (fun T s => unitP T (ex T) (un T) (te T) s) :=
  loc_isM (loc_neg h2) (loc_isM (loc_with h1) (loc_atom h1 h3))
theorem loc_term {ex te : List Tok → PS → PRes Int} (h1 : Loc ex) (h2 : Loc te) : Loc (fun T s => termP T (ex T) (te T) s) :=
  loc_if (c := fun t => isEl t = true) loc_el (loc_isM loc_set (loc_if (c := fun t => t.kind = 3) (loc_word h1 h2) loc_ref))
theorem loc_gr : ∀ (n : Nat) (g : Gr), Loc (fun T s => gr T n g s)
  | 0, g => fun T s => ⟨fun a s' e => (by simp only [gr] at e; cases e), fun c x e => ⟨s.nx, Nat.le_refl _, Or.inl (by simp only [gr] at e; injection e with e; injection e with e1 e2; exact ⟨e1.symm, e2.symm⟩), fun T' _ => (by simp only [gr] at e ⊢; exact e)⟩⟩
  | n + 1, .expr => loc_row (one := fun T => gr T n .conj) (loc_gr n .conj) 5 [124, 124]
  | n + 1, .conj => loc_row (one := fun T => gr T n .unit) (loc_gr n .unit) 4 [38, 38]
  | n + 1, .unit => loc_unit (ex := fun T => gr T n .expr) (un := fun T => gr T n .unit) (te := fun T => gr T n .term) (loc_gr n .expr) (loc_gr n .unit) (loc_gr n .term)
  | n + 1, .term => loc_term (ex := fun T => gr T n .expr) (te := fun T => gr T n .term) (loc_gr n .expr) (loc_gr n .term)
end Go.Proofs.YtlhlpamciafocaaGreatDoor.L
