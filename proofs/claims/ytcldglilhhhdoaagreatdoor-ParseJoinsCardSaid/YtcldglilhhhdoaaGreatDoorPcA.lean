import Derived.Test.YtcldglilhhhdoaaGreatDoorPbN
import Derived.Laws.Tables
import Derived.Deep.WholeRow
import Derived.Laws.Rows
namespace Go.Proofs.YtcldglilhhhdoaaGreatDoor.L
open Go.RowKit Go.Shelf
set_option linter.unusedVariables false
set_option linter.unusedSimpArgs false
theorem fli4 {W : World} {N c : Nat} {a : Int} (h : Fli W N c a) : W.cell? ⟨N, 0, none⟩ = some (.int .i64 (c : Int)) ∧ W.cell? ⟨N, 1, none⟩ = some (.int .i64 a) ∧ W.cell? ⟨N, 2, none⟩ = some (.string ⟨#[]⟩) ∧ W.cell? ⟨N, 3, none⟩ = some .nilIface :=
  ⟨cell_of_row _ _ 0 _ _ _ h, cell_of_row _ _ 1 _ _ _ h, cell_of_row _ _ 2 _ _ _ h, cell_of_row _ _ 3 _ _ _ h⟩
theorem info53 : (Tryz.prog.info? 35).map (·.size) = some 19 := by kernel_rfl
set_option maxHeartbeats 4000000 in
set_option maxRecDepth 100000 in
theorem read_yes (N c : Nat) (a : Int) (w : World) (h : Fli w N c a) (h0 : c ≠ 0) : Calls Tryz.prog 12 #[fv N] w fun e w' => e = .returned (.agg #[.int .i64 (c : Int), .int .i64 a, .string ⟨#[]⟩, .int .i64 0, .int .i64 0, .int .i64 0, .string ⟨#[]⟩, .int .i64 0, .int .i64 0, .int .i64 0, .string ⟨#[]⟩, .int .i64 0, .int .i64 0, .int .i64 0, .string ⟨#[]⟩, .int .i64 0, .int .i64 0, .int .i64 0, .string ⟨#[]⟩]) ∧ Below w.heap.size w w' := by
  unfold fv
  have ra := run_assert
  obtain ⟨cs, hcs⟩ : ∃ cs : Array Value, cs = #[.int .i64 (c : Int), .int .i64 a, .string ⟨#[]⟩, .int .i64 0, .int .i64 0, .int .i64 0, .string ⟨#[]⟩, .int .i64 0, .int .i64 0, .int .i64 0, .string ⟨#[]⟩, .int .i64 0, .int .i64 0, .int .i64 0, .string ⟨#[]⟩, .int .i64 0, .int .i64 0, .int .i64 0, .string ⟨#[]⟩] := ⟨_, rfl⟩
  have HCS := hid hcs
  have hz9 : cs.size = 19 := by rw [hcs]; rfl
  clear hcs
  obtain ⟨c0, c1, c2, c3⟩ := fli4 h
  have h0' : ((c : Int) == 0) = false := by simpa using h0
  have hl := lt_blk h
  have hne : N ≠ w.heap.size := by omega
  go_enter Tryz.func12, Tryz.ntmps12
  go_upto_region 6 with (fail)
  have hb := belowA w (.cells #[.int .i64 0, .int .i64 0, .string ⟨#[]⟩, .int .i64 0, .int .i64 0, .int .i64 0, .string ⟨#[]⟩, .int .i64 0, .int .i64 0, .int .i64 0, .string ⟨#[]⟩, .int .i64 0, .int .i64 0, .int .i64 0, .string ⟨#[]⟩, .int .i64 0, .int .i64 0, .int .i64 0, .string ⟨#[]⟩] 35)
  have hx := heap_alloc_new w (.cells #[.int .i64 0, .int .i64 0, .string ⟨#[]⟩, .int .i64 0, .int .i64 0, .int .i64 0, .string ⟨#[]⟩, .int .i64 0, .int .i64 0, .int .i64 0, .string ⟨#[]⟩, .int .i64 0, .int .i64 0, .int .i64 0, .string ⟨#[]⟩, .int .i64 0, .int .i64 0, .int .i64 0, .string ⟨#[]⟩] 35)
  have HZ := hid (show (w.alloc (.cells #[.int .i64 0, .int .i64 0, .string ⟨#[]⟩, .int .i64 0, .int .i64 0, .int .i64 0, .string ⟨#[]⟩, .int .i64 0, .int .i64 0, .int .i64 0, .string ⟨#[]⟩, .int .i64 0, .int .i64 0, .int .i64 0, .string ⟨#[]⟩, .int .i64 0, .int .i64 0, .int .i64 0, .string ⟨#[]⟩] 35)).heap.size = w.heap.size + 1 by simp)
  replace c0 := (hb.cell (p := ⟨N, 0, none⟩) hl).trans c0
  replace c1 := (hb.cell (p := ⟨N, 1, none⟩) hl).trans c1
  replace c2 := (hb.cell (p := ⟨N, 2, none⟩) hl).trans c2
  replace c3 := (hb.cell (p := ⟨N, 3, none⟩) hl).trans c3
  have HB := hid hb
  have HX := hid hx
  clear hb hx h
  generalize w.alloc (.cells #[.int .i64 0, .int .i64 0, .string ⟨#[]⟩, .int .i64 0, .int .i64 0, .int .i64 0, .string ⟨#[]⟩, .int .i64 0, .int .i64 0, .int .i64 0, .string ⟨#[]⟩, .int .i64 0, .int .i64 0, .int .i64 0, .string ⟨#[]⟩, .int .i64 0, .int .i64 0, .int .i64 0, .string ⟨#[]⟩] 35) = W1 at *
  generalize hbz : w.heap.size = bz at *
  have hN1 : N < W1.heap.size := by have := HZ.out; omega
  refine wp_region_held_drew (S := (fun Y => Y.cell? ⟨N, 0, none⟩ = some (.int .i64 (c : Int)) ∧ Y.cell? ⟨N, 1, none⟩ = some (.int .i64 a) ∧ Y.cell? ⟨N, 2, none⟩ = some (.string ⟨#[]⟩))) (by kernel_rfl) ?_ (fun hHeld => ?_)
  · exact ⟨c0, c1, c2⟩
  refine wpAnyH_take (i := 0) (oi := _) (v := ?_) rfl (by kernel_rfl) (by kernel_rfl) (by kernel_rfl) (fun _ _ _ h => h) (Or.inl ⟨by rfl, ?_⟩) (by assumption) ?_
  rotate_left
  · intro w hSw
    try dsimp only at hSw
    go_simp
    try with_reducible rfl
  try simp only [Act.put, List.setIfInBounds_toArray, List.set_cons_zero, List.set_cons_succ]
  refine wpAnyH_take (i := 1) (oi := _) (v := ?_) rfl (by kernel_rfl) (by kernel_rfl) (by kernel_rfl) (fun _ _ _ h => h) (Or.inl ⟨by rfl, ?_⟩) (by assumption) ?_
  rotate_left
  · intro w hSw
    try dsimp only at hSw
    go_simp
    try with_reducible rfl
  try simp only [Act.put, List.setIfInBounds_toArray, List.set_cons_zero, List.set_cons_succ]
  refine wpAnyH_take (i := 2) (oi := _) (v := ?_) rfl (by kernel_rfl) (by kernel_rfl) (by kernel_rfl) (fun _ _ _ h => h) (Or.inl ⟨by rfl, ?_⟩) (by assumption) ?_
  rotate_left
  · intro w hSw
    try dsimp only at hSw
    go_simp
    try with_reducible rfl
  try simp only [Act.put, List.setIfInBounds_toArray, List.set_cons_zero, List.set_cons_succ]
  refine wpAnyH_take (i := 3) (oi := _) (v := ?_) rfl (by kernel_rfl) (by kernel_rfl) (by kernel_rfl) (fun _ _ _ h => h) (Or.inl ⟨by rfl, ?_⟩) (by assumption) ?_
  rotate_left
  · intro w hSw
    try dsimp only at hSw
    go_simp
    try with_reducible rfl
  try simp only [Act.put, List.setIfInBounds_toArray, List.set_cons_zero, List.set_cons_succ]
  refine wpAnyH_take (i := 4) (oi := _) (v := ?_) rfl (by kernel_rfl) (by kernel_rfl) (by kernel_rfl) (fun _ _ _ h => h) (Or.inl ⟨by rfl, ?_⟩) (by assumption) ?_
  rotate_left
  · intro w hSw
    try dsimp only at hSw
    go_simp
    try with_reducible rfl
  try simp only [Act.put, List.setIfInBounds_toArray, List.set_cons_zero, List.set_cons_succ]
  refine wpAnyH_take (i := 5) (oi := _) (v := ?_) rfl (by kernel_rfl) (by kernel_rfl) (by kernel_rfl) (fun _ _ _ h => h) (Or.inl ⟨by rfl, ?_⟩) (by assumption) ?_
  rotate_left
  · intro w hSw
    try dsimp only at hSw
    go_simp
    try with_reducible rfl
  try simp only [Act.put, List.setIfInBounds_toArray, List.set_cons_zero, List.set_cons_succ]
  refine wpAnyH_take (i := 6) (oi := _) (v := ?_) rfl (by kernel_rfl) (by kernel_rfl) (by kernel_rfl) (fun _ _ _ h => h) (Or.inl ⟨by rfl, ?_⟩) (by assumption) ?_
  rotate_left
  · intro w hSw
    try dsimp only at hSw
    go_simp
    try with_reducible rfl
  try simp only [Act.put, List.setIfInBounds_toArray, List.set_cons_zero, List.set_cons_succ]
  refine wpAnyH_take (i := 7) (oi := _) (v := ?_) rfl (by kernel_rfl) (by kernel_rfl) (by kernel_rfl) (fun _ _ _ h => h) (Or.inl ⟨by rfl, ?_⟩) (by assumption) ?_
  rotate_left
  · intro w hSw
    try dsimp only at hSw
    go_simp
    try with_reducible rfl
  try simp only [Act.put, List.setIfInBounds_toArray, List.set_cons_zero, List.set_cons_succ]
  refine wpAnyH_take (i := 8) (oi := _) (v := ?_) rfl (by kernel_rfl) (by kernel_rfl) (by kernel_rfl) (fun _ _ _ h => h) (Or.inl ⟨by rfl, ?_⟩) (by assumption) ?_
  rotate_left
  · intro w hSw
    try dsimp only at hSw
    go_simp
    try with_reducible rfl
  try simp only [Act.put, List.setIfInBounds_toArray, List.set_cons_zero, List.set_cons_succ]
  refine wpAnyH_take (i := 9) (oi := _) (v := ?_) rfl (by kernel_rfl) (by kernel_rfl) (by kernel_rfl) (fun _ _ _ h => h) (Or.inl ⟨by rfl, ?_⟩) (by assumption) ?_
  rotate_left
  · intro w hSw
    try dsimp only at hSw
    go_simp
    try with_reducible rfl
  try simp only [Act.put, List.setIfInBounds_toArray, List.set_cons_zero, List.set_cons_succ]
  refine wpAnyH_take (i := 10) (oi := _) (v := ?_) rfl (by kernel_rfl) (by kernel_rfl) (by kernel_rfl) (fun _ _ _ h => h) (Or.inl ⟨by rfl, ?_⟩) (by assumption) ?_
  rotate_left
  · intro w hSw
    try dsimp only at hSw
    go_simp
    try with_reducible rfl
  try simp only [Act.put, List.setIfInBounds_toArray, List.set_cons_zero, List.set_cons_succ]
  refine wpAnyH_take (i := 11) (oi := _) (v := ?_) rfl (by kernel_rfl) (by kernel_rfl) (by kernel_rfl) (fun _ _ _ h => h) (Or.inl ⟨by rfl, ?_⟩) (by assumption) ?_
  rotate_left
  · intro w hSw
    try dsimp only at hSw
    go_simp
    try with_reducible rfl
  try simp only [Act.put, List.setIfInBounds_toArray, List.set_cons_zero, List.set_cons_succ]
  refine wpAnyH_take (i := 12) (oi := _) (v := .agg cs) rfl (by kernel_rfl) (by kernel_rfl) (by kernel_rfl) (fun _ _ _ h => h) (Or.inl ⟨by rfl, ?_⟩) (by assumption) ?_
  · intro w hSw
    clear hSw
    go_simp
    exact HCS.out.symm
  try simp only [Act.put, List.setIfInBounds_toArray, List.set_cons_zero, List.set_cons_succ]
  refine wpAnyH_ready (rs := [13]) (by kernel_rfl) (by simp) ?_
  refine AllReadyH.cons (o := _) rfl (fun K hK => ?_) AllReadyH.nil
  go_simp
  refine hK.out _ _ ?_ (fun hHeld => ?_)
  · exact ⟨(World.cell?_alloc_some W1 _ _ (by rw [c0]; rfl)).trans c0, (World.cell?_alloc_some W1 _ _ (by rw [c1]; rfl)).trans c1, (World.cell?_alloc_some W1 _ _ (by rw [c2]; rfl)).trans c2⟩
  clear hK K
  try simp only [Act.put, List.setIfInBounds_toArray, List.set_cons_zero, List.set_cons_succ]
  refine wpAnyH_ready (rs := [14]) (by kernel_rfl) (by simp) ?_
  refine AllReadyH.cons (o := _) rfl (fun K hK => ?_) AllReadyH.nil
  rw [if_pos (by rfl)]
  refine wp_store_row 35 _ _ rfl W1.heap.size cs rfl rfl 35 _ (heap_alloc_new W1 _) (by rw [hz9]; exact info53) (by rw [hz9]; rfl) (by rw [HCS.out]; kernel_rfl) ?_
  refine hK.out _ _ ?_ (fun hHeld => ?_)
  · exact ⟨((cell_setRow_other _ _ _ _ (Nat.ne_of_lt hN1)).trans (World.cell?_alloc_some W1 _ _ (by rw [c0]; rfl))).trans c0, ((cell_setRow_other _ _ _ _ (Nat.ne_of_lt hN1)).trans (World.cell?_alloc_some W1 _ _ (by rw [c1]; rfl))).trans c1, ((cell_setRow_other _ _ _ _ (Nat.ne_of_lt hN1)).trans (World.cell?_alloc_some W1 _ _ (by rw [c2]; rfl))).trans c2⟩
  clear hK K hHeld
  try simp only [Act.put, List.setIfInBounds_toArray, List.set_cons_zero, List.set_cons_succ]
  refine wpAnyH_done (by kernel_rfl) ?_ _
  generalize hZC : (#[.int .i64 0, .int .i64 0, .string ⟨#[]⟩, .int .i64 0, .int .i64 0, .int .i64 0, .string ⟨#[]⟩, .int .i64 0, .int .i64 0, .int .i64 0, .string ⟨#[]⟩, .int .i64 0, .int .i64 0, .int .i64 0, .string ⟨#[]⟩, .int .i64 0, .int .i64 0, .int .i64 0, .string ⟨#[]⟩] : Array Value) = ZC at *
  have hza : (W1.alloc (.cells ZC 35)).drew.heap.size = W1.heap.size + 1 := by simp
  have hb2 : Below W1.heap.size W1 ((W1.alloc (.cells ZC 35)).drew.setRow W1.heap.size cs) := ⟨rfl, rfl, rfl, by rw [setRow_size, hza]; omega, fun k hk => (setRow_other _ _ _ _ (Nat.ne_of_lt hk)).trans ((belowA W1 _).block k hk)⟩
  have hx2 : ((W1.alloc (.cells ZC 35)).drew.setRow W1.heap.size cs).heap[W1.heap.size]? = some (.cells cs 35 (0, 0)) := setRow_heap _ _ ZC _ _ _ (heap_alloc_new W1 _)
  have hz19 : ZC.size = 19 := by rw [← hZC]; rfl
  have HZC := hid hZC
  clear hZC hza
  replace c3 := (hb2.cell (p := ⟨N, 3, none⟩) hN1).trans c3
  have HB2 := hid hb2
  have HX2 := hid hx2
  clear hb2 hx2 c0 c1 c2
  generalize (W1.alloc (.cells ZC 35)).drew.setRow W1.heap.size cs = W2 at *
  have HX1 := hid (show W2.heap[bz]? = some (.cells ZC 35 (0, 0)) from (HB2.out.block _ (lt_blk HX.out)).trans HX.out)
  have HZ9 := hid hz9
  have HZ19 := hid hz19
  clear hz9 hz19
  generalize W1.heap.size = b1 at *
  go_wp2_with fail
  refine wp_loop_rounds 1 ?_
  rw [rounds_succ]
  go_upto_region 26 with (fail)
  refine wp_region_lit ?_
  refine wpList_load_row rfl 35 _ rfl b1 rfl 35 cs (0, 0) _ HX2.out Tryz.underlying35 rfl (by rw [HZ9.out]; exact info53) ?_
  try simp only [Act.put, List.setIfInBounds_toArray, List.set_cons_zero, List.set_cons_succ]
  refine wpList_store_row rfl 35 _ _ rfl bz cs rfl rfl 35 ZC HX1.out (by rw [HZ9.out]; exact info53) (by rw [HZ9.out, HZ19.out]) (by rw [HCS.out]; kernel_rfl) ?_
  try simp only [Act.put, List.setIfInBounds_toArray, List.set_cons_zero, List.set_cons_succ]
  have hb3 : Below bz w (W2.setRow bz cs) := by
    have h1 := HB.out
    have h2 := HB2.out
    have h3 := HZ.out
    exact ⟨h2.os.trans h1.os, h2.tape.trans h1.tape, h2.output.trans h1.output, by rw [setRow_size]; exact Nat.le_trans h1.size h2.size, fun k hk => ((setRow_other _ _ _ _ (Nat.ne_of_lt hk)).trans (h2.block k (by omega))).trans (h1.block k hk)⟩
  have hx3 := setRow_heap W2 bz ZC cs _ _ HX1.out
  have HX3 := hid hx3
  clear hx3
  have HB3 := hid hb3
  clear hb3 c3
  generalize W2.setRow bz cs = W3 at *
  go_wp2_with fail
  refine ⟨rfl, .agg cs, results_cell_row Tryz.results12 _ W3 bz 35 cs (0, 0) _ rfl HX3.out Tryz.underlying35 rfl (by rw [HZ9.out]; exact info53), ?_, ?_⟩
  · rw [HCS.out]
  · rw [hbz]
    exact HB3.out
end Go.Proofs.YtcldglilhhhdoaaGreatDoor.L
