import Derived.Test.YtimmjikpcekffaaGreatDoorAw9
namespace Go.Proofs.YtimmjikpcekffaaGreatDoor.L
open Go.RowKit Go.Shelf
set_option linter.unusedVariables false
set_option linter.unusedSimpArgs false
theorem frz_row {W : World} {g : Nat} {cs : Array Value} {t : TypeId} (h : W.heap[g]? = some (.cells cs t (0, 0))) (j : Nat) : W.frozen? ⟨g, j, none⟩ = false := by
  simp [World.frozen?, h]
theorem set_oth {W : World} {g k : Nat} {cs : Array Value} {t : TypeId} (h : W.heap[g]? = some (.cells cs t (0, 0))) (j : Nat) (v : Value) (hk : k ≠ g) : (W.setCell ⟨g, j, none⟩ v).heap[k]? = W.heap[k]? := by
  rw [setCell_eq_setRow _ _ _ _ _ _ _ h]
  exact setRow_other _ _ _ _ hk
theorem cell_set_oth {W : World} {g j k i : Nat} {v : Value} (h : g ≠ k) : (W.setCell ⟨g, j, none⟩ v).cell? ⟨k, i, none⟩ = W.cell? ⟨k, i, none⟩ := World.cell?_setCell_far _ _ _ _ h
set_option maxHeartbeats 16000000 in
set_option maxRecDepth 100000 in
theorem whole9 (gp k1 k2 : Nat) (w : World) (h : Fy w gp k1 k2) :
    Calls Tryz.prog 16 #[.slice (some ⟨gp, 0, none⟩) 4 4] w fun e w' => ∃ b g, e = .returned (.pointer (some ⟨b, 0, none⟩)) ∧ w'.heap[b]? = some (.cells #[.int .i64 5, .bool true, .int .i64 1, .int .i64 2, .int .i64 2, .string ⟨#[122, 111, 110, 101]⟩, .int .i64 0, .int .i64 0, .int .i64 0, .slice (some ⟨g, 0, none⟩) 1 1, .slice none 0 0, .int .i64 0, .int .i64 0, .string ⟨#[]⟩, .int .i64 0, .int .i64 0, .string ⟨#[]⟩, .int .i64 0, .slice none 0 0, .pointer none] 95 (0, 0)) ∧ w'.heap[g]? = some (.cells #[.string ⟨#[97]⟩] 9 (0, 0)) ∧ Below w.heap.size w w' := by
  have HF := hid h
  clear h
  go_enter Tryz.func16, Tryz.ntmps16
  go_upto_region 1 with (fail)
  refine Code.wp_mono ?_ (whole_reg w gp k1 k2 HF.out)
  rintro e a W0 ⟨rfl, gs, gq, bm, rfl, hm, hs, hq, hd, hb⟩
  have HM0 := hid hm
  have HS0 := hid hs
  have HQ0 := hid hq
  have HNE := hid hd
  have HB0 := hid hb
  have HF0 := hid (HF.out.low hb)
  clear hm hs hq hd hb
  go_wp2_with fail
  refine wp_loop_rounds 5 ?_
  rw [rounds_succ]
  have HP0 := hid (belowA W0 (.cells #[.int .i64 14, .string ⟨#[122, 111, 110, 101]⟩, .int .i64 2, .slice none 0 0] 31))
  have HX0 := hid (heap_alloc_new W0 (.cells #[.int .i64 14, .string ⟨#[122, 111, 110, 101]⟩, .int .i64 2, .slice none 0 0] 31))
  have p0 : W0.cell? ⟨gp, 0, none⟩ = some (.int .i64 14) := cell_of_row _ _ 0 _ _ _ HF0.out.row
  have p1 : W0.cell? ⟨gp, 1, none⟩ = some (.string ⟨#[122, 111, 110, 101]⟩) := cell_of_row _ _ 1 _ _ _ HF0.out.row
  have p2 : W0.cell? ⟨gp, 2, none⟩ = some (.int .i64 2) := cell_of_row _ _ 2 _ _ _ HF0.out.row
  have p3 : W0.cell? ⟨gp, 3, none⟩ = some (.slice none 0 0) := cell_of_row _ _ 3 _ _ _ HF0.out.row
  go_upto_region 5 with (fail)
  clear p0 p1 p2 p3
  generalize W0.alloc (.cells #[.int .i64 14, .string ⟨#[122, 111, 110, 101]⟩, .int .i64 2, .slice none 0 0] 31) = Y0 at *
  obtain ⟨pb0, hpb⟩ : ∃ x, x = W0.heap.size := ⟨_, rfl⟩
  rw [← hpb] at HX0 ⊢
  clear hpb
  have HD0 := hid (show Below W0.heap.size W0 Y0.drew from HP0.out.drew)
  have HDX0 := hid (show Y0.drew.heap[pb0]? = _ from HX0.out)
  have NPQ0 := hid (show gq ≠ pb0 from fun e => (by have h1 := HDX0.out; have h2 := (HD0.out.block _ (lt_blk HQ0.out)).trans HQ0.out; rw [e] at h2; rw [h2] at h1; cases h1))
  have HM0' := hid ((HD0.out.block _ (lt_blk HM0.out)).trans HM0.out)
  have HS0' := hid (HS0.out.low HD0.out)
  have HQ0' := hid ((HD0.out.block _ (lt_blk HQ0.out)).trans HQ0.out)
  have HF0' := hid (HF0.out.low HD0.out)
  have MS := hid (show ∀ Y, Below Y0.drew.heap.size Y0.drew Y → (fun Y => (Y.cell? ⟨bm, 0, none⟩ = some (.slice (some ⟨gp, 0, none⟩) 4 4) ∧ Y.cell? ⟨bm, 1, none⟩ = some (.slice (some ⟨gs, 0, none⟩) 4 4) ∧ Y.cell? ⟨bm, 2, none⟩ = some (.slice (some ⟨gq, 0, none⟩) 4 4)) ∧ (Y.cell? ⟨pb0, 0, none⟩ = some (.int .i64 14) ∧ Y.cell? ⟨pb0, 1, none⟩ = some (.string ⟨#[122, 111, 110, 101]⟩) ∧ Y.cell? ⟨pb0, 2, none⟩ = some (.int .i64 2) ∧ Y.cell? ⟨pb0, 3, none⟩ = some (.slice none 0 0)) ∧ Y.cell? ⟨gs, 0, none⟩ = some (.int .i64 1)) Y from fun Y hb => ⟨⟨(hb.cell (p := ⟨bm, 0, none⟩) (lt_blk HM0'.out)).trans (cell_of_row _ _ 0 _ _ _ HM0'.out), (hb.cell (p := ⟨bm, 1, none⟩) (lt_blk HM0'.out)).trans (cell_of_row _ _ 1 _ _ _ HM0'.out), (hb.cell (p := ⟨bm, 2, none⟩) (lt_blk HM0'.out)).trans (cell_of_row _ _ 2 _ _ _ HM0'.out)⟩, ⟨(hb.cell (p := ⟨pb0, 0, none⟩) (lt_blk HDX0.out)).trans (cell_of_row _ _ 0 _ _ _ HDX0.out), (hb.cell (p := ⟨pb0, 1, none⟩) (lt_blk HDX0.out)).trans (cell_of_row _ _ 1 _ _ _ HDX0.out), (hb.cell (p := ⟨pb0, 2, none⟩) (lt_blk HDX0.out)).trans (cell_of_row _ _ 2 _ _ _ HDX0.out), (hb.cell (p := ⟨pb0, 3, none⟩) (lt_blk HDX0.out)).trans (cell_of_row _ _ 3 _ _ _ HDX0.out)⟩, (hb.cell (p := ⟨gs, 0, none⟩) (lt_blk HS0'.out)).trans (cell_of_row _ _ 0 _ _ _ HS0'.out)⟩)
  refine wp_region_held_drew (S := (fun Y => (Y.cell? ⟨bm, 0, none⟩ = some (.slice (some ⟨gp, 0, none⟩) 4 4) ∧ Y.cell? ⟨bm, 1, none⟩ = some (.slice (some ⟨gs, 0, none⟩) 4 4) ∧ Y.cell? ⟨bm, 2, none⟩ = some (.slice (some ⟨gq, 0, none⟩) 4 4)) ∧ (Y.cell? ⟨pb0, 0, none⟩ = some (.int .i64 14) ∧ Y.cell? ⟨pb0, 1, none⟩ = some (.string ⟨#[122, 111, 110, 101]⟩) ∧ Y.cell? ⟨pb0, 2, none⟩ = some (.int .i64 2) ∧ Y.cell? ⟨pb0, 3, none⟩ = some (.slice none 0 0)) ∧ Y.cell? ⟨gs, 0, none⟩ = some (.int .i64 1))) (by kernel_rfl) ?_ (fun hHeld => ?_)
  · exact MS.out _ (Below.refl _ _)
  generalize Y0.drew = Z0 at *
  refine wpAnyH_take (i := 0) (oi := { dst := some 20, op := Op.fieldAddr 79 (Operand.tmp 3) 2, type := 0, pos := "conditions.go:16", after := #[], guard := none }) (v := ?_) rfl (by kernel_rfl) (by kernel_rfl) (by kernel_rfl) (fun _ _ _ h => h) (Or.inl ⟨by rfl, ?_⟩) (by assumption) ?_
  rotate_left
  · (intro w hSw; (try dsimp only at hSw); go_simp; try with_reducible rfl)
  try simp only [Act.put, List.setIfInBounds_toArray, List.set_cons_zero, List.set_cons_succ]
  refine wpAnyH_take (i := 1) (oi := { dst := some 21, op := Op.load 72 (Operand.tmp 20), type := 72, pos := "conditions.go:16", after := #[{ on := 0, ground := Ground.data }], guard := none }) (v := ?_) rfl (by kernel_rfl) (by kernel_rfl) (by kernel_rfl) (fun _ _ _ h => h) (Or.inl ⟨by rfl, ?_⟩) (by assumption) ?_
  rotate_left
  · (intro w hSw; (try dsimp only at hSw); go_simp; try with_reducible rfl)
  try simp only [Act.put, List.setIfInBounds_toArray, List.set_cons_zero, List.set_cons_succ]
  refine wpAnyH_take (i := 2) (oi := { dst := some 22, op := Op.move (Operand.tmp 4), type := 3, pos := "conditions.go:16", after := #[], guard := none }) (v := ?_) rfl (by kernel_rfl) (by kernel_rfl) (by kernel_rfl) (fun _ _ _ h => h) (Or.inl ⟨by rfl, ?_⟩) (by assumption) ?_
  rotate_left
  · (intro w hSw; (try dsimp only at hSw); go_simp; try with_reducible rfl)
  try simp only [Act.put, List.setIfInBounds_toArray, List.set_cons_zero, List.set_cons_succ]
  refine wpAnyH_take (i := 3) (oi := { dst := some 23, op := Op.load 79 (Operand.tmp 3), type := 79, pos := "conditions.go:16", after := #[], guard := none }) (v := ?_) rfl (by kernel_rfl) (by kernel_rfl) (by kernel_rfl) (fun _ _ _ h => h) (Or.inl ⟨by rfl, ?_⟩) (by assumption) ?_
  rotate_left
  · (intro w hSw; (try dsimp only at hSw); go_simp; try with_reducible rfl)
  try simp only [Act.put, List.setIfInBounds_toArray, List.set_cons_zero, List.set_cons_succ]
  refine wpAnyH_take (i := 4) (oi := { dst := some 24, op := Op.load 31 (Operand.tmp 5), type := 31, pos := "conditions.go:16", after := #[], guard := none }) (v := ?_) rfl (by kernel_rfl) (by kernel_rfl) (by kernel_rfl) (fun _ _ _ h => h) (Or.inl ⟨by rfl, ?_⟩) (by assumption) ?_
  rotate_left
  · (intro w hSw; (try dsimp only at hSw); go_simp; try with_reducible rfl)
  try simp only [Act.put, List.setIfInBounds_toArray, List.set_cons_zero, List.set_cons_succ]
  refine wpAnyH_take (i := 5) (oi := { dst := some 25, op := Op.fieldAddr 79 (Operand.tmp 3) 1, type := 0, pos := "conditions.go:16", after := #[], guard := none }) (v := ?_) rfl (by kernel_rfl) (by kernel_rfl) (by kernel_rfl) (fun _ _ _ h => h) (Or.inl ⟨by rfl, ?_⟩) (by assumption) ?_
  rotate_left
  · (intro w hSw; (try dsimp only at hSw); go_simp; try with_reducible rfl)
  try simp only [Act.put, List.setIfInBounds_toArray, List.set_cons_zero, List.set_cons_succ]
  refine wpAnyH_take (i := 6) (oi := { dst := some 26, op := Op.load 76 (Operand.tmp 25), type := 76, pos := "conditions.go:16", after := #[{ on := 5, ground := Ground.data }], guard := none }) (v := ?_) rfl (by kernel_rfl) (by kernel_rfl) (by kernel_rfl) (fun _ _ _ h => h) (Or.inl ⟨by rfl, ?_⟩) (by assumption) ?_
  rotate_left
  · (intro w hSw; (try dsimp only at hSw); go_simp; try with_reducible rfl)
  try simp only [Act.put, List.setIfInBounds_toArray, List.set_cons_zero, List.set_cons_succ]
  refine wpAnyH_take (i := 7) (oi := { dst := some 27, op := Op.move (Operand.tmp 4), type := 3, pos := "conditions.go:16", after := #[], guard := none }) (v := ?_) rfl (by kernel_rfl) (by kernel_rfl) (by kernel_rfl) (fun _ _ _ h => h) (Or.inl ⟨by rfl, ?_⟩) (by assumption) ?_
  rotate_left
  · (intro w hSw; (try dsimp only at hSw); go_simp; try with_reducible rfl)
  try simp only [Act.put, List.setIfInBounds_toArray, List.set_cons_zero, List.set_cons_succ]
  refine wpAnyH_take (i := 8) (oi := { dst := some 28, op := Op.indexAddr 76 (Operand.tmp 26) (Operand.tmp 27), type := 0, pos := "conditions.go:16", after := #[{ on := 6, ground := Ground.data }, { on := 7, ground := Ground.data }], guard := none }) (v := ?_) rfl (by kernel_rfl) (by kernel_rfl) (by kernel_rfl) (fun _ _ _ h => h) (Or.inl ⟨by rfl, ?_⟩) (by assumption) ?_
  rotate_left
  · (intro w hSw; (try dsimp only at hSw); go_simp; try with_reducible rfl)
  try simp only [Act.put, List.setIfInBounds_toArray, List.set_cons_zero, List.set_cons_succ]
  refine wpAnyH_take (i := 9) (oi := { dst := some 29, op := Op.load 81 (Operand.tmp 28), type := 81, pos := "conditions.go:16", after := #[{ on := 8, ground := Ground.data }], guard := none }) (v := ?_) rfl (by kernel_rfl) (by kernel_rfl) (by kernel_rfl) (fun _ _ _ h => h) (Or.inl ⟨by rfl, ?_⟩) (by assumption) ?_
  rotate_left
  · (intro w hSw; (try dsimp only at hSw); go_simp; try with_reducible rfl)
  try simp only [Act.put, List.setIfInBounds_toArray, List.set_cons_zero, List.set_cons_succ]
  refine wpAnyH_ready (rs := [10]) (by kernel_rfl) (by simp) ?_
  refine AllReadyH.cons (o := { dst := some 30, op := Op.call { callee := Callee.value (Operand.func 28), args := #[Operand.tmp 23, Operand.tmp 24, Operand.tmp 29], argTypes := #[79, 31, 81] }, type := 55, pos := "conditions.go:16", after := #[{ on := 3, ground := Ground.data }, { on := 4, ground := Ground.data }, { on := 9, ground := Ground.data }], guard := none }) rfl (fun K hK => ?_) AllReadyH.nil
  go_simp
  refine (made_0 gp (some ⟨gs, 0, none⟩) (some ⟨gq, 0, none⟩) 4 4 4 4 Z0).mono ?_
  rintro e v ⟨rfl, l⟩
  have LV := hid ((HB0.out.trans (HD0.out.mono HB0.out.size)).trans (l.mono (HB0.out.trans (HD0.out.mono HB0.out.size)).size))
  have QV := hid ((l.block _ (lt_blk HQ0'.out)).trans HQ0'.out)
  have MV := hid ((l.block _ (lt_blk HM0'.out)).trans HM0'.out)
  have SV := hid (HS0'.out.low l)
  have FV := hid (HF0'.out.low l)
  refine hK.out _ _ ?_ (fun hHeld => ?_)
  · exact MS.out _ l
  clear hK K hHeld
  try simp only [Act.put, List.setIfInBounds_toArray, List.set_cons_zero, List.set_cons_succ]
  have hHeld := MS.out v l
  refine wpAnyH_take (i := 11) (oi := { dst := some 31, op := Op.indexAddr 72 (Operand.tmp 21) (Operand.tmp 22), type := 0, pos := "conditions.go:16", after := #[{ on := 1, ground := Ground.data }, { on := 2, ground := Ground.data }, { on := 0, ground := Ground.phase }, { on := 1, ground := Ground.phase }, { on := 2, ground := Ground.phase }, { on := 3, ground := Ground.phase }, { on := 4, ground := Ground.phase }, { on := 5, ground := Ground.phase }, { on := 6, ground := Ground.phase }, { on := 7, ground := Ground.phase }, { on := 8, ground := Ground.phase }, { on := 9, ground := Ground.phase }, { on := 10, ground := Ground.phase }], guard := none }) (v := ?_) rfl (by kernel_rfl) (by kernel_rfl) (by kernel_rfl) (fun _ _ _ h => h) (Or.inl ⟨by rfl, ?_⟩) (by assumption) ?_
  rotate_left
  · (intro w hSw; (try dsimp only at hSw); go_simp; try with_reducible rfl)
  try simp only [Act.put, List.setIfInBounds_toArray, List.set_cons_zero, List.set_cons_succ]
  refine wpAnyH_ready (rs := [12]) (by kernel_rfl) (by simp) ?_
  refine AllReadyH.cons (o := { dst := none, op := Op.store 55 (Operand.tmp 31) (Operand.tmp 30), type := 0, pos := "conditions.go:16", after := #[{ on := 11, ground := Ground.data }, { on := 10, ground := Ground.data }, { on := 10, ground := Ground.chain }, { on := 0, ground := Ground.phase }, { on := 1, ground := Ground.phase }, { on := 2, ground := Ground.phase }, { on := 3, ground := Ground.phase }, { on := 4, ground := Ground.phase }, { on := 5, ground := Ground.phase }, { on := 6, ground := Ground.phase }, { on := 7, ground := Ground.phase }, { on := 8, ground := Ground.phase }, { on := 9, ground := Ground.phase }, { on := 10, ground := Ground.phase }], guard := none }) rfl (fun K hK => ?_) AllReadyH.nil
  have qc : v.cell? ⟨gq, 0, none⟩ = some (.pointer none) := cell_of_row _ _ 0 _ _ _ QV.out
  have qf : v.frozen? ⟨gq, 0, none⟩ = false := frz_row QV.out 0
  go_simp
  have MSV := hid (show (fun Y => (Y.cell? ⟨bm, 0, none⟩ = some (.slice (some ⟨gp, 0, none⟩) 4 4) ∧ Y.cell? ⟨bm, 1, none⟩ = some (.slice (some ⟨gs, 0, none⟩) 4 4) ∧ Y.cell? ⟨bm, 2, none⟩ = some (.slice (some ⟨gq, 0, none⟩) 4 4)) ∧ (Y.cell? ⟨pb0, 0, none⟩ = some (.int .i64 14) ∧ Y.cell? ⟨pb0, 1, none⟩ = some (.string ⟨#[122, 111, 110, 101]⟩) ∧ Y.cell? ⟨pb0, 2, none⟩ = some (.int .i64 2) ∧ Y.cell? ⟨pb0, 3, none⟩ = some (.slice none 0 0)) ∧ Y.cell? ⟨gs, 0, none⟩ = some (.int .i64 1)) (v.setCell ⟨gq, 0, none⟩ (.pointer none)) from (by have h9 := MS.out v l; obtain ⟨⟨a0, a1, a2⟩, ⟨a3, a4, a5, a6⟩, a7⟩ := h9; refine ⟨⟨?_, ?_, ?_⟩, ⟨?_, ?_, ?_, ?_⟩, ?_⟩ <;> (refine (cell_set_oth ?_).trans ?_ <;> first | assumption | (show _ ≠ _; have := lt_blk HQ0'.out; have := HNE.out; first | omega | exact NPQ0.out))))
  refine hK.out _ _ ?_ (fun hHeld => ?_)
  · exact MSV.out
  clear hK K hHeld MSV
  try simp only [Act.put, List.setIfInBounds_toArray, List.set_cons_zero, List.set_cons_succ]
  refine wpAnyH_done (by kernel_rfl) ?_ _
  have HQ1 := hid (show (v.setCell ⟨gq, 0, none⟩ (.pointer none)).heap[gq]? = some (.cells #[.pointer none, .pointer none, .pointer none, .pointer none] 55 (0, 0)) by rw [setCell_eq_setRow _ _ _ _ _ _ _ QV.out, setRow_heap _ _ _ _ _ _ QV.out]; rfl)
  have HM1 := hid ((set_oth QV.out 0 (.pointer none) (by have := HNE.out; omega)).trans MV.out)
  have HS1 := hid (show Sg (v.setCell ⟨gq, 0, none⟩ (.pointer none)) gs 1 1 1 0 from (set_oth QV.out 0 (.pointer none) (by have := HNE.out; omega)).trans SV.out)
  have HB1 := hid (LV.out.setCell (p := ⟨gq, 0, none⟩) (by have := HNE.out; show _ ≤ gq; omega) (.pointer none))
  have HF1 := hid (HF.out.low HB1.out)
  clear qc qf hHeld MS LV QV MV SV FV l
  generalize v.setCell ⟨gq, 0, none⟩ (.pointer none) = W1 at *
  go_wp2_with fail
  rw [rounds_succ]
  have HP1 := hid (belowA W1 (.cells #[.int .i64 11, .string ⟨#[97]⟩, .int .i64 0, .slice none 0 0] 31))
  have HX1 := hid (heap_alloc_new W1 (.cells #[.int .i64 11, .string ⟨#[97]⟩, .int .i64 0, .slice none 0 0] 31))
  have p0 : W1.cell? ⟨gp, 4, none⟩ = some (.int .i64 11) := cell_of_row _ _ 4 _ _ _ HF1.out.row
  have p1 : W1.cell? ⟨gp, 5, none⟩ = some (.string ⟨#[97]⟩) := cell_of_row _ _ 5 _ _ _ HF1.out.row
  have p2 : W1.cell? ⟨gp, 6, none⟩ = some (.int .i64 0) := cell_of_row _ _ 6 _ _ _ HF1.out.row
  have p3 : W1.cell? ⟨gp, 7, none⟩ = some (.slice none 0 0) := cell_of_row _ _ 7 _ _ _ HF1.out.row
  go_upto_region 5 with (fail)
  clear p0 p1 p2 p3
  generalize W1.alloc (.cells #[.int .i64 11, .string ⟨#[97]⟩, .int .i64 0, .slice none 0 0] 31) = Y1 at *
  obtain ⟨pb1, hpb⟩ : ∃ x, x = W1.heap.size := ⟨_, rfl⟩
  rw [← hpb] at HX1 ⊢
  clear hpb
  have HD1 := hid (show Below W1.heap.size W1 Y1.drew from HP1.out.drew)
  have HDX1 := hid (show Y1.drew.heap[pb1]? = _ from HX1.out)
  have NPQ1 := hid (show gq ≠ pb1 from fun e => (by have h1 := HDX1.out; have h2 := (HD1.out.block _ (lt_blk HQ1.out)).trans HQ1.out; rw [e] at h2; rw [h2] at h1; cases h1))
  have HM1' := hid ((HD1.out.block _ (lt_blk HM1.out)).trans HM1.out)
  have HS1' := hid (HS1.out.low HD1.out)
  have HQ1' := hid ((HD1.out.block _ (lt_blk HQ1.out)).trans HQ1.out)
  have HF1' := hid (HF1.out.low HD1.out)
  have MS := hid (show ∀ Y, Below Y1.drew.heap.size Y1.drew Y → (fun Y => (Y.cell? ⟨bm, 0, none⟩ = some (.slice (some ⟨gp, 0, none⟩) 4 4) ∧ Y.cell? ⟨bm, 1, none⟩ = some (.slice (some ⟨gs, 0, none⟩) 4 4) ∧ Y.cell? ⟨bm, 2, none⟩ = some (.slice (some ⟨gq, 0, none⟩) 4 4)) ∧ (Y.cell? ⟨pb1, 0, none⟩ = some (.int .i64 11) ∧ Y.cell? ⟨pb1, 1, none⟩ = some (.string ⟨#[97]⟩) ∧ Y.cell? ⟨pb1, 2, none⟩ = some (.int .i64 0) ∧ Y.cell? ⟨pb1, 3, none⟩ = some (.slice none 0 0)) ∧ Y.cell? ⟨gs, 1, none⟩ = some (.int .i64 1)) Y from fun Y hb => ⟨⟨(hb.cell (p := ⟨bm, 0, none⟩) (lt_blk HM1'.out)).trans (cell_of_row _ _ 0 _ _ _ HM1'.out), (hb.cell (p := ⟨bm, 1, none⟩) (lt_blk HM1'.out)).trans (cell_of_row _ _ 1 _ _ _ HM1'.out), (hb.cell (p := ⟨bm, 2, none⟩) (lt_blk HM1'.out)).trans (cell_of_row _ _ 2 _ _ _ HM1'.out)⟩, ⟨(hb.cell (p := ⟨pb1, 0, none⟩) (lt_blk HDX1.out)).trans (cell_of_row _ _ 0 _ _ _ HDX1.out), (hb.cell (p := ⟨pb1, 1, none⟩) (lt_blk HDX1.out)).trans (cell_of_row _ _ 1 _ _ _ HDX1.out), (hb.cell (p := ⟨pb1, 2, none⟩) (lt_blk HDX1.out)).trans (cell_of_row _ _ 2 _ _ _ HDX1.out), (hb.cell (p := ⟨pb1, 3, none⟩) (lt_blk HDX1.out)).trans (cell_of_row _ _ 3 _ _ _ HDX1.out)⟩, (hb.cell (p := ⟨gs, 1, none⟩) (lt_blk HS1'.out)).trans (cell_of_row _ _ 1 _ _ _ HS1'.out)⟩)
  refine wp_region_held_drew (S := (fun Y => (Y.cell? ⟨bm, 0, none⟩ = some (.slice (some ⟨gp, 0, none⟩) 4 4) ∧ Y.cell? ⟨bm, 1, none⟩ = some (.slice (some ⟨gs, 0, none⟩) 4 4) ∧ Y.cell? ⟨bm, 2, none⟩ = some (.slice (some ⟨gq, 0, none⟩) 4 4)) ∧ (Y.cell? ⟨pb1, 0, none⟩ = some (.int .i64 11) ∧ Y.cell? ⟨pb1, 1, none⟩ = some (.string ⟨#[97]⟩) ∧ Y.cell? ⟨pb1, 2, none⟩ = some (.int .i64 0) ∧ Y.cell? ⟨pb1, 3, none⟩ = some (.slice none 0 0)) ∧ Y.cell? ⟨gs, 1, none⟩ = some (.int .i64 1))) (by kernel_rfl) ?_ (fun hHeld => ?_)
  · exact MS.out _ (Below.refl _ _)
  generalize Y1.drew = Z1 at *
  refine wpAnyH_take (i := 0) (oi := { dst := some 20, op := Op.fieldAddr 79 (Operand.tmp 3) 2, type := 0, pos := "conditions.go:16", after := #[], guard := none }) (v := ?_) rfl (by kernel_rfl) (by kernel_rfl) (by kernel_rfl) (fun _ _ _ h => h) (Or.inl ⟨by rfl, ?_⟩) (by assumption) ?_
  rotate_left
  · (intro w hSw; (try dsimp only at hSw); go_simp; try with_reducible rfl)
  try simp only [Act.put, List.setIfInBounds_toArray, List.set_cons_zero, List.set_cons_succ]
  refine wpAnyH_take (i := 1) (oi := { dst := some 21, op := Op.load 72 (Operand.tmp 20), type := 72, pos := "conditions.go:16", after := #[{ on := 0, ground := Ground.data }], guard := none }) (v := ?_) rfl (by kernel_rfl) (by kernel_rfl) (by kernel_rfl) (fun _ _ _ h => h) (Or.inl ⟨by rfl, ?_⟩) (by assumption) ?_
  rotate_left
  · (intro w hSw; (try dsimp only at hSw); go_simp; try with_reducible rfl)
  try simp only [Act.put, List.setIfInBounds_toArray, List.set_cons_zero, List.set_cons_succ]
  refine wpAnyH_take (i := 2) (oi := { dst := some 22, op := Op.move (Operand.tmp 4), type := 3, pos := "conditions.go:16", after := #[], guard := none }) (v := ?_) rfl (by kernel_rfl) (by kernel_rfl) (by kernel_rfl) (fun _ _ _ h => h) (Or.inl ⟨by rfl, ?_⟩) (by assumption) ?_
  rotate_left
  · (intro w hSw; (try dsimp only at hSw); go_simp; try with_reducible rfl)
  try simp only [Act.put, List.setIfInBounds_toArray, List.set_cons_zero, List.set_cons_succ]
  refine wpAnyH_take (i := 3) (oi := { dst := some 23, op := Op.load 79 (Operand.tmp 3), type := 79, pos := "conditions.go:16", after := #[], guard := none }) (v := ?_) rfl (by kernel_rfl) (by kernel_rfl) (by kernel_rfl) (fun _ _ _ h => h) (Or.inl ⟨by rfl, ?_⟩) (by assumption) ?_
  rotate_left
  · (intro w hSw; (try dsimp only at hSw); go_simp; try with_reducible rfl)
  try simp only [Act.put, List.setIfInBounds_toArray, List.set_cons_zero, List.set_cons_succ]
  refine wpAnyH_take (i := 4) (oi := { dst := some 24, op := Op.load 31 (Operand.tmp 5), type := 31, pos := "conditions.go:16", after := #[], guard := none }) (v := ?_) rfl (by kernel_rfl) (by kernel_rfl) (by kernel_rfl) (fun _ _ _ h => h) (Or.inl ⟨by rfl, ?_⟩) (by assumption) ?_
  rotate_left
  · (intro w hSw; (try dsimp only at hSw); go_simp; try with_reducible rfl)
  try simp only [Act.put, List.setIfInBounds_toArray, List.set_cons_zero, List.set_cons_succ]
  refine wpAnyH_take (i := 5) (oi := { dst := some 25, op := Op.fieldAddr 79 (Operand.tmp 3) 1, type := 0, pos := "conditions.go:16", after := #[], guard := none }) (v := ?_) rfl (by kernel_rfl) (by kernel_rfl) (by kernel_rfl) (fun _ _ _ h => h) (Or.inl ⟨by rfl, ?_⟩) (by assumption) ?_
  rotate_left
  · (intro w hSw; (try dsimp only at hSw); go_simp; try with_reducible rfl)
  try simp only [Act.put, List.setIfInBounds_toArray, List.set_cons_zero, List.set_cons_succ]
  refine wpAnyH_take (i := 6) (oi := { dst := some 26, op := Op.load 76 (Operand.tmp 25), type := 76, pos := "conditions.go:16", after := #[{ on := 5, ground := Ground.data }], guard := none }) (v := ?_) rfl (by kernel_rfl) (by kernel_rfl) (by kernel_rfl) (fun _ _ _ h => h) (Or.inl ⟨by rfl, ?_⟩) (by assumption) ?_
  rotate_left
  · (intro w hSw; (try dsimp only at hSw); go_simp; try with_reducible rfl)
  try simp only [Act.put, List.setIfInBounds_toArray, List.set_cons_zero, List.set_cons_succ]
  refine wpAnyH_take (i := 7) (oi := { dst := some 27, op := Op.move (Operand.tmp 4), type := 3, pos := "conditions.go:16", after := #[], guard := none }) (v := ?_) rfl (by kernel_rfl) (by kernel_rfl) (by kernel_rfl) (fun _ _ _ h => h) (Or.inl ⟨by rfl, ?_⟩) (by assumption) ?_
  rotate_left
  · (intro w hSw; (try dsimp only at hSw); go_simp; try with_reducible rfl)
  try simp only [Act.put, List.setIfInBounds_toArray, List.set_cons_zero, List.set_cons_succ]
  refine wpAnyH_take (i := 8) (oi := { dst := some 28, op := Op.indexAddr 76 (Operand.tmp 26) (Operand.tmp 27), type := 0, pos := "conditions.go:16", after := #[{ on := 6, ground := Ground.data }, { on := 7, ground := Ground.data }], guard := none }) (v := ?_) rfl (by kernel_rfl) (by kernel_rfl) (by kernel_rfl) (fun _ _ _ h => h) (Or.inl ⟨by rfl, ?_⟩) (by assumption) ?_
  rotate_left
  · (intro w hSw; (try dsimp only at hSw); go_simp; try with_reducible rfl)
  try simp only [Act.put, List.setIfInBounds_toArray, List.set_cons_zero, List.set_cons_succ]
  refine wpAnyH_take (i := 9) (oi := { dst := some 29, op := Op.load 81 (Operand.tmp 28), type := 81, pos := "conditions.go:16", after := #[{ on := 8, ground := Ground.data }], guard := none }) (v := ?_) rfl (by kernel_rfl) (by kernel_rfl) (by kernel_rfl) (fun _ _ _ h => h) (Or.inl ⟨by rfl, ?_⟩) (by assumption) ?_
  rotate_left
  · (intro w hSw; (try dsimp only at hSw); go_simp; try with_reducible rfl)
  try simp only [Act.put, List.setIfInBounds_toArray, List.set_cons_zero, List.set_cons_succ]
  refine wpAnyH_ready (rs := [10]) (by kernel_rfl) (by simp) ?_
  refine AllReadyH.cons (o := { dst := some 30, op := Op.call { callee := Callee.value (Operand.func 28), args := #[Operand.tmp 23, Operand.tmp 24, Operand.tmp 29], argTypes := #[79, 31, 81] }, type := 55, pos := "conditions.go:16", after := #[{ on := 3, ground := Ground.data }, { on := 4, ground := Ground.data }, { on := 9, ground := Ground.data }], guard := none }) rfl (fun K hK => ?_) AllReadyH.nil
  go_simp
  refine (made_1 gp (some ⟨gs, 0, none⟩) (some ⟨gq, 0, none⟩) 4 4 4 4 Z1).mono ?_
  rintro e v ⟨rfl, l⟩
  have LV := hid ((HB1.out.trans (HD1.out.mono HB1.out.size)).trans (l.mono (HB1.out.trans (HD1.out.mono HB1.out.size)).size))
  have QV := hid ((l.block _ (lt_blk HQ1'.out)).trans HQ1'.out)
  have MV := hid ((l.block _ (lt_blk HM1'.out)).trans HM1'.out)
  have SV := hid (HS1'.out.low l)
  have FV := hid (HF1'.out.low l)
  refine hK.out _ _ ?_ (fun hHeld => ?_)
  · exact MS.out _ l
  clear hK K hHeld
  try simp only [Act.put, List.setIfInBounds_toArray, List.set_cons_zero, List.set_cons_succ]
  have hHeld := MS.out v l
  refine wpAnyH_take (i := 11) (oi := { dst := some 31, op := Op.indexAddr 72 (Operand.tmp 21) (Operand.tmp 22), type := 0, pos := "conditions.go:16", after := #[{ on := 1, ground := Ground.data }, { on := 2, ground := Ground.data }, { on := 0, ground := Ground.phase }, { on := 1, ground := Ground.phase }, { on := 2, ground := Ground.phase }, { on := 3, ground := Ground.phase }, { on := 4, ground := Ground.phase }, { on := 5, ground := Ground.phase }, { on := 6, ground := Ground.phase }, { on := 7, ground := Ground.phase }, { on := 8, ground := Ground.phase }, { on := 9, ground := Ground.phase }, { on := 10, ground := Ground.phase }], guard := none }) (v := ?_) rfl (by kernel_rfl) (by kernel_rfl) (by kernel_rfl) (fun _ _ _ h => h) (Or.inl ⟨by rfl, ?_⟩) (by assumption) ?_
  rotate_left
  · (intro w hSw; (try dsimp only at hSw); go_simp; try with_reducible rfl)
  try simp only [Act.put, List.setIfInBounds_toArray, List.set_cons_zero, List.set_cons_succ]
  refine wpAnyH_ready (rs := [12]) (by kernel_rfl) (by simp) ?_
  refine AllReadyH.cons (o := { dst := none, op := Op.store 55 (Operand.tmp 31) (Operand.tmp 30), type := 0, pos := "conditions.go:16", after := #[{ on := 11, ground := Ground.data }, { on := 10, ground := Ground.data }, { on := 10, ground := Ground.chain }, { on := 0, ground := Ground.phase }, { on := 1, ground := Ground.phase }, { on := 2, ground := Ground.phase }, { on := 3, ground := Ground.phase }, { on := 4, ground := Ground.phase }, { on := 5, ground := Ground.phase }, { on := 6, ground := Ground.phase }, { on := 7, ground := Ground.phase }, { on := 8, ground := Ground.phase }, { on := 9, ground := Ground.phase }, { on := 10, ground := Ground.phase }], guard := none }) rfl (fun K hK => ?_) AllReadyH.nil
  have qc : v.cell? ⟨gq, 1, none⟩ = some (.pointer none) := cell_of_row _ _ 1 _ _ _ QV.out
  have qf : v.frozen? ⟨gq, 1, none⟩ = false := frz_row QV.out 1
  go_simp
  have MSV := hid (show (fun Y => (Y.cell? ⟨bm, 0, none⟩ = some (.slice (some ⟨gp, 0, none⟩) 4 4) ∧ Y.cell? ⟨bm, 1, none⟩ = some (.slice (some ⟨gs, 0, none⟩) 4 4) ∧ Y.cell? ⟨bm, 2, none⟩ = some (.slice (some ⟨gq, 0, none⟩) 4 4)) ∧ (Y.cell? ⟨pb1, 0, none⟩ = some (.int .i64 11) ∧ Y.cell? ⟨pb1, 1, none⟩ = some (.string ⟨#[97]⟩) ∧ Y.cell? ⟨pb1, 2, none⟩ = some (.int .i64 0) ∧ Y.cell? ⟨pb1, 3, none⟩ = some (.slice none 0 0)) ∧ Y.cell? ⟨gs, 1, none⟩ = some (.int .i64 1)) (v.setCell ⟨gq, 1, none⟩ (.pointer none)) from (by have h9 := MS.out v l; obtain ⟨⟨a0, a1, a2⟩, ⟨a3, a4, a5, a6⟩, a7⟩ := h9; refine ⟨⟨?_, ?_, ?_⟩, ⟨?_, ?_, ?_, ?_⟩, ?_⟩ <;> (refine (cell_set_oth ?_).trans ?_ <;> first | assumption | (show _ ≠ _; have := lt_blk HQ1'.out; have := HNE.out; first | omega | exact NPQ1.out))))
  refine hK.out _ _ ?_ (fun hHeld => ?_)
  · exact MSV.out
  clear hK K hHeld MSV
  try simp only [Act.put, List.setIfInBounds_toArray, List.set_cons_zero, List.set_cons_succ]
  refine wpAnyH_done (by kernel_rfl) ?_ _
  have HQ2 := hid (show (v.setCell ⟨gq, 1, none⟩ (.pointer none)).heap[gq]? = some (.cells #[.pointer none, .pointer none, .pointer none, .pointer none] 55 (0, 0)) by rw [setCell_eq_setRow _ _ _ _ _ _ _ QV.out, setRow_heap _ _ _ _ _ _ QV.out]; rfl)
  have HM2 := hid ((set_oth QV.out 1 (.pointer none) (by have := HNE.out; omega)).trans MV.out)
  have HS2 := hid (show Sg (v.setCell ⟨gq, 1, none⟩ (.pointer none)) gs 1 1 1 0 from (set_oth QV.out 1 (.pointer none) (by have := HNE.out; omega)).trans SV.out)
  have HB2 := hid (LV.out.setCell (p := ⟨gq, 1, none⟩) (by have := HNE.out; show _ ≤ gq; omega) (.pointer none))
  have HF2 := hid (HF.out.low HB2.out)
  clear qc qf hHeld MS LV QV MV SV FV l
  generalize v.setCell ⟨gq, 1, none⟩ (.pointer none) = W2 at *
  go_wp2_with fail
  rw [rounds_succ]
  have HP2 := hid (belowA W2 (.cells #[.int .i64 6, .string ⟨#[]⟩, .int .i64 1, .slice (some ⟨k1, 0, none⟩) 2 2] 31))
  have HX2 := hid (heap_alloc_new W2 (.cells #[.int .i64 6, .string ⟨#[]⟩, .int .i64 1, .slice (some ⟨k1, 0, none⟩) 2 2] 31))
  have p0 : W2.cell? ⟨gp, 8, none⟩ = some (.int .i64 6) := cell_of_row _ _ 8 _ _ _ HF2.out.row
  have p1 : W2.cell? ⟨gp, 9, none⟩ = some (.string ⟨#[]⟩) := cell_of_row _ _ 9 _ _ _ HF2.out.row
  have p2 : W2.cell? ⟨gp, 10, none⟩ = some (.int .i64 1) := cell_of_row _ _ 10 _ _ _ HF2.out.row
  have p3 : W2.cell? ⟨gp, 11, none⟩ = some (.slice (some ⟨k1, 0, none⟩) 2 2) := cell_of_row _ _ 11 _ _ _ HF2.out.row
  go_upto_region 5 with (fail)
  clear p0 p1 p2 p3
  generalize W2.alloc (.cells #[.int .i64 6, .string ⟨#[]⟩, .int .i64 1, .slice (some ⟨k1, 0, none⟩) 2 2] 31) = Y2 at *
  obtain ⟨pb2, hpb⟩ : ∃ x, x = W2.heap.size := ⟨_, rfl⟩
  rw [← hpb] at HX2 ⊢
  clear hpb
  have HD2 := hid (show Below W2.heap.size W2 Y2.drew from HP2.out.drew)
  have HDX2 := hid (show Y2.drew.heap[pb2]? = _ from HX2.out)
  have NPQ2 := hid (show gq ≠ pb2 from fun e => (by have h1 := HDX2.out; have h2 := (HD2.out.block _ (lt_blk HQ2.out)).trans HQ2.out; rw [e] at h2; rw [h2] at h1; cases h1))
  have HM2' := hid ((HD2.out.block _ (lt_blk HM2.out)).trans HM2.out)
  have HS2' := hid (HS2.out.low HD2.out)
  have HQ2' := hid ((HD2.out.block _ (lt_blk HQ2.out)).trans HQ2.out)
  have HF2' := hid (HF2.out.low HD2.out)
  have MS := hid (show ∀ Y, Below Y2.drew.heap.size Y2.drew Y → (fun Y => (Y.cell? ⟨bm, 0, none⟩ = some (.slice (some ⟨gp, 0, none⟩) 4 4) ∧ Y.cell? ⟨bm, 1, none⟩ = some (.slice (some ⟨gs, 0, none⟩) 4 4) ∧ Y.cell? ⟨bm, 2, none⟩ = some (.slice (some ⟨gq, 0, none⟩) 4 4)) ∧ (Y.cell? ⟨pb2, 0, none⟩ = some (.int .i64 6) ∧ Y.cell? ⟨pb2, 1, none⟩ = some (.string ⟨#[]⟩) ∧ Y.cell? ⟨pb2, 2, none⟩ = some (.int .i64 1) ∧ Y.cell? ⟨pb2, 3, none⟩ = some (.slice (some ⟨k1, 0, none⟩) 2 2)) ∧ Y.cell? ⟨gs, 2, none⟩ = some (.int .i64 1)) Y from fun Y hb => ⟨⟨(hb.cell (p := ⟨bm, 0, none⟩) (lt_blk HM2'.out)).trans (cell_of_row _ _ 0 _ _ _ HM2'.out), (hb.cell (p := ⟨bm, 1, none⟩) (lt_blk HM2'.out)).trans (cell_of_row _ _ 1 _ _ _ HM2'.out), (hb.cell (p := ⟨bm, 2, none⟩) (lt_blk HM2'.out)).trans (cell_of_row _ _ 2 _ _ _ HM2'.out)⟩, ⟨(hb.cell (p := ⟨pb2, 0, none⟩) (lt_blk HDX2.out)).trans (cell_of_row _ _ 0 _ _ _ HDX2.out), (hb.cell (p := ⟨pb2, 1, none⟩) (lt_blk HDX2.out)).trans (cell_of_row _ _ 1 _ _ _ HDX2.out), (hb.cell (p := ⟨pb2, 2, none⟩) (lt_blk HDX2.out)).trans (cell_of_row _ _ 2 _ _ _ HDX2.out), (hb.cell (p := ⟨pb2, 3, none⟩) (lt_blk HDX2.out)).trans (cell_of_row _ _ 3 _ _ _ HDX2.out)⟩, (hb.cell (p := ⟨gs, 2, none⟩) (lt_blk HS2'.out)).trans (cell_of_row _ _ 2 _ _ _ HS2'.out)⟩)
  refine wp_region_held_drew (S := (fun Y => (Y.cell? ⟨bm, 0, none⟩ = some (.slice (some ⟨gp, 0, none⟩) 4 4) ∧ Y.cell? ⟨bm, 1, none⟩ = some (.slice (some ⟨gs, 0, none⟩) 4 4) ∧ Y.cell? ⟨bm, 2, none⟩ = some (.slice (some ⟨gq, 0, none⟩) 4 4)) ∧ (Y.cell? ⟨pb2, 0, none⟩ = some (.int .i64 6) ∧ Y.cell? ⟨pb2, 1, none⟩ = some (.string ⟨#[]⟩) ∧ Y.cell? ⟨pb2, 2, none⟩ = some (.int .i64 1) ∧ Y.cell? ⟨pb2, 3, none⟩ = some (.slice (some ⟨k1, 0, none⟩) 2 2)) ∧ Y.cell? ⟨gs, 2, none⟩ = some (.int .i64 1))) (by kernel_rfl) ?_ (fun hHeld => ?_)
  · exact MS.out _ (Below.refl _ _)
  generalize Y2.drew = Z2 at *
  refine wpAnyH_take (i := 0) (oi := { dst := some 20, op := Op.fieldAddr 79 (Operand.tmp 3) 2, type := 0, pos := "conditions.go:16", after := #[], guard := none }) (v := ?_) rfl (by kernel_rfl) (by kernel_rfl) (by kernel_rfl) (fun _ _ _ h => h) (Or.inl ⟨by rfl, ?_⟩) (by assumption) ?_
  rotate_left
  · (intro w hSw; (try dsimp only at hSw); go_simp; try with_reducible rfl)
  try simp only [Act.put, List.setIfInBounds_toArray, List.set_cons_zero, List.set_cons_succ]
  refine wpAnyH_take (i := 1) (oi := { dst := some 21, op := Op.load 72 (Operand.tmp 20), type := 72, pos := "conditions.go:16", after := #[{ on := 0, ground := Ground.data }], guard := none }) (v := ?_) rfl (by kernel_rfl) (by kernel_rfl) (by kernel_rfl) (fun _ _ _ h => h) (Or.inl ⟨by rfl, ?_⟩) (by assumption) ?_
  rotate_left
  · (intro w hSw; (try dsimp only at hSw); go_simp; try with_reducible rfl)
  try simp only [Act.put, List.setIfInBounds_toArray, List.set_cons_zero, List.set_cons_succ]
  refine wpAnyH_take (i := 2) (oi := { dst := some 22, op := Op.move (Operand.tmp 4), type := 3, pos := "conditions.go:16", after := #[], guard := none }) (v := ?_) rfl (by kernel_rfl) (by kernel_rfl) (by kernel_rfl) (fun _ _ _ h => h) (Or.inl ⟨by rfl, ?_⟩) (by assumption) ?_
  rotate_left
  · (intro w hSw; (try dsimp only at hSw); go_simp; try with_reducible rfl)
  try simp only [Act.put, List.setIfInBounds_toArray, List.set_cons_zero, List.set_cons_succ]
  refine wpAnyH_take (i := 3) (oi := { dst := some 23, op := Op.load 79 (Operand.tmp 3), type := 79, pos := "conditions.go:16", after := #[], guard := none }) (v := ?_) rfl (by kernel_rfl) (by kernel_rfl) (by kernel_rfl) (fun _ _ _ h => h) (Or.inl ⟨by rfl, ?_⟩) (by assumption) ?_
  rotate_left
  · (intro w hSw; (try dsimp only at hSw); go_simp; try with_reducible rfl)
  try simp only [Act.put, List.setIfInBounds_toArray, List.set_cons_zero, List.set_cons_succ]
  refine wpAnyH_take (i := 4) (oi := { dst := some 24, op := Op.load 31 (Operand.tmp 5), type := 31, pos := "conditions.go:16", after := #[], guard := none }) (v := ?_) rfl (by kernel_rfl) (by kernel_rfl) (by kernel_rfl) (fun _ _ _ h => h) (Or.inl ⟨by rfl, ?_⟩) (by assumption) ?_
  rotate_left
  · (intro w hSw; (try dsimp only at hSw); go_simp; try with_reducible rfl)
  try simp only [Act.put, List.setIfInBounds_toArray, List.set_cons_zero, List.set_cons_succ]
  refine wpAnyH_take (i := 5) (oi := { dst := some 25, op := Op.fieldAddr 79 (Operand.tmp 3) 1, type := 0, pos := "conditions.go:16", after := #[], guard := none }) (v := ?_) rfl (by kernel_rfl) (by kernel_rfl) (by kernel_rfl) (fun _ _ _ h => h) (Or.inl ⟨by rfl, ?_⟩) (by assumption) ?_
  rotate_left
  · (intro w hSw; (try dsimp only at hSw); go_simp; try with_reducible rfl)
  try simp only [Act.put, List.setIfInBounds_toArray, List.set_cons_zero, List.set_cons_succ]
  refine wpAnyH_take (i := 6) (oi := { dst := some 26, op := Op.load 76 (Operand.tmp 25), type := 76, pos := "conditions.go:16", after := #[{ on := 5, ground := Ground.data }], guard := none }) (v := ?_) rfl (by kernel_rfl) (by kernel_rfl) (by kernel_rfl) (fun _ _ _ h => h) (Or.inl ⟨by rfl, ?_⟩) (by assumption) ?_
  rotate_left
  · (intro w hSw; (try dsimp only at hSw); go_simp; try with_reducible rfl)
  try simp only [Act.put, List.setIfInBounds_toArray, List.set_cons_zero, List.set_cons_succ]
  refine wpAnyH_take (i := 7) (oi := { dst := some 27, op := Op.move (Operand.tmp 4), type := 3, pos := "conditions.go:16", after := #[], guard := none }) (v := ?_) rfl (by kernel_rfl) (by kernel_rfl) (by kernel_rfl) (fun _ _ _ h => h) (Or.inl ⟨by rfl, ?_⟩) (by assumption) ?_
  rotate_left
  · (intro w hSw; (try dsimp only at hSw); go_simp; try with_reducible rfl)
  try simp only [Act.put, List.setIfInBounds_toArray, List.set_cons_zero, List.set_cons_succ]
  refine wpAnyH_take (i := 8) (oi := { dst := some 28, op := Op.indexAddr 76 (Operand.tmp 26) (Operand.tmp 27), type := 0, pos := "conditions.go:16", after := #[{ on := 6, ground := Ground.data }, { on := 7, ground := Ground.data }], guard := none }) (v := ?_) rfl (by kernel_rfl) (by kernel_rfl) (by kernel_rfl) (fun _ _ _ h => h) (Or.inl ⟨by rfl, ?_⟩) (by assumption) ?_
  rotate_left
  · (intro w hSw; (try dsimp only at hSw); go_simp; try with_reducible rfl)
  try simp only [Act.put, List.setIfInBounds_toArray, List.set_cons_zero, List.set_cons_succ]
  refine wpAnyH_take (i := 9) (oi := { dst := some 29, op := Op.load 81 (Operand.tmp 28), type := 81, pos := "conditions.go:16", after := #[{ on := 8, ground := Ground.data }], guard := none }) (v := ?_) rfl (by kernel_rfl) (by kernel_rfl) (by kernel_rfl) (fun _ _ _ h => h) (Or.inl ⟨by rfl, ?_⟩) (by assumption) ?_
  rotate_left
  · (intro w hSw; (try dsimp only at hSw); go_simp; try with_reducible rfl)
  try simp only [Act.put, List.setIfInBounds_toArray, List.set_cons_zero, List.set_cons_succ]
  refine wpAnyH_ready (rs := [10]) (by kernel_rfl) (by simp) ?_
  refine AllReadyH.cons (o := { dst := some 30, op := Op.call { callee := Callee.value (Operand.func 28), args := #[Operand.tmp 23, Operand.tmp 24, Operand.tmp 29], argTypes := #[79, 31, 81] }, type := 55, pos := "conditions.go:16", after := #[{ on := 3, ground := Ground.data }, { on := 4, ground := Ground.data }, { on := 9, ground := Ground.data }], guard := none }) rfl (fun K hK => ?_) AllReadyH.nil
  go_simp
  refine (made_2 gp k1 k2 (some ⟨gs, 0, none⟩) (some ⟨gq, 0, none⟩) 4 4 4 4 Z2 HF2'.out).mono ?_
  rintro e v ⟨b, g, rfl, hpc, htx, hge, l⟩
  have HPC := hid hpc
  have HTX := hid htx
  have HNB := hid (show b ≠ gq from (by have := lt_blk HQ2'.out; omega))
  clear hpc htx hge
  have LV := hid ((HB2.out.trans (HD2.out.mono HB2.out.size)).trans (l.mono (HB2.out.trans (HD2.out.mono HB2.out.size)).size))
  have QV := hid ((l.block _ (lt_blk HQ2'.out)).trans HQ2'.out)
  have MV := hid ((l.block _ (lt_blk HM2'.out)).trans HM2'.out)
  have SV := hid (HS2'.out.low l)
  have FV := hid (HF2'.out.low l)
  refine hK.out _ _ ?_ (fun hHeld => ?_)
  · exact MS.out _ l
  clear hK K hHeld
  try simp only [Act.put, List.setIfInBounds_toArray, List.set_cons_zero, List.set_cons_succ]
  have hHeld := MS.out v l
  refine wpAnyH_take (i := 11) (oi := { dst := some 31, op := Op.indexAddr 72 (Operand.tmp 21) (Operand.tmp 22), type := 0, pos := "conditions.go:16", after := #[{ on := 1, ground := Ground.data }, { on := 2, ground := Ground.data }, { on := 0, ground := Ground.phase }, { on := 1, ground := Ground.phase }, { on := 2, ground := Ground.phase }, { on := 3, ground := Ground.phase }, { on := 4, ground := Ground.phase }, { on := 5, ground := Ground.phase }, { on := 6, ground := Ground.phase }, { on := 7, ground := Ground.phase }, { on := 8, ground := Ground.phase }, { on := 9, ground := Ground.phase }, { on := 10, ground := Ground.phase }], guard := none }) (v := ?_) rfl (by kernel_rfl) (by kernel_rfl) (by kernel_rfl) (fun _ _ _ h => h) (Or.inl ⟨by rfl, ?_⟩) (by assumption) ?_
  rotate_left
  · (intro w hSw; (try dsimp only at hSw); go_simp; try with_reducible rfl)
  try simp only [Act.put, List.setIfInBounds_toArray, List.set_cons_zero, List.set_cons_succ]
  refine wpAnyH_ready (rs := [12]) (by kernel_rfl) (by simp) ?_
  refine AllReadyH.cons (o := { dst := none, op := Op.store 55 (Operand.tmp 31) (Operand.tmp 30), type := 0, pos := "conditions.go:16", after := #[{ on := 11, ground := Ground.data }, { on := 10, ground := Ground.data }, { on := 10, ground := Ground.chain }, { on := 0, ground := Ground.phase }, { on := 1, ground := Ground.phase }, { on := 2, ground := Ground.phase }, { on := 3, ground := Ground.phase }, { on := 4, ground := Ground.phase }, { on := 5, ground := Ground.phase }, { on := 6, ground := Ground.phase }, { on := 7, ground := Ground.phase }, { on := 8, ground := Ground.phase }, { on := 9, ground := Ground.phase }, { on := 10, ground := Ground.phase }], guard := none }) rfl (fun K hK => ?_) AllReadyH.nil
  have qc : v.cell? ⟨gq, 2, none⟩ = some (.pointer none) := cell_of_row _ _ 2 _ _ _ QV.out
  have qf : v.frozen? ⟨gq, 2, none⟩ = false := frz_row QV.out 2
  go_simp
  have MSV := hid (show (fun Y => (Y.cell? ⟨bm, 0, none⟩ = some (.slice (some ⟨gp, 0, none⟩) 4 4) ∧ Y.cell? ⟨bm, 1, none⟩ = some (.slice (some ⟨gs, 0, none⟩) 4 4) ∧ Y.cell? ⟨bm, 2, none⟩ = some (.slice (some ⟨gq, 0, none⟩) 4 4)) ∧ (Y.cell? ⟨pb2, 0, none⟩ = some (.int .i64 6) ∧ Y.cell? ⟨pb2, 1, none⟩ = some (.string ⟨#[]⟩) ∧ Y.cell? ⟨pb2, 2, none⟩ = some (.int .i64 1) ∧ Y.cell? ⟨pb2, 3, none⟩ = some (.slice (some ⟨k1, 0, none⟩) 2 2)) ∧ Y.cell? ⟨gs, 2, none⟩ = some (.int .i64 1)) (v.setCell ⟨gq, 2, none⟩ (.pointer (some ⟨b, 0, none⟩))) from (by have h9 := MS.out v l; obtain ⟨⟨a0, a1, a2⟩, ⟨a3, a4, a5, a6⟩, a7⟩ := h9; refine ⟨⟨?_, ?_, ?_⟩, ⟨?_, ?_, ?_, ?_⟩, ?_⟩ <;> (refine (cell_set_oth ?_).trans ?_ <;> first | assumption | (show _ ≠ _; have := lt_blk HQ2'.out; have := HNE.out; first | omega | exact NPQ2.out))))
  refine hK.out _ _ ?_ (fun hHeld => ?_)
  · exact MSV.out
  clear hK K hHeld MSV
  try simp only [Act.put, List.setIfInBounds_toArray, List.set_cons_zero, List.set_cons_succ]
  refine wpAnyH_done (by kernel_rfl) ?_ _
  have HQ3 := hid (show (v.setCell ⟨gq, 2, none⟩ (.pointer (some ⟨b, 0, none⟩))).heap[gq]? = some (.cells #[.pointer none, .pointer none, .pointer (some ⟨b, 0, none⟩), .pointer none] 55 (0, 0)) by rw [setCell_eq_setRow _ _ _ _ _ _ _ QV.out, setRow_heap _ _ _ _ _ _ QV.out]; rfl)
  have HM3 := hid ((set_oth QV.out 2 (.pointer (some ⟨b, 0, none⟩)) (by have := HNE.out; omega)).trans MV.out)
  have HS3 := hid (show Sg (v.setCell ⟨gq, 2, none⟩ (.pointer (some ⟨b, 0, none⟩))) gs 1 1 1 0 from (set_oth QV.out 2 (.pointer (some ⟨b, 0, none⟩)) (by have := HNE.out; omega)).trans SV.out)
  have HB3 := hid (LV.out.setCell (p := ⟨gq, 2, none⟩) (by have := HNE.out; show _ ≤ gq; omega) (.pointer (some ⟨b, 0, none⟩)))
  have HF3 := hid (HF.out.low HB3.out)
  have HPC3 := hid ((set_oth QV.out 2 (.pointer (some ⟨b, 0, none⟩)) HNB.out).trans HPC.out)
  have HTX3 := hid ((set_oth QV.out 2 (.pointer (some ⟨b, 0, none⟩)) (fun e => (by have h1 := HTX.out; rw [e, QV.out] at h1; cases h1))).trans HTX.out)
  clear qc qf hHeld MS LV QV MV SV FV l HPC HTX
  generalize v.setCell ⟨gq, 2, none⟩ (.pointer (some ⟨b, 0, none⟩)) = W3 at *
  go_wp2_with fail
  rw [rounds_succ]
  have HP3 := hid (belowA W3 (.cells #[.int .i64 3, .string ⟨#[]⟩, .int .i64 0, .slice (some ⟨k2, 0, none⟩) 1 1] 31))
  have HX3 := hid (heap_alloc_new W3 (.cells #[.int .i64 3, .string ⟨#[]⟩, .int .i64 0, .slice (some ⟨k2, 0, none⟩) 1 1] 31))
  have p0 : W3.cell? ⟨gp, 12, none⟩ = some (.int .i64 3) := cell_of_row _ _ 12 _ _ _ HF3.out.row
  have p1 : W3.cell? ⟨gp, 13, none⟩ = some (.string ⟨#[]⟩) := cell_of_row _ _ 13 _ _ _ HF3.out.row
  have p2 : W3.cell? ⟨gp, 14, none⟩ = some (.int .i64 0) := cell_of_row _ _ 14 _ _ _ HF3.out.row
  have p3 : W3.cell? ⟨gp, 15, none⟩ = some (.slice (some ⟨k2, 0, none⟩) 1 1) := cell_of_row _ _ 15 _ _ _ HF3.out.row
  go_upto_region 5 with (fail)
  clear p0 p1 p2 p3
  generalize W3.alloc (.cells #[.int .i64 3, .string ⟨#[]⟩, .int .i64 0, .slice (some ⟨k2, 0, none⟩) 1 1] 31) = Y3 at *
  obtain ⟨pb3, hpb⟩ : ∃ x, x = W3.heap.size := ⟨_, rfl⟩
  rw [← hpb] at HX3 ⊢
  clear hpb
  have HD3 := hid (show Below W3.heap.size W3 Y3.drew from HP3.out.drew)
  have HDX3 := hid (show Y3.drew.heap[pb3]? = _ from HX3.out)
  have NPQ3 := hid (show gq ≠ pb3 from fun e => (by have h1 := HDX3.out; have h2 := (HD3.out.block _ (lt_blk HQ3.out)).trans HQ3.out; rw [e] at h2; rw [h2] at h1; cases h1))
  have HM3' := hid ((HD3.out.block _ (lt_blk HM3.out)).trans HM3.out)
  have HS3' := hid (HS3.out.low HD3.out)
  have HQ3' := hid ((HD3.out.block _ (lt_blk HQ3.out)).trans HQ3.out)
  have HF3' := hid (HF3.out.low HD3.out)
  have MS := hid (show ∀ Y, Below Y3.drew.heap.size Y3.drew Y → (fun Y => (Y.cell? ⟨bm, 0, none⟩ = some (.slice (some ⟨gp, 0, none⟩) 4 4) ∧ Y.cell? ⟨bm, 1, none⟩ = some (.slice (some ⟨gs, 0, none⟩) 4 4) ∧ Y.cell? ⟨bm, 2, none⟩ = some (.slice (some ⟨gq, 0, none⟩) 4 4)) ∧ (Y.cell? ⟨pb3, 0, none⟩ = some (.int .i64 3) ∧ Y.cell? ⟨pb3, 1, none⟩ = some (.string ⟨#[]⟩) ∧ Y.cell? ⟨pb3, 2, none⟩ = some (.int .i64 0) ∧ Y.cell? ⟨pb3, 3, none⟩ = some (.slice (some ⟨k2, 0, none⟩) 1 1)) ∧ Y.cell? ⟨gs, 3, none⟩ = some (.int .i64 0)) Y from fun Y hb => ⟨⟨(hb.cell (p := ⟨bm, 0, none⟩) (lt_blk HM3'.out)).trans (cell_of_row _ _ 0 _ _ _ HM3'.out), (hb.cell (p := ⟨bm, 1, none⟩) (lt_blk HM3'.out)).trans (cell_of_row _ _ 1 _ _ _ HM3'.out), (hb.cell (p := ⟨bm, 2, none⟩) (lt_blk HM3'.out)).trans (cell_of_row _ _ 2 _ _ _ HM3'.out)⟩, ⟨(hb.cell (p := ⟨pb3, 0, none⟩) (lt_blk HDX3.out)).trans (cell_of_row _ _ 0 _ _ _ HDX3.out), (hb.cell (p := ⟨pb3, 1, none⟩) (lt_blk HDX3.out)).trans (cell_of_row _ _ 1 _ _ _ HDX3.out), (hb.cell (p := ⟨pb3, 2, none⟩) (lt_blk HDX3.out)).trans (cell_of_row _ _ 2 _ _ _ HDX3.out), (hb.cell (p := ⟨pb3, 3, none⟩) (lt_blk HDX3.out)).trans (cell_of_row _ _ 3 _ _ _ HDX3.out)⟩, (hb.cell (p := ⟨gs, 3, none⟩) (lt_blk HS3'.out)).trans (cell_of_row _ _ 3 _ _ _ HS3'.out)⟩)
  refine wp_region_held_drew (S := (fun Y => (Y.cell? ⟨bm, 0, none⟩ = some (.slice (some ⟨gp, 0, none⟩) 4 4) ∧ Y.cell? ⟨bm, 1, none⟩ = some (.slice (some ⟨gs, 0, none⟩) 4 4) ∧ Y.cell? ⟨bm, 2, none⟩ = some (.slice (some ⟨gq, 0, none⟩) 4 4)) ∧ (Y.cell? ⟨pb3, 0, none⟩ = some (.int .i64 3) ∧ Y.cell? ⟨pb3, 1, none⟩ = some (.string ⟨#[]⟩) ∧ Y.cell? ⟨pb3, 2, none⟩ = some (.int .i64 0) ∧ Y.cell? ⟨pb3, 3, none⟩ = some (.slice (some ⟨k2, 0, none⟩) 1 1)) ∧ Y.cell? ⟨gs, 3, none⟩ = some (.int .i64 0))) (by kernel_rfl) ?_ (fun hHeld => ?_)
  · exact MS.out _ (Below.refl _ _)
  generalize Y3.drew = Z3 at *
  refine wpAnyH_take (i := 0) (oi := { dst := some 20, op := Op.fieldAddr 79 (Operand.tmp 3) 2, type := 0, pos := "conditions.go:16", after := #[], guard := none }) (v := ?_) rfl (by kernel_rfl) (by kernel_rfl) (by kernel_rfl) (fun _ _ _ h => h) (Or.inl ⟨by rfl, ?_⟩) (by assumption) ?_
  rotate_left
  · (intro w hSw; (try dsimp only at hSw); go_simp; try with_reducible rfl)
  try simp only [Act.put, List.setIfInBounds_toArray, List.set_cons_zero, List.set_cons_succ]
  refine wpAnyH_take (i := 1) (oi := { dst := some 21, op := Op.load 72 (Operand.tmp 20), type := 72, pos := "conditions.go:16", after := #[{ on := 0, ground := Ground.data }], guard := none }) (v := ?_) rfl (by kernel_rfl) (by kernel_rfl) (by kernel_rfl) (fun _ _ _ h => h) (Or.inl ⟨by rfl, ?_⟩) (by assumption) ?_
  rotate_left
  · (intro w hSw; (try dsimp only at hSw); go_simp; try with_reducible rfl)
  try simp only [Act.put, List.setIfInBounds_toArray, List.set_cons_zero, List.set_cons_succ]
  refine wpAnyH_take (i := 2) (oi := { dst := some 22, op := Op.move (Operand.tmp 4), type := 3, pos := "conditions.go:16", after := #[], guard := none }) (v := ?_) rfl (by kernel_rfl) (by kernel_rfl) (by kernel_rfl) (fun _ _ _ h => h) (Or.inl ⟨by rfl, ?_⟩) (by assumption) ?_
  rotate_left
  · (intro w hSw; (try dsimp only at hSw); go_simp; try with_reducible rfl)
  try simp only [Act.put, List.setIfInBounds_toArray, List.set_cons_zero, List.set_cons_succ]
  refine wpAnyH_take (i := 3) (oi := { dst := some 23, op := Op.load 79 (Operand.tmp 3), type := 79, pos := "conditions.go:16", after := #[], guard := none }) (v := ?_) rfl (by kernel_rfl) (by kernel_rfl) (by kernel_rfl) (fun _ _ _ h => h) (Or.inl ⟨by rfl, ?_⟩) (by assumption) ?_
  rotate_left
  · (intro w hSw; (try dsimp only at hSw); go_simp; try with_reducible rfl)
  try simp only [Act.put, List.setIfInBounds_toArray, List.set_cons_zero, List.set_cons_succ]
  refine wpAnyH_take (i := 4) (oi := { dst := some 24, op := Op.load 31 (Operand.tmp 5), type := 31, pos := "conditions.go:16", after := #[], guard := none }) (v := ?_) rfl (by kernel_rfl) (by kernel_rfl) (by kernel_rfl) (fun _ _ _ h => h) (Or.inl ⟨by rfl, ?_⟩) (by assumption) ?_
  rotate_left
  · (intro w hSw; (try dsimp only at hSw); go_simp; try with_reducible rfl)
  try simp only [Act.put, List.setIfInBounds_toArray, List.set_cons_zero, List.set_cons_succ]
  refine wpAnyH_take (i := 5) (oi := { dst := some 25, op := Op.fieldAddr 79 (Operand.tmp 3) 1, type := 0, pos := "conditions.go:16", after := #[], guard := none }) (v := ?_) rfl (by kernel_rfl) (by kernel_rfl) (by kernel_rfl) (fun _ _ _ h => h) (Or.inl ⟨by rfl, ?_⟩) (by assumption) ?_
  rotate_left
  · (intro w hSw; (try dsimp only at hSw); go_simp; try with_reducible rfl)
  try simp only [Act.put, List.setIfInBounds_toArray, List.set_cons_zero, List.set_cons_succ]
  refine wpAnyH_take (i := 6) (oi := { dst := some 26, op := Op.load 76 (Operand.tmp 25), type := 76, pos := "conditions.go:16", after := #[{ on := 5, ground := Ground.data }], guard := none }) (v := ?_) rfl (by kernel_rfl) (by kernel_rfl) (by kernel_rfl) (fun _ _ _ h => h) (Or.inl ⟨by rfl, ?_⟩) (by assumption) ?_
  rotate_left
  · (intro w hSw; (try dsimp only at hSw); go_simp; try with_reducible rfl)
  try simp only [Act.put, List.setIfInBounds_toArray, List.set_cons_zero, List.set_cons_succ]
  refine wpAnyH_take (i := 7) (oi := { dst := some 27, op := Op.move (Operand.tmp 4), type := 3, pos := "conditions.go:16", after := #[], guard := none }) (v := ?_) rfl (by kernel_rfl) (by kernel_rfl) (by kernel_rfl) (fun _ _ _ h => h) (Or.inl ⟨by rfl, ?_⟩) (by assumption) ?_
  rotate_left
  · (intro w hSw; (try dsimp only at hSw); go_simp; try with_reducible rfl)
  try simp only [Act.put, List.setIfInBounds_toArray, List.set_cons_zero, List.set_cons_succ]
  refine wpAnyH_take (i := 8) (oi := { dst := some 28, op := Op.indexAddr 76 (Operand.tmp 26) (Operand.tmp 27), type := 0, pos := "conditions.go:16", after := #[{ on := 6, ground := Ground.data }, { on := 7, ground := Ground.data }], guard := none }) (v := ?_) rfl (by kernel_rfl) (by kernel_rfl) (by kernel_rfl) (fun _ _ _ h => h) (Or.inl ⟨by rfl, ?_⟩) (by assumption) ?_
  rotate_left
  · (intro w hSw; (try dsimp only at hSw); go_simp; try with_reducible rfl)
  try simp only [Act.put, List.setIfInBounds_toArray, List.set_cons_zero, List.set_cons_succ]
  refine wpAnyH_take (i := 9) (oi := { dst := some 29, op := Op.load 81 (Operand.tmp 28), type := 81, pos := "conditions.go:16", after := #[{ on := 8, ground := Ground.data }], guard := none }) (v := ?_) rfl (by kernel_rfl) (by kernel_rfl) (by kernel_rfl) (fun _ _ _ h => h) (Or.inl ⟨by rfl, ?_⟩) (by assumption) ?_
  rotate_left
  · (intro w hSw; (try dsimp only at hSw); go_simp; try with_reducible rfl)
  try simp only [Act.put, List.setIfInBounds_toArray, List.set_cons_zero, List.set_cons_succ]
  refine wpAnyH_ready (rs := [10]) (by kernel_rfl) (by simp) ?_
  refine AllReadyH.cons (o := { dst := some 30, op := Op.call { callee := Callee.value (Operand.func 28), args := #[Operand.tmp 23, Operand.tmp 24, Operand.tmp 29], argTypes := #[79, 31, 81] }, type := 55, pos := "conditions.go:16", after := #[{ on := 3, ground := Ground.data }, { on := 4, ground := Ground.data }, { on := 9, ground := Ground.data }], guard := none }) rfl (fun K hK => ?_) AllReadyH.nil
  go_simp
  refine (made_3 gp k1 k2 gq b (some ⟨gs, 0, none⟩) 4 4 Z3 HF3'.out (cell_of_row _ _ 2 _ _ _ HQ3'.out) (lt_blk HQ3'.out)).mono ?_
  rintro e v ⟨rfl, l⟩
  have LV := hid ((HB3.out.trans (HD3.out.mono HB3.out.size)).trans (l.mono (HB3.out.trans (HD3.out.mono HB3.out.size)).size))
  have QV := hid ((l.block _ (lt_blk HQ3'.out)).trans HQ3'.out)
  have MV := hid ((l.block _ (lt_blk HM3'.out)).trans HM3'.out)
  have SV := hid (HS3'.out.low l)
  have FV := hid (HF3'.out.low l)
  have PV := hid ((l.block _ (lt_blk (((HD3.out.block _ (lt_blk HPC3.out)).trans HPC3.out)))).trans ((HD3.out.block _ (lt_blk HPC3.out)).trans HPC3.out))
  have TV := hid ((l.block _ (lt_blk (((HD3.out.block _ (lt_blk HTX3.out)).trans HTX3.out)))).trans ((HD3.out.block _ (lt_blk HTX3.out)).trans HTX3.out))
  refine hK.out _ _ ?_ (fun hHeld => ?_)
  · exact MS.out _ l
  clear hK K hHeld
  try simp only [Act.put, List.setIfInBounds_toArray, List.set_cons_zero, List.set_cons_succ]
  have hHeld := MS.out v l
  refine wpAnyH_take (i := 11) (oi := { dst := some 31, op := Op.indexAddr 72 (Operand.tmp 21) (Operand.tmp 22), type := 0, pos := "conditions.go:16", after := #[{ on := 1, ground := Ground.data }, { on := 2, ground := Ground.data }, { on := 0, ground := Ground.phase }, { on := 1, ground := Ground.phase }, { on := 2, ground := Ground.phase }, { on := 3, ground := Ground.phase }, { on := 4, ground := Ground.phase }, { on := 5, ground := Ground.phase }, { on := 6, ground := Ground.phase }, { on := 7, ground := Ground.phase }, { on := 8, ground := Ground.phase }, { on := 9, ground := Ground.phase }, { on := 10, ground := Ground.phase }], guard := none }) (v := ?_) rfl (by kernel_rfl) (by kernel_rfl) (by kernel_rfl) (fun _ _ _ h => h) (Or.inl ⟨by rfl, ?_⟩) (by assumption) ?_
  rotate_left
  · (intro w hSw; (try dsimp only at hSw); go_simp; try with_reducible rfl)
  try simp only [Act.put, List.setIfInBounds_toArray, List.set_cons_zero, List.set_cons_succ]
  refine wpAnyH_ready (rs := [12]) (by kernel_rfl) (by simp) ?_
  refine AllReadyH.cons (o := { dst := none, op := Op.store 55 (Operand.tmp 31) (Operand.tmp 30), type := 0, pos := "conditions.go:16", after := #[{ on := 11, ground := Ground.data }, { on := 10, ground := Ground.data }, { on := 10, ground := Ground.chain }, { on := 0, ground := Ground.phase }, { on := 1, ground := Ground.phase }, { on := 2, ground := Ground.phase }, { on := 3, ground := Ground.phase }, { on := 4, ground := Ground.phase }, { on := 5, ground := Ground.phase }, { on := 6, ground := Ground.phase }, { on := 7, ground := Ground.phase }, { on := 8, ground := Ground.phase }, { on := 9, ground := Ground.phase }, { on := 10, ground := Ground.phase }], guard := none }) rfl (fun K hK => ?_) AllReadyH.nil
  have qc : v.cell? ⟨gq, 3, none⟩ = some (.pointer none) := cell_of_row _ _ 3 _ _ _ QV.out
  have qf : v.frozen? ⟨gq, 3, none⟩ = false := frz_row QV.out 3
  go_simp
  have MSV := hid (show (fun Y => (Y.cell? ⟨bm, 0, none⟩ = some (.slice (some ⟨gp, 0, none⟩) 4 4) ∧ Y.cell? ⟨bm, 1, none⟩ = some (.slice (some ⟨gs, 0, none⟩) 4 4) ∧ Y.cell? ⟨bm, 2, none⟩ = some (.slice (some ⟨gq, 0, none⟩) 4 4)) ∧ (Y.cell? ⟨pb3, 0, none⟩ = some (.int .i64 3) ∧ Y.cell? ⟨pb3, 1, none⟩ = some (.string ⟨#[]⟩) ∧ Y.cell? ⟨pb3, 2, none⟩ = some (.int .i64 0) ∧ Y.cell? ⟨pb3, 3, none⟩ = some (.slice (some ⟨k2, 0, none⟩) 1 1)) ∧ Y.cell? ⟨gs, 3, none⟩ = some (.int .i64 0)) (v.setCell ⟨gq, 3, none⟩ (.pointer (some ⟨b, 0, none⟩))) from (by have h9 := MS.out v l; obtain ⟨⟨a0, a1, a2⟩, ⟨a3, a4, a5, a6⟩, a7⟩ := h9; refine ⟨⟨?_, ?_, ?_⟩, ⟨?_, ?_, ?_, ?_⟩, ?_⟩ <;> (refine (cell_set_oth ?_).trans ?_ <;> first | assumption | (show _ ≠ _; have := lt_blk HQ3'.out; have := HNE.out; first | omega | exact NPQ3.out))))
  refine hK.out _ _ ?_ (fun hHeld => ?_)
  · exact MSV.out
  clear hK K hHeld MSV
  try simp only [Act.put, List.setIfInBounds_toArray, List.set_cons_zero, List.set_cons_succ]
  refine wpAnyH_done (by kernel_rfl) ?_ _
  have HQ4 := hid (show (v.setCell ⟨gq, 3, none⟩ (.pointer (some ⟨b, 0, none⟩))).heap[gq]? = some (.cells #[.pointer none, .pointer none, .pointer (some ⟨b, 0, none⟩), .pointer (some ⟨b, 0, none⟩)] 55 (0, 0)) by rw [setCell_eq_setRow _ _ _ _ _ _ _ QV.out, setRow_heap _ _ _ _ _ _ QV.out]; rfl)
  have HM4 := hid ((set_oth QV.out 3 (.pointer (some ⟨b, 0, none⟩)) (by have := HNE.out; omega)).trans MV.out)
  have HS4 := hid (show Sg (v.setCell ⟨gq, 3, none⟩ (.pointer (some ⟨b, 0, none⟩))) gs 1 1 1 0 from (set_oth QV.out 3 (.pointer (some ⟨b, 0, none⟩)) (by have := HNE.out; omega)).trans SV.out)
  have HB4 := hid (LV.out.setCell (p := ⟨gq, 3, none⟩) (by have := HNE.out; show _ ≤ gq; omega) (.pointer (some ⟨b, 0, none⟩)))
  have HF4 := hid (HF.out.low HB4.out)
  have HPC4 := hid ((set_oth QV.out 3 (.pointer (some ⟨b, 0, none⟩)) HNB.out).trans PV.out)
  have HTX4 := hid ((set_oth QV.out 3 (.pointer (some ⟨b, 0, none⟩)) (fun e => (by have h1 := TV.out; rw [e, QV.out] at h1; cases h1))).trans TV.out)
  clear qc qf hHeld MS LV QV MV SV FV l PV TV
  generalize v.setCell ⟨gq, 3, none⟩ (.pointer (some ⟨b, 0, none⟩)) = W4 at *
  go_wp2_with fail
  rw [rounds_succ]
  have m2 : W4.cell? ⟨bm, 2, none⟩ = some (.slice (some ⟨gq, 0, none⟩) 4 4) := cell_of_row _ _ 2 _ _ _ HM4.out
  have q3 : W4.cell? ⟨gq, 3, none⟩ = some (.pointer (some ⟨b, 0, none⟩)) := cell_of_row _ _ 3 _ _ _ HQ4.out
  go_wp2_with fail
  go_ret
  exact ⟨b, g, rfl, HPC4.out, HTX4.out, HB4.out⟩
end Go.Proofs.YtimmjikpcekffaaGreatDoor.L
