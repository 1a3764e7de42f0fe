import Derived.Test.YtimmjikpcekffaaGreatDoorAw6
namespace Go.Proofs.YtimmjikpcekffaaGreatDoor.L
open Go.RowKit Go.Shelf
set_option linter.unusedVariables false
set_option linter.unusedSimpArgs false
set_option maxHeartbeats 16000000 in
set_option maxRecDepth 100000 in
theorem compared9 (gp k1 k2 : Nat) (sa pa : Option Addr) (sn sc pn pc : Nat) (w : World) (h : Fy w gp k1 k2) :
    Calls Tryz.prog 45 #[.agg #[.slice (some ⟨gp, 0, none⟩) 4 4, .slice sa sn sc, .slice pa pn pc], .agg #[.int .i64 6, .string ⟨#[]⟩, .int .i64 1, .slice (some ⟨k1, 0, none⟩) 2 2], .int .i64 1] w fun e w' => ∃ b g, e = .returned (.pointer (some ⟨b, 0, none⟩)) ∧ w'.heap[b]? = some (.cells #[.int .i64 5, .bool true, .int .i64 1, .int .i64 2, .int .i64 2, .string ⟨#[122, 111, 110, 101]⟩, .int .i64 0, .int .i64 0, .int .i64 0, .slice (some ⟨g, 0, none⟩) 1 1, .slice none 0 0, .int .i64 0, .int .i64 0, .string ⟨#[]⟩, .int .i64 0, .int .i64 0, .string ⟨#[]⟩, .int .i64 0, .slice none 0 0, .pointer none] 95 (0, 0)) ∧ w'.heap[g]? = some (.cells #[.string ⟨#[97]⟩] 9 (0, 0)) ∧ w.heap.size ≤ b ∧ Below w.heap.size w w' := by
  have HB0 := hid (belowA w (.cells #[.slice (some ⟨gp, 0, none⟩) 4 4, .slice sa sn sc, .slice pa pn pc] 79))
  have HX0 := hid (heap_alloc_new w (.cells #[.slice (some ⟨gp, 0, none⟩) 4 4, .slice sa sn sc, .slice pa pn pc] 79))
  have HB1 := hid (belowA (w.alloc (.cells #[.slice (some ⟨gp, 0, none⟩) 4 4, .slice sa sn sc, .slice pa pn pc] 79)) (.cells #[.int .i64 6, .string ⟨#[]⟩, .int .i64 1, .slice (some ⟨k1, 0, none⟩) 2 2] 31))
  have HX1 := hid (heap_alloc_new (w.alloc (.cells #[.slice (some ⟨gp, 0, none⟩) 4 4, .slice sa sn sc, .slice pa pn pc] 79)) (.cells #[.int .i64 6, .string ⟨#[]⟩, .int .i64 1, .slice (some ⟨k1, 0, none⟩) 2 2] 31))
  have HS1 := hid (show (w.alloc (.cells #[.slice (some ⟨gp, 0, none⟩) 4 4, .slice sa sn sc, .slice pa pn pc] 79)).heap.size = w.heap.size + 1 by simp)
  rw [HS1.out] at HX1
  have HBB := hid (bchS HB0.out HB1.out)
  have HM := hid ((HB1.out.block _ (lt_blk HX0.out)).trans HX0.out)
  have HF := hid (h.low HBB.out)
  clear h
  go_enter Tryz.func45, Tryz.ntmps45
  go_upto_region 1 with (fail)
  generalize ((w.alloc (.cells #[.slice (some ⟨gp, 0, none⟩) 4 4, .slice sa sn sc, .slice pa pn pc] 79)).alloc (.cells #[.int .i64 6, .string ⟨#[]⟩, .int .i64 1, .slice (some ⟨k1, 0, none⟩) 2 2] 31)) = X at *
  refine Code.wp_mono ?_ (cmp_reg X gp k1 k2 w.heap.size (w.heap.size + 1) sa pa sn sc pn pc HF.out HM.out HX1.out)
  rintro e a V ⟨rfl, b7, b8, rfl, h7, h8, hb⟩
  have HBV := hid hb
  have H7 := hid h7
  have H8 := hid h8
  have MS := hid (show ∀ Y, Below V.heap.size V Y → (fun Y => (Y.cell? ⟨b7, 0, none⟩ = some (.bool false) ∧ Y.cell? ⟨b7, 1, none⟩ = some (.bool false) ∧ Y.cell? ⟨b7, 2, none⟩ = some (.bool false) ∧ Y.cell? ⟨b7, 3, none⟩ = some (.string ⟨#[]⟩) ∧ Y.cell? ⟨b7, 4, none⟩ = some (.int .i64 0) ∧ Y.cell? ⟨b7, 5, none⟩ = some (.int .i64 2) ∧ Y.cell? ⟨b7, 6, none⟩ = some (.int .i64 2) ∧ Y.cell? ⟨b7, 7, none⟩ = some (.string ⟨#[122, 111, 110, 101]⟩) ∧ Y.cell? ⟨b7, 8, none⟩ = some (.int .i64 0) ∧ Y.cell? ⟨b7, 9, none⟩ = some (.pointer none)) ∧ (Y.cell? ⟨b8, 0, none⟩ = some (.bool true) ∧ Y.cell? ⟨b8, 1, none⟩ = some (.bool true) ∧ Y.cell? ⟨b8, 2, none⟩ = some (.bool true) ∧ Y.cell? ⟨b8, 3, none⟩ = some (.string ⟨#[97]⟩) ∧ Y.cell? ⟨b8, 4, none⟩ = some (.int .i64 0) ∧ Y.cell? ⟨b8, 5, none⟩ = some (.int .i64 0) ∧ Y.cell? ⟨b8, 6, none⟩ = some (.int .i64 0) ∧ Y.cell? ⟨b8, 7, none⟩ = some (.string ⟨#[]⟩) ∧ Y.cell? ⟨b8, 8, none⟩ = some (.int .i64 0) ∧ Y.cell? ⟨b8, 9, none⟩ = some (.pointer none))) Y from fun Y hb => ⟨⟨(hb.cell (p := ⟨b7, 0, none⟩) (lt_blk h7)).trans (cell_of_row _ _ 0 _ _ _ h7), (hb.cell (p := ⟨b7, 1, none⟩) (lt_blk h7)).trans (cell_of_row _ _ 1 _ _ _ h7), (hb.cell (p := ⟨b7, 2, none⟩) (lt_blk h7)).trans (cell_of_row _ _ 2 _ _ _ h7), (hb.cell (p := ⟨b7, 3, none⟩) (lt_blk h7)).trans (cell_of_row _ _ 3 _ _ _ h7), (hb.cell (p := ⟨b7, 4, none⟩) (lt_blk h7)).trans (cell_of_row _ _ 4 _ _ _ h7), (hb.cell (p := ⟨b7, 5, none⟩) (lt_blk h7)).trans (cell_of_row _ _ 5 _ _ _ h7), (hb.cell (p := ⟨b7, 6, none⟩) (lt_blk h7)).trans (cell_of_row _ _ 6 _ _ _ h7), (hb.cell (p := ⟨b7, 7, none⟩) (lt_blk h7)).trans (cell_of_row _ _ 7 _ _ _ h7), (hb.cell (p := ⟨b7, 8, none⟩) (lt_blk h7)).trans (cell_of_row _ _ 8 _ _ _ h7), (hb.cell (p := ⟨b7, 9, none⟩) (lt_blk h7)).trans (cell_of_row _ _ 9 _ _ _ h7)⟩, ⟨(hb.cell (p := ⟨b8, 0, none⟩) (lt_blk h8)).trans (cell_of_row _ _ 0 _ _ _ h8), (hb.cell (p := ⟨b8, 1, none⟩) (lt_blk h8)).trans (cell_of_row _ _ 1 _ _ _ h8), (hb.cell (p := ⟨b8, 2, none⟩) (lt_blk h8)).trans (cell_of_row _ _ 2 _ _ _ h8), (hb.cell (p := ⟨b8, 3, none⟩) (lt_blk h8)).trans (cell_of_row _ _ 3 _ _ _ h8), (hb.cell (p := ⟨b8, 4, none⟩) (lt_blk h8)).trans (cell_of_row _ _ 4 _ _ _ h8), (hb.cell (p := ⟨b8, 5, none⟩) (lt_blk h8)).trans (cell_of_row _ _ 5 _ _ _ h8), (hb.cell (p := ⟨b8, 6, none⟩) (lt_blk h8)).trans (cell_of_row _ _ 6 _ _ _ h8), (hb.cell (p := ⟨b8, 7, none⟩) (lt_blk h8)).trans (cell_of_row _ _ 7 _ _ _ h8), (hb.cell (p := ⟨b8, 8, none⟩) (lt_blk h8)).trans (cell_of_row _ _ 8 _ _ _ h8), (hb.cell (p := ⟨b8, 9, none⟩) (lt_blk h8)).trans (cell_of_row _ _ 9 _ _ _ h8)⟩⟩)
  have x2 : V.cell? ⟨w.heap.size + 1, 2, none⟩ = some (.int .i64 1) := cell_of_row _ _ 2 _ _ _ ((hb.block _ (lt_blk HX1.out)).trans HX1.out)
  have HBW := hid (HBB.out.trans (hb.mono HBB.out.size))
  clear hb h7 h8
  have M0 := MS.out V (Below.refl _ _)
  try dsimp only at M0
  go_upto_region 9 with (first
    | (go_at_call 73; refine (undef_0 V).mono ?_; rintro e w1 ⟨rfl, l1⟩; have L1 := hid l1; have M1 := MS.out w1 l1; try dsimp only at M1; clear l1)
    | (go_at_call 73; refine (undef_1 w1).mono ?_; rintro e w2 ⟨rfl, l2⟩; have L2 := hid (L1.out.trans (l2.mono L1.out.size)); clear l2))
  have M2 := MS.out w2 L2.out
  try dsimp only at M2
  clear M0 M1 x2
  go_upto_region 10 with (fail)
  have HD := hid (show Below V.heap.size V w2.drew from L2.out.drew)
  refine wp_region_held_drew (S := (fun Y => (Y.cell? ⟨b7, 0, none⟩ = some (.bool false) ∧ Y.cell? ⟨b7, 1, none⟩ = some (.bool false) ∧ Y.cell? ⟨b7, 2, none⟩ = some (.bool false) ∧ Y.cell? ⟨b7, 3, none⟩ = some (.string ⟨#[]⟩) ∧ Y.cell? ⟨b7, 4, none⟩ = some (.int .i64 0) ∧ Y.cell? ⟨b7, 5, none⟩ = some (.int .i64 2) ∧ Y.cell? ⟨b7, 6, none⟩ = some (.int .i64 2) ∧ Y.cell? ⟨b7, 7, none⟩ = some (.string ⟨#[122, 111, 110, 101]⟩) ∧ Y.cell? ⟨b7, 8, none⟩ = some (.int .i64 0) ∧ Y.cell? ⟨b7, 9, none⟩ = some (.pointer none)) ∧ (Y.cell? ⟨b8, 0, none⟩ = some (.bool true) ∧ Y.cell? ⟨b8, 1, none⟩ = some (.bool true) ∧ Y.cell? ⟨b8, 2, none⟩ = some (.bool true) ∧ Y.cell? ⟨b8, 3, none⟩ = some (.string ⟨#[97]⟩) ∧ Y.cell? ⟨b8, 4, none⟩ = some (.int .i64 0) ∧ Y.cell? ⟨b8, 5, none⟩ = some (.int .i64 0) ∧ Y.cell? ⟨b8, 6, none⟩ = some (.int .i64 0) ∧ Y.cell? ⟨b8, 7, none⟩ = some (.string ⟨#[]⟩) ∧ Y.cell? ⟨b8, 8, none⟩ = some (.int .i64 0) ∧ Y.cell? ⟨b8, 9, none⟩ = some (.pointer none)))) (by kernel_rfl) ?_ (fun hHeld => ?_)
  · exact MS.out _ HD.out
  generalize w2.drew = W0 at *
  clear M2
  refine wpAnyH_take (i := 0) (oi := { dst := some 53, op := Op.load 130 (Operand.tmp 7), type := 130, pos := "conditions.go:75", after := #[], guard := none }) (v := ?_) rfl (by kernel_rfl) (by kernel_rfl) (by kernel_rfl) (fun _ _ _ h => h) (Or.inl ⟨by rfl, ?_⟩) (by assumption) ?_
  rotate_left
  · (intro w hSw; (try dsimp only at hSw); go_simp; try with_reducible rfl)
  try simp only [Act.put, List.setIfInBounds_toArray, List.set_cons_zero, List.set_cons_succ]
  refine wpAnyH_take (i := 1) (oi := { dst := some 54, op := Op.move (Operand.tmp 9), type := 46, pos := "conditions.go:75", after := #[], guard := none }) (v := ?_) rfl (by kernel_rfl) (by kernel_rfl) (by kernel_rfl) (fun _ _ _ h => h) (Or.inl ⟨by rfl, ?_⟩) (by assumption) ?_
  rotate_left
  · (intro w hSw; (try dsimp only at hSw); go_simp; try with_reducible rfl)
  try simp only [Act.put, List.setIfInBounds_toArray, List.set_cons_zero, List.set_cons_succ]
  refine wpAnyH_take (i := 2) (oi := { dst := some 55, op := Op.load 130 (Operand.tmp 8), type := 130, pos := "conditions.go:75", after := #[], guard := none }) (v := ?_) rfl (by kernel_rfl) (by kernel_rfl) (by kernel_rfl) (fun _ _ _ h => h) (Or.inl ⟨by rfl, ?_⟩) (by assumption) ?_
  rotate_left
  · (intro w hSw; (try dsimp only at hSw); go_simp; try with_reducible rfl)
  try simp only [Act.put, List.setIfInBounds_toArray, List.set_cons_zero, List.set_cons_succ]
  refine wpAnyH_take (i := 4) (oi := { dst := some 57, op := Op.fieldAddr 130 (Operand.tmp 7) 6, type := 0, pos := "conditions.go:75", after := #[], guard := none }) (v := ?_) rfl (by kernel_rfl) (by kernel_rfl) (by kernel_rfl) (fun _ _ _ h => h) (Or.inl ⟨by rfl, ?_⟩) (by assumption) ?_
  rotate_left
  · (intro w hSw; (try dsimp only at hSw); go_simp; try with_reducible rfl)
  try simp only [Act.put, List.setIfInBounds_toArray, List.set_cons_zero, List.set_cons_succ]
  refine wpAnyH_take (i := 5) (oi := { dst := some 58, op := Op.load 55 (Operand.tmp 57), type := 55, pos := "conditions.go:75", after := #[{ on := 4, ground := Ground.data }], guard := none }) (v := ?_) rfl (by kernel_rfl) (by kernel_rfl) (by kernel_rfl) (fun _ _ _ h => h) (Or.inl ⟨by rfl, ?_⟩) (by assumption) ?_
  rotate_left
  · (intro w hSw; (try dsimp only at hSw); go_simp; try with_reducible rfl)
  try simp only [Act.put, List.setIfInBounds_toArray, List.set_cons_zero, List.set_cons_succ]
  refine wpAnyH_take (i := 6) (oi := { dst := some 59, op := Op.move (Operand.tmp 2), type := 81, pos := "conditions.go:75", after := #[], guard := none }) (v := ?_) rfl (by kernel_rfl) (by kernel_rfl) (by kernel_rfl) (fun _ _ _ h => h) (Or.inl ⟨by rfl, ?_⟩) (by assumption) ?_
  rotate_left
  · (intro w hSw; (try dsimp only at hSw); go_simp; try with_reducible rfl)
  try simp only [Act.put, List.setIfInBounds_toArray, List.set_cons_zero, List.set_cons_succ]
  refine wpAnyH_ready (rs := [3]) (by kernel_rfl) (by simp) ?_
  refine AllReadyH.cons (o := { dst := some 56, op := Op.call { callee := Callee.value (Operand.func 74), args := #[Operand.tmp 53, Operand.tmp 54, Operand.tmp 55], argTypes := #[130, 46, 130] }, type := 49, pos := "conditions.go:75", after := #[{ on := 0, ground := Ground.data }, { on := 1, ground := Ground.data }, { on := 2, ground := Ground.data }], guard := none }) rfl (fun K hK => ?_) AllReadyH.nil
  go_simp
  refine (against9 W0).mono ?_
  rintro e w3 ⟨g, rfl, hg, hge, l3⟩
  have L3 := hid (HD.out.trans (l3.mono HD.out.size))
  have HG := hid hg
  clear l3 hg
  refine hK.out _ _ ?_ (fun hHeld => ?_)
  · exact MS.out _ L3.out
  clear hK K hHeld
  try simp only [Act.put, List.setIfInBounds_toArray, List.set_cons_zero, List.set_cons_succ]
  have hHeld := MS.out w3 L3.out
  refine wpAnyH_ready (rs := [7]) (by kernel_rfl) (by simp) ?_
  refine AllReadyH.cons (o := { dst := some 60, op := Op.call { callee := Callee.value (Operand.func 44), args := #[Operand.tmp 56, Operand.tmp 58, Operand.tmp 59], argTypes := #[49, 55, 81] }, type := 55, pos := "conditions.go:75", after := #[{ on := 3, ground := Ground.data }, { on := 5, ground := Ground.data }, { on := 6, ground := Ground.data }, { on := 3, ground := Ground.chain }], guard := none }) rfl (fun K hK => ?_) AllReadyH.nil
  go_simp
  refine (literal9 g w3).mono ?_
  rintro e w4 ⟨b, rfl, hp, hbe, l4⟩
  have L4 := hid (L3.out.trans (l4.mono L3.out.size))
  have HG4 := hid ((l4.block _ (lt_blk HG.out)).trans HG.out)
  have HP := hid hp
  have HBE := hid (show w.heap.size ≤ b by have h1 := HBW.out.size; have h2 := L3.out.size; omega)
  clear l4 hp hbe
  refine hK.out _ _ ?_ (fun hHeld => ?_)
  · exact MS.out _ L4.out
  clear hK K hHeld
  try simp only [Act.put, List.setIfInBounds_toArray, List.set_cons_zero, List.set_cons_succ]
  have hHeld := MS.out w4 L4.out
  refine wpAnyH_ready (rs := [8]) (by kernel_rfl) (by simp) ?_
  refine AllReadyH.cons (o := { dst := some 6, op := Op.assign (Operand.tmp 60), type := 55, pos := "conditions.go:75", after := #[{ on := 7, ground := Ground.data }, { on := 7, ground := Ground.chain }, { on := 0, ground := Ground.phase }, { on := 1, ground := Ground.phase }, { on := 2, ground := Ground.phase }, { on := 3, ground := Ground.phase }, { on := 4, ground := Ground.phase }, { on := 5, ground := Ground.phase }, { on := 6, ground := Ground.phase }, { on := 7, ground := Ground.phase }], guard := none }) rfl (fun K hK => ?_) AllReadyH.nil
  go_simp
  refine hK.out _ _ ?_ (fun hHeld => ?_)
  · exact MS.out _ L4.out
  clear hK K hHeld
  try simp only [Act.put, List.setIfInBounds_toArray, List.set_cons_zero, List.set_cons_succ]
  refine wpAnyH_done (by kernel_rfl) ?_ _
  clear hHeld
  go_wp2_with fail
  go_ret
  exact ⟨b, g, rfl, HP.out, HG4.out, HBE.out, HBW.out.trans (L4.out.mono HBW.out.size)⟩
end Go.Proofs.YtimmjikpcekffaaGreatDoor.L
namespace Go.Proofs.YtimmjikpcekffaaGreatDoor.L
open Go.RowKit Go.Shelf
set_option linter.unusedVariables false
set_option linter.unusedSimpArgs false
set_option maxHeartbeats 4000000 in
set_option maxRecDepth 100000 in
theorem made_0 (gp : Nat) (sa pa : Option Addr) (sn sc pn pc : Nat) (w : World) : Calls Tryz.prog 28 #[.agg #[.slice (some ⟨gp, 0, none⟩) 4 4, .slice sa sn sc, .slice pa pn pc], .agg #[.int .i64 14, .string ⟨#[122, 111, 110, 101]⟩, .int .i64 2, .slice none 0 0], .int .i64 1] w fun e w' => e = .returned (.pointer none) ∧ Below w.heap.size w w' := by
  have HB0 := hid (belowA w (.cells #[.slice (some ⟨gp, 0, none⟩) 4 4, .slice sa sn sc, .slice pa pn pc] 79))
  have HX0 := hid (heap_alloc_new w (.cells #[.slice (some ⟨gp, 0, none⟩) 4 4, .slice sa sn sc, .slice pa pn pc] 79))
  have HB1 := hid (belowA (w.alloc (.cells #[.slice (some ⟨gp, 0, none⟩) 4 4, .slice sa sn sc, .slice pa pn pc] 79)) (.cells #[.int .i64 14, .string ⟨#[122, 111, 110, 101]⟩, .int .i64 2, .slice none 0 0] 31))
  have HX1 := hid (heap_alloc_new (w.alloc (.cells #[.slice (some ⟨gp, 0, none⟩) 4 4, .slice sa sn sc, .slice pa pn pc] 79)) (.cells #[.int .i64 14, .string ⟨#[122, 111, 110, 101]⟩, .int .i64 2, .slice none 0 0] 31))
  have HS1 := hid (show (w.alloc (.cells #[.slice (some ⟨gp, 0, none⟩) 4 4, .slice sa sn sc, .slice pa pn pc] 79)).heap.size = w.heap.size + 1 by simp)
  rw [HS1.out] at HX1
  have HBB := hid (bchS HB0.out HB1.out)
  have HM := hid ((HB1.out.block _ (lt_blk HX0.out)).trans HX0.out)
  go_enter Tryz.func28, Tryz.ntmps28
  go_wp2_with fail
  go_ret
  exact ⟨rfl, HBB.out⟩
set_option maxHeartbeats 4000000 in
set_option maxRecDepth 100000 in
theorem made_1 (gp : Nat) (sa pa : Option Addr) (sn sc pn pc : Nat) (w : World) : Calls Tryz.prog 28 #[.agg #[.slice (some ⟨gp, 0, none⟩) 4 4, .slice sa sn sc, .slice pa pn pc], .agg #[.int .i64 11, .string ⟨#[97]⟩, .int .i64 0, .slice none 0 0], .int .i64 1] w fun e w' => e = .returned (.pointer none) ∧ Below w.heap.size w w' := by
  have HB0 := hid (belowA w (.cells #[.slice (some ⟨gp, 0, none⟩) 4 4, .slice sa sn sc, .slice pa pn pc] 79))
  have HX0 := hid (heap_alloc_new w (.cells #[.slice (some ⟨gp, 0, none⟩) 4 4, .slice sa sn sc, .slice pa pn pc] 79))
  have HB1 := hid (belowA (w.alloc (.cells #[.slice (some ⟨gp, 0, none⟩) 4 4, .slice sa sn sc, .slice pa pn pc] 79)) (.cells #[.int .i64 11, .string ⟨#[97]⟩, .int .i64 0, .slice none 0 0] 31))
  have HX1 := hid (heap_alloc_new (w.alloc (.cells #[.slice (some ⟨gp, 0, none⟩) 4 4, .slice sa sn sc, .slice pa pn pc] 79)) (.cells #[.int .i64 11, .string ⟨#[97]⟩, .int .i64 0, .slice none 0 0] 31))
  have HS1 := hid (show (w.alloc (.cells #[.slice (some ⟨gp, 0, none⟩) 4 4, .slice sa sn sc, .slice pa pn pc] 79)).heap.size = w.heap.size + 1 by simp)
  rw [HS1.out] at HX1
  have HBB := hid (bchS HB0.out HB1.out)
  have HM := hid ((HB1.out.block _ (lt_blk HX0.out)).trans HX0.out)
  go_enter Tryz.func28, Tryz.ntmps28
  go_wp2_with fail
  go_ret
  exact ⟨rfl, HBB.out⟩
set_option maxHeartbeats 4000000 in
set_option maxRecDepth 100000 in
theorem made_2 (gp k1 k2 : Nat) (sa pa : Option Addr) (sn sc pn pc : Nat) (w : World) (h : Fy w gp k1 k2) : Calls Tryz.prog 28 #[.agg #[.slice (some ⟨gp, 0, none⟩) 4 4, .slice sa sn sc, .slice pa pn pc], .agg #[.int .i64 6, .string ⟨#[]⟩, .int .i64 1, .slice (some ⟨k1, 0, none⟩) 2 2], .int .i64 1] w fun e w' => ∃ b g, e = .returned (.pointer (some ⟨b, 0, none⟩)) ∧ w'.heap[b]? = some (.cells #[.int .i64 5, .bool true, .int .i64 1, .int .i64 2, .int .i64 2, .string ⟨#[122, 111, 110, 101]⟩, .int .i64 0, .int .i64 0, .int .i64 0, .slice (some ⟨g, 0, none⟩) 1 1, .slice none 0 0, .int .i64 0, .int .i64 0, .string ⟨#[]⟩, .int .i64 0, .int .i64 0, .string ⟨#[]⟩, .int .i64 0, .slice none 0 0, .pointer none] 95 (0, 0)) ∧ w'.heap[g]? = some (.cells #[.string ⟨#[97]⟩] 9 (0, 0)) ∧ w.heap.size ≤ b ∧ Below w.heap.size w w' := by
  have HB0 := hid (belowA w (.cells #[.slice (some ⟨gp, 0, none⟩) 4 4, .slice sa sn sc, .slice pa pn pc] 79))
  have HX0 := hid (heap_alloc_new w (.cells #[.slice (some ⟨gp, 0, none⟩) 4 4, .slice sa sn sc, .slice pa pn pc] 79))
  have HB1 := hid (belowA (w.alloc (.cells #[.slice (some ⟨gp, 0, none⟩) 4 4, .slice sa sn sc, .slice pa pn pc] 79)) (.cells #[.int .i64 6, .string ⟨#[]⟩, .int .i64 1, .slice (some ⟨k1, 0, none⟩) 2 2] 31))
  have HX1 := hid (heap_alloc_new (w.alloc (.cells #[.slice (some ⟨gp, 0, none⟩) 4 4, .slice sa sn sc, .slice pa pn pc] 79)) (.cells #[.int .i64 6, .string ⟨#[]⟩, .int .i64 1, .slice (some ⟨k1, 0, none⟩) 2 2] 31))
  have HS1 := hid (show (w.alloc (.cells #[.slice (some ⟨gp, 0, none⟩) 4 4, .slice sa sn sc, .slice pa pn pc] 79)).heap.size = w.heap.size + 1 by simp)
  rw [HS1.out] at HX1
  have HBB := hid (bchS HB0.out HB1.out)
  have HM := hid ((HB1.out.block _ (lt_blk HX0.out)).trans HX0.out)
  have HF := hid (h.low HBB.out)
  clear h
  go_enter Tryz.func28, Tryz.ntmps28
  go_upto_region 1 with (fail)
  generalize ((w.alloc (.cells #[.slice (some ⟨gp, 0, none⟩) 4 4, .slice sa sn sc, .slice pa pn pc] 79)).alloc (.cells #[.int .i64 6, .string ⟨#[]⟩, .int .i64 1, .slice (some ⟨k1, 0, none⟩) 2 2] 31)) = X at *
  have m0 := cell_of_row _ _ 0 _ _ _ HM.out
  have m1 := cell_of_row _ _ 1 _ _ _ HM.out
  have m2 := cell_of_row _ _ 2 _ _ _ HM.out
  have p0 := cell_of_row _ _ 0 _ _ _ HX1.out
  have p1 := cell_of_row _ _ 1 _ _ _ HX1.out
  have p2 := cell_of_row _ _ 2 _ _ _ HX1.out
  have p3 := cell_of_row _ _ 3 _ _ _ HX1.out
  simp only [List.getElem?_toArray, List.getElem?_cons_succ, List.getElem?_cons_zero] at m0 m1 m2 p0 p1 p2 p3
  go_wp2_with (go_at_call 45; refine (compared9 gp k1 k2 sa pa sn sc pn pc X HF.out).mono ?_; rintro e w1 ⟨b, g, rfl, h1, h2, h3, l1⟩; have H1 := hid h1; have H2 := hid h2; have H3 := hid h3; have L1 := hid (HBB.out.trans (l1.mono HBB.out.size)); clear h1 h2 h3 l1)
  go_ret
  exact ⟨b, g, rfl, H1.out, H2.out, Nat.le_trans HBB.out.size H3.out, L1.out⟩
set_option maxHeartbeats 4000000 in
set_option maxRecDepth 100000 in
theorem made_3 (gp k1 k2 gq b : Nat) (sa : Option Addr) (sn sc : Nat) (w : World) (h : Fy w gp k1 k2) (hq : w.cell? ⟨gq, 2, none⟩ = some (.pointer (some ⟨b, 0, none⟩))) (hql : gq < w.heap.size) : Calls Tryz.prog 28 #[.agg #[.slice (some ⟨gp, 0, none⟩) 4 4, .slice sa sn sc, .slice (some ⟨gq, 0, none⟩) 4 4], .agg #[.int .i64 3, .string ⟨#[]⟩, .int .i64 0, .slice (some ⟨k2, 0, none⟩) 1 1], .int .i64 0] w fun e w' => e = .returned (.pointer (some ⟨b, 0, none⟩)) ∧ Below w.heap.size w w' := by
  have HB0 := hid (belowA w (.cells #[.slice (some ⟨gp, 0, none⟩) 4 4, .slice sa sn sc, .slice (some ⟨gq, 0, none⟩) 4 4] 79))
  have HX0 := hid (heap_alloc_new w (.cells #[.slice (some ⟨gp, 0, none⟩) 4 4, .slice sa sn sc, .slice (some ⟨gq, 0, none⟩) 4 4] 79))
  have HB1 := hid (belowA (w.alloc (.cells #[.slice (some ⟨gp, 0, none⟩) 4 4, .slice sa sn sc, .slice (some ⟨gq, 0, none⟩) 4 4] 79)) (.cells #[.int .i64 3, .string ⟨#[]⟩, .int .i64 0, .slice (some ⟨k2, 0, none⟩) 1 1] 31))
  have HX1 := hid (heap_alloc_new (w.alloc (.cells #[.slice (some ⟨gp, 0, none⟩) 4 4, .slice sa sn sc, .slice (some ⟨gq, 0, none⟩) 4 4] 79)) (.cells #[.int .i64 3, .string ⟨#[]⟩, .int .i64 0, .slice (some ⟨k2, 0, none⟩) 1 1] 31))
  have HS1 := hid (show (w.alloc (.cells #[.slice (some ⟨gp, 0, none⟩) 4 4, .slice sa sn sc, .slice (some ⟨gq, 0, none⟩) 4 4] 79)).heap.size = w.heap.size + 1 by simp)
  rw [HS1.out] at HX1
  have HBB := hid (bchS HB0.out HB1.out)
  have HM := hid ((HB1.out.block _ (lt_blk HX0.out)).trans HX0.out)
  have HF := hid (h.low HBB.out)
  have q2 := (HBB.out.cell (p := ⟨gq, 2, none⟩) hql).trans hq
  clear h hq
  go_enter Tryz.func28, Tryz.ntmps28
  go_upto_region 1 with (fail)
  generalize ((w.alloc (.cells #[.slice (some ⟨gp, 0, none⟩) 4 4, .slice sa sn sc, .slice (some ⟨gq, 0, none⟩) 4 4] 79)).alloc (.cells #[.int .i64 3, .string ⟨#[]⟩, .int .i64 0, .slice (some ⟨k2, 0, none⟩) 1 1] 31)) = X at *
  have m2 := cell_of_row _ _ 2 _ _ _ HM.out
  have p0 := cell_of_row _ _ 0 _ _ _ HX1.out
  have p3 := cell_of_row _ _ 3 _ _ _ HX1.out
  have k0 := cell_of_row _ _ 0 _ _ _ HF.out.one
  simp only [List.getElem?_toArray, List.getElem?_cons_succ, List.getElem?_cons_zero] at m2 p0 p3 k0
  go_wp2_with fail
  go_quiet (fail)
  go_wp2_with fail
  go_ret
  exact ⟨rfl, below_drewN HBB.out nq⟩
end Go.Proofs.YtimmjikpcekffaaGreatDoor.L
