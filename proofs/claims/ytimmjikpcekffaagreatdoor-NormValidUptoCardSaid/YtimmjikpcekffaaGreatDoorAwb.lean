import Derived.Test.YtimmjikpcekffaaGreatDoorAwa
import Derived.Laws.OwnMore
namespace Go.Proofs.YtimmjikpcekffaaGreatDoor.L
open Go.RowKit Go.Shelf
set_option linter.unusedVariables false
set_option linter.unusedSimpArgs false
theorem mid_get {pre mid post : List Value} {j : Nat} {v : Value} (h : mid[j]? = some v) : (pre ++ (mid ++ post)).toArray[pre.length + j]? = some v := by
  rw [List.getElem?_toArray, List.getElem?_append_right (Nat.le_add_right _ _), Nat.add_sub_cancel_left, List.getElem?_append_left]
  · exact h
  · rcases List.getElem?_eq_some_iff.1 h with ⟨h1, _⟩; exact h1
theorem mid_get0 {mid : List Value} {j : Nat} {v : Value} (h : mid[j]? = some v) : mid.toArray[j]? = some v := by
  rw [List.getElem?_toArray]; exact h
theorem of_one {u : Value} {g : Nat} (h : u ∈ [.int .i64 5, .bool true, .int .i64 1, .int .i64 2, .int .i64 2, .string ⟨#[122, 111, 110, 101]⟩, .int .i64 0, .int .i64 0, .int .i64 0, .slice (some ⟨g, 0, none⟩) 1 1, .slice none 0 0, .int .i64 0, .int .i64 0, .string ⟨#[]⟩, .int .i64 0, .int .i64 0, .string ⟨#[]⟩, .int .i64 0, .slice none 0 0]) : u.oneCell' = true := by
  simp only [List.mem_cons, List.not_mem_nil, or_false] at h
  rcases h with rfl | rfl | rfl | rfl | rfl | rfl | rfl | rfl | rfl | rfl | rfl | rfl | rfl | rfl | rfl | rfl | rfl | rfl | rfl <;> rfl
theorem infoP19 : (Tryz.prog.info? 51).map (fun i => (i.zero, i.size, i.bytes)) = some (some (.agg #[.int .i64 0, .bool false, .int .i64 0, .int .i64 0, .int .i64 0, .string ⟨#[]⟩, .int .i64 0, .int .i64 0, .int .i64 0, .slice none 0 0, .slice none 0 0, .int .i64 0, .int .i64 0, .string ⟨#[]⟩, .int .i64 0, .int .i64 0, .string ⟨#[]⟩, .int .i64 0, .slice none 0 0]), 19, 224) := by kernel_rfl
/-- What put leaves. -/
def PutR (wb g : Nat) (w w' : World) : Prop := ∃ r cap cur, w'.heap[wb]? = some (.cells #[.slice (some ⟨r, 0, none⟩) 1 cap, .slice none 0 0] 74 (0, 0)) ∧ w'.heap[r]? = some (.cells cur 51 (0, 0)) ∧ cur.toList.take 19 = [.int .i64 5, .bool true, .int .i64 1, .int .i64 2, .int .i64 2, .string ⟨#[122, 111, 110, 101]⟩, .int .i64 0, .int .i64 0, .int .i64 0, .slice (some ⟨g, 0, none⟩) 1 1, .slice none 0 0, .int .i64 0, .int .i64 0, .string ⟨#[]⟩, .int .i64 0, .int .i64 0, .string ⟨#[]⟩, .int .i64 0, .slice none 0 0] ∧ w.heap.size ≤ r ∧ But wb w w'
set_option maxHeartbeats 16000000 in
set_option maxRecDepth 100000 in
theorem put9 (wb b g : Nat) (w : World) (hw : w.heap[wb]? = some (.cells #[.slice none 0 0, .slice none 0 0] 74 (0, 0))) (hp : w.heap[b]? = some (.cells #[.int .i64 5, .bool true, .int .i64 1, .int .i64 2, .int .i64 2, .string ⟨#[122, 111, 110, 101]⟩, .int .i64 0, .int .i64 0, .int .i64 0, .slice (some ⟨g, 0, none⟩) 1 1, .slice none 0 0, .int .i64 0, .int .i64 0, .string ⟨#[]⟩, .int .i64 0, .int .i64 0, .string ⟨#[]⟩, .int .i64 0, .slice none 0 0, .pointer none] 95 (0, 0))) :
    Calls Tryz.prog 26 #[.pointer (some ⟨wb, 0, none⟩), .pointer (some ⟨b, 0, none⟩)] w fun e w' => e = .returned (.int .i64 0) ∧ PutR wb g w w' := by
  obtain ⟨i9, hi, hz0, hz1, hz2⟩ := info_parts infoP19
  have HW := hid hw
  have HP := hid hp
  have MS := hid (show ∀ Y, Below w.heap.size w Y → (fun Y => Y.cell? ⟨b, 0, none⟩ = some (.int .i64 5) ∧ Y.cell? ⟨b, 1, none⟩ = some (.bool true) ∧ Hid (Y.heap[b]? = some (.cells #[.int .i64 5, .bool true, .int .i64 1, .int .i64 2, .int .i64 2, .string ⟨#[122, 111, 110, 101]⟩, .int .i64 0, .int .i64 0, .int .i64 0, .slice (some ⟨g, 0, none⟩) 1 1, .slice none 0 0, .int .i64 0, .int .i64 0, .string ⟨#[]⟩, .int .i64 0, .int .i64 0, .string ⟨#[]⟩, .int .i64 0, .slice none 0 0, .pointer none] 95 (0, 0)))) Y from fun Y hb => ⟨(hb.cell (p := ⟨b, 0, none⟩) (lt_blk hp)).trans (cell_of_row _ _ 0 _ _ _ hp), (hb.cell (p := ⟨b, 1, none⟩) (lt_blk hp)).trans (cell_of_row _ _ 1 _ _ _ hp), hid ((hb.block _ (lt_blk hp)).trans hp)⟩)
  have HB0 := hid (show Below w.heap.size w w.drew from (Below.refl _ _).drew)
  clear hw hp
  go_enter Tryz.func26, Tryz.ntmps26
  go_upto_region 1 with (fail)
  refine wp_region_held_drew (S := (fun Y => Y.cell? ⟨b, 0, none⟩ = some (.int .i64 5) ∧ Y.cell? ⟨b, 1, none⟩ = some (.bool true) ∧ Hid (Y.heap[b]? = some (.cells #[.int .i64 5, .bool true, .int .i64 1, .int .i64 2, .int .i64 2, .string ⟨#[122, 111, 110, 101]⟩, .int .i64 0, .int .i64 0, .int .i64 0, .slice (some ⟨g, 0, none⟩) 1 1, .slice none 0 0, .int .i64 0, .int .i64 0, .string ⟨#[]⟩, .int .i64 0, .int .i64 0, .string ⟨#[]⟩, .int .i64 0, .slice none 0 0, .pointer none] 95 (0, 0))))) (by kernel_rfl) ?_ (fun hHeld => ?_)
  · exact MS.out _ HB0.out
  generalize w.drew = X at *
  refine wpAnyH_take (i := 0) (oi := { dst := some 8, op := Op.move (Operand.tmp 1), type := 55, pos := "written.go:26", after := #[], guard := none }) (v := ?_) rfl (by kernel_rfl) (by kernel_rfl) (by kernel_rfl) (fun _ _ _ h => h) (Or.inl ⟨by rfl, ?_⟩) (by assumption) ?_
  rotate_left
  · (intro w hSw; (try dsimp only at hSw); go_simp; try with_reducible rfl)
  try simp only [Act.put, List.setIfInBounds_toArray, List.set_cons_zero, List.set_cons_succ]
  refine wpAnyH_take (i := 1) (oi := { dst := some 9, op := Op.nilCheck (Operand.tmp 8), type := 0, pos := "written.go:26", after := #[{ on := 0, ground := Ground.data }], guard := none }) (v := ?_) rfl (by kernel_rfl) (by kernel_rfl) (by kernel_rfl) (fun _ _ _ h => h) (Or.inl ⟨by rfl, ?_⟩) (by assumption) ?_
  rotate_left
  · (intro w hSw; (try dsimp only at hSw); go_simp; try with_reducible rfl)
  try simp only [Act.put, List.setIfInBounds_toArray, List.set_cons_zero, List.set_cons_succ]
  refine wpAnyH_take (i := 2) (oi := { dst := some 10, op := Op.fieldAddr 95 (Operand.tmp 9) 0, type := 0, pos := "written.go:26", after := #[{ on := 1, ground := Ground.data }], guard := none }) (v := ?_) rfl (by kernel_rfl) (by kernel_rfl) (by kernel_rfl) (fun _ _ _ h => h) (Or.inl ⟨by rfl, ?_⟩) (by assumption) ?_
  rotate_left
  · (intro w hSw; (try dsimp only at hSw); go_simp; try with_reducible rfl)
  try simp only [Act.put, List.setIfInBounds_toArray, List.set_cons_zero, List.set_cons_succ]
  refine wpAnyH_take (i := 3) (oi := { dst := some 11, op := Op.load 41 (Operand.tmp 10), type := 41, pos := "written.go:26", after := #[{ on := 2, ground := Ground.data }], guard := none }) (v := ?_) rfl (by kernel_rfl) (by kernel_rfl) (by kernel_rfl) (fun _ _ _ h => h) (Or.inl ⟨by rfl, ?_⟩) (by assumption) ?_
  rotate_left
  · (intro w hSw; (try dsimp only at hSw); go_simp; try with_reducible rfl)
  try simp only [Act.put, List.setIfInBounds_toArray, List.set_cons_zero, List.set_cons_succ]
  refine wpAnyH_take (i := 4) (oi := { dst := some 12, op := Op.move (Operand.tmp 1), type := 55, pos := "written.go:26", after := #[], guard := none }) (v := ?_) rfl (by kernel_rfl) (by kernel_rfl) (by kernel_rfl) (fun _ _ _ h => h) (Or.inl ⟨by rfl, ?_⟩) (by assumption) ?_
  rotate_left
  · (intro w hSw; (try dsimp only at hSw); go_simp; try with_reducible rfl)
  try simp only [Act.put, List.setIfInBounds_toArray, List.set_cons_zero, List.set_cons_succ]
  refine wpAnyH_take (i := 5) (oi := { dst := some 13, op := Op.nilCheck (Operand.tmp 12), type := 0, pos := "written.go:26", after := #[{ on := 4, ground := Ground.data }], guard := none }) (v := ?_) rfl (by kernel_rfl) (by kernel_rfl) (by kernel_rfl) (fun _ _ _ h => h) (Or.inl ⟨by rfl, ?_⟩) (by assumption) ?_
  rotate_left
  · (intro w hSw; (try dsimp only at hSw); go_simp; try with_reducible rfl)
  try simp only [Act.put, List.setIfInBounds_toArray, List.set_cons_zero, List.set_cons_succ]
  refine wpAnyH_take (i := 6) (oi := { dst := some 14, op := Op.fieldAddr 95 (Operand.tmp 13) 1, type := 0, pos := "written.go:26", after := #[{ on := 5, ground := Ground.data }], guard := none }) (v := ?_) rfl (by kernel_rfl) (by kernel_rfl) (by kernel_rfl) (fun _ _ _ h => h) (Or.inl ⟨by rfl, ?_⟩) (by assumption) ?_
  rotate_left
  · (intro w hSw; (try dsimp only at hSw); go_simp; try with_reducible rfl)
  try simp only [Act.put, List.setIfInBounds_toArray, List.set_cons_zero, List.set_cons_succ]
  refine wpAnyH_take (i := 7) (oi := { dst := some 15, op := Op.load 4 (Operand.tmp 14), type := 4, pos := "written.go:26", after := #[{ on := 6, ground := Ground.data }], guard := none }) (v := ?_) rfl (by kernel_rfl) (by kernel_rfl) (by kernel_rfl) (fun _ _ _ h => h) (Or.inl ⟨by rfl, ?_⟩) (by assumption) ?_
  rotate_left
  · (intro w hSw; (try dsimp only at hSw); go_simp; try with_reducible rfl)
  try simp only [Act.put, List.setIfInBounds_toArray, List.set_cons_zero, List.set_cons_succ]
  refine wpAnyH_take (i := 8) (oi := { dst := some 16, op := Op.move (Operand.tmp 1), type := 55, pos := "written.go:26", after := #[], guard := none }) (v := ?_) rfl (by kernel_rfl) (by kernel_rfl) (by kernel_rfl) (fun _ _ _ h => h) (Or.inl ⟨by rfl, ?_⟩) (by assumption) ?_
  rotate_left
  · (intro w hSw; (try dsimp only at hSw); go_simp; try with_reducible rfl)
  try simp only [Act.put, List.setIfInBounds_toArray, List.set_cons_zero, List.set_cons_succ]
  refine wpAnyH_take (i := 9) (oi := { dst := some 17, op := Op.nilCheck (Operand.tmp 16), type := 0, pos := "written.go:26", after := #[{ on := 8, ground := Ground.data }], guard := none }) (v := ?_) rfl (by kernel_rfl) (by kernel_rfl) (by kernel_rfl) (fun _ _ _ h => h) (Or.inl ⟨by rfl, ?_⟩) (by assumption) ?_
  rotate_left
  · (intro w hSw; (try dsimp only at hSw); go_simp; try with_reducible rfl)
  try simp only [Act.put, List.setIfInBounds_toArray, List.set_cons_zero, List.set_cons_succ]
  refine wpAnyH_take (i := 10) (oi := { dst := some 18, op := Op.fieldAddr 95 (Operand.tmp 17) 2, type := 0, pos := "written.go:26", after := #[{ on := 9, ground := Ground.data }], guard := none }) (v := ?_) rfl (by kernel_rfl) (by kernel_rfl) (by kernel_rfl) (fun _ _ _ h => h) (Or.inl ⟨by rfl, ?_⟩) (by assumption) ?_
  rotate_left
  · (intro w hSw; (try dsimp only at hSw); go_simp; try with_reducible rfl)
  try simp only [Act.put, List.setIfInBounds_toArray, List.set_cons_zero, List.set_cons_succ]
  refine wpAnyH_take (i := 11) (oi := { dst := some 19, op := Op.load 49 (Operand.tmp 18), type := 49, pos := "written.go:26", after := #[{ on := 10, ground := Ground.data }], guard := none }) (v := .agg #[.int .i64 1, .int .i64 2, .int .i64 2, .string ⟨#[122, 111, 110, 101]⟩, .int .i64 0, .int .i64 0, .int .i64 0, .slice (some ⟨g, 0, none⟩) 1 1, .slice none 0 0, .int .i64 0, .int .i64 0, .string ⟨#[]⟩, .int .i64 0, .int .i64 0, .string ⟨#[]⟩, .int .i64 0]) rfl (by kernel_rfl) (by kernel_rfl) (by kernel_rfl) (fun _ _ _ h => h) (yieldsIf_load_mid (by first | rfl | kernel_rfl) 49 _ rfl b 2 rfl [.int .i64 1, .int .i64 2, .int .i64 2, .string ⟨#[122, 111, 110, 101]⟩, .int .i64 0, .int .i64 0, .int .i64 0, .slice (some ⟨g, 0, none⟩) 1 1, .slice none 0 0, .int .i64 0, .int .i64 0, .string ⟨#[]⟩, .int .i64 0, .int .i64 0, .string ⟨#[]⟩, .int .i64 0] _ (fun W hS j v h => (by rw [cell_of_row _ _ (2 + j) _ _ _ hS.2.2.out]; exact mid_get (pre := [.int .i64 5, .bool true]) (mid := [.int .i64 1, .int .i64 2, .int .i64 2, .string ⟨#[122, 111, 110, 101]⟩, .int .i64 0, .int .i64 0, .int .i64 0, .slice (some ⟨g, 0, none⟩) 1 1, .slice none 0 0, .int .i64 0, .int .i64 0, .string ⟨#[]⟩, .int .i64 0, .int .i64 0, .string ⟨#[]⟩, .int .i64 0]) (post := [.slice none 0 0, .pointer none]) h)) Tryz.underlying49 rfl infoLt) (by assumption) ?_
  try simp only [Act.put, List.setIfInBounds_toArray, List.set_cons_zero, List.set_cons_succ]
  refine wpAnyH_take (i := 12) (oi := { dst := some 20, op := Op.build 51 #[(0, Operand.tmp 11), (1, Operand.tmp 15), (2, Operand.tmp 19)], type := 51, pos := "written.go:26", after := #[{ on := 3, ground := Ground.data }, { on := 7, ground := Ground.data }, { on := 11, ground := Ground.data }], guard := none }) (v := ?_) rfl (by kernel_rfl) (by kernel_rfl) (by kernel_rfl) (fun _ _ _ h => h) (Or.inl ⟨by rfl, ?_⟩) (by assumption) ?_
  rotate_left
  · (intro w hSw; (try dsimp only at hSw); go_simp; try with_reducible rfl)
  try simp only [Act.put, List.setIfInBounds_toArray, List.set_cons_zero, List.set_cons_succ]
  refine wpAnyH_ready (rs := [13]) (by kernel_rfl) (by simp) ?_
  refine AllReadyH.cons (o := { dst := some 5, op := Op.alloc 51, type := 0, pos := "written.go:26", after := #[], guard := none }) rfl (fun K hK => ?_) AllReadyH.nil
  go_simp
  refine hK.out _ _ ?_ (fun hHeld => ?_)
  · exact MS.out _ (HB0.out.alloc HB0.out.size _)
  clear hK K hHeld
  try simp only [Act.put, List.setIfInBounds_toArray, List.set_cons_zero, List.set_cons_succ]
  have HB1 := hid (HB0.out.alloc HB0.out.size (.cells #[.int .i64 0, .bool false, .int .i64 0, .int .i64 0, .int .i64 0, .string ⟨#[]⟩, .int .i64 0, .int .i64 0, .int .i64 0, .slice none 0 0, .slice none 0 0, .int .i64 0, .int .i64 0, .string ⟨#[]⟩, .int .i64 0, .int .i64 0, .string ⟨#[]⟩, .int .i64 0, .slice none 0 0] 51))
  have HX1 := hid (heap_alloc_new X (.cells #[.int .i64 0, .bool false, .int .i64 0, .int .i64 0, .int .i64 0, .string ⟨#[]⟩, .int .i64 0, .int .i64 0, .int .i64 0, .slice none 0 0, .slice none 0 0, .int .i64 0, .int .i64 0, .string ⟨#[]⟩, .int .i64 0, .int .i64 0, .string ⟨#[]⟩, .int .i64 0, .slice none 0 0] 51))
  have hge : w.heap.size ≤ X.heap.size := HB0.out.size
  generalize X.alloc (.cells #[.int .i64 0, .bool false, .int .i64 0, .int .i64 0, .int .i64 0, .string ⟨#[]⟩, .int .i64 0, .int .i64 0, .int .i64 0, .slice none 0 0, .slice none 0 0, .int .i64 0, .int .i64 0, .string ⟨#[]⟩, .int .i64 0, .int .i64 0, .string ⟨#[]⟩, .int .i64 0, .slice none 0 0] 51) = Y at *
  generalize X.heap.size = pb at *
  have hHeld := MS.out Y HB1.out
  refine wpAnyH_ready (rs := [14]) (by kernel_rfl) (by simp) ?_
  refine AllReadyH.cons (o := { dst := none, op := Op.store 51 (Operand.tmp 5) (Operand.tmp 20), type := 0, pos := "written.go:26", after := #[{ on := 13, ground := Ground.data }, { on := 12, ground := Ground.data }, { on := 0, ground := Ground.phase }, { on := 1, ground := Ground.phase }, { on := 2, ground := Ground.phase }, { on := 3, ground := Ground.phase }, { on := 4, ground := Ground.phase }, { on := 5, ground := Ground.phase }, { on := 6, ground := Ground.phase }, { on := 7, ground := Ground.phase }, { on := 8, ground := Ground.phase }, { on := 9, ground := Ground.phase }, { on := 10, ground := Ground.phase }, { on := 11, ground := Ground.phase }, { on := 12, ground := Ground.phase }, { on := 13, ground := Ground.phase }], guard := none }) rfl (fun K hK => ?_) AllReadyH.nil
  rw [if_pos (by rfl)]
  refine wp_store_row 51 _ _ rfl pb #[.int .i64 5, .bool true, .int .i64 1, .int .i64 2, .int .i64 2, .string ⟨#[122, 111, 110, 101]⟩, .int .i64 0, .int .i64 0, .int .i64 0, .slice (some ⟨g, 0, none⟩) 1 1, .slice none 0 0, .int .i64 0, .int .i64 0, .string ⟨#[]⟩, .int .i64 0, .int .i64 0, .string ⟨#[]⟩, .int .i64 0, .slice none 0 0] rfl rfl 51 _ HX1.out infoPP rfl (by kernel_rfl) ?_
  refine hK.out _ _ ?_ (fun hHeld => ?_)
  · exact MS.out _ (below_row HB1.out hge _)
  clear hK K hHeld
  try simp only [Act.put, List.setIfInBounds_toArray, List.set_cons_zero, List.set_cons_succ]
  refine wpAnyH_done (by kernel_rfl) ?_ _
  clear hHeld
  have HB2 := hid (below_row HB1.out hge #[.int .i64 5, .bool true, .int .i64 1, .int .i64 2, .int .i64 2, .string ⟨#[122, 111, 110, 101]⟩, .int .i64 0, .int .i64 0, .int .i64 0, .slice (some ⟨g, 0, none⟩) 1 1, .slice none 0 0, .int .i64 0, .int .i64 0, .string ⟨#[]⟩, .int .i64 0, .int .i64 0, .string ⟨#[]⟩, .int .i64 0, .slice none 0 0])
  have HX2 := hid (setRow_heap Y pb _ #[.int .i64 5, .bool true, .int .i64 1, .int .i64 2, .int .i64 2, .string ⟨#[122, 111, 110, 101]⟩, .int .i64 0, .int .i64 0, .int .i64 0, .slice (some ⟨g, 0, none⟩) 1 1, .slice none 0 0, .int .i64 0, .int .i64 0, .string ⟨#[]⟩, .int .i64 0, .int .i64 0, .string ⟨#[]⟩, .int .i64 0, .slice none 0 0] _ _ HX1.out)
  generalize Y.setRow pb #[.int .i64 5, .bool true, .int .i64 1, .int .i64 2, .int .i64 2, .string ⟨#[122, 111, 110, 101]⟩, .int .i64 0, .int .i64 0, .int .i64 0, .slice (some ⟨g, 0, none⟩) 1 1, .slice none 0 0, .int .i64 0, .int .i64 0, .string ⟨#[]⟩, .int .i64 0, .int .i64 0, .string ⟨#[]⟩, .int .i64 0, .slice none 0 0] = V at *
  have s3 := (HB2.out.cell (p := ⟨b, 18, none⟩) (lt_blk HP.out)).trans (cell_of_row _ _ 18 _ _ _ HP.out)
  have s4 := (HB2.out.cell (p := ⟨b, 19, none⟩) (lt_blk HP.out)).trans (cell_of_row _ _ 19 _ _ _ HP.out)
  simp only [List.getElem?_toArray, List.getElem?_cons_succ, List.getElem?_cons_zero] at s3 s4
  go_wp2_with fail
  refine wp_loop_rounds 1 ?_
  rw [rounds_succ]
  go_upto_region 10 with (fail)
  clear s3 s4
  have HWV := hid ((HB2.out.block _ (lt_blk HW.out)).trans HW.out)
  have HNW := hid (show pb ≠ wb from (by have h1 := lt_blk HW.out; omega))
  have MB := hid (show ∀ Z, But wb V Z → (fun Z => Hid (Z.heap[pb]? = some (.cells #[.int .i64 5, .bool true, .int .i64 1, .int .i64 2, .int .i64 2, .string ⟨#[122, 111, 110, 101]⟩, .int .i64 0, .int .i64 0, .int .i64 0, .slice (some ⟨g, 0, none⟩) 1 1, .slice none 0 0, .int .i64 0, .int .i64 0, .string ⟨#[]⟩, .int .i64 0, .int .i64 0, .string ⟨#[]⟩, .int .i64 0, .slice none 0 0] 51 (0, 0)))) Z from fun Z hb => hid ((hb.block pb (lt_blk HX2.out) HNW.out).trans HX2.out))
  have HV0 := hid (show Below V.heap.size V V.drew from (Below.refl _ _).drew)
  refine wp_region_held_drew (S := (fun Z => Hid (Z.heap[pb]? = some (.cells #[.int .i64 5, .bool true, .int .i64 1, .int .i64 2, .int .i64 2, .string ⟨#[122, 111, 110, 101]⟩, .int .i64 0, .int .i64 0, .int .i64 0, .slice (some ⟨g, 0, none⟩) 1 1, .slice none 0 0, .int .i64 0, .int .i64 0, .string ⟨#[]⟩, .int .i64 0, .int .i64 0, .string ⟨#[]⟩, .int .i64 0, .slice none 0 0] 51 (0, 0))))) (by kernel_rfl) ?_ (fun hHeld => ?_)
  · exact MB.out _ (But.of HV0.out)
  generalize V.drew = Z0 at *
  refine wpAnyH_take (i := 0) (oi := { dst := some 66, op := Op.move (Operand.tmp 0), type := 93, pos := "written.go:34", after := #[], guard := none }) (v := ?_) rfl (by kernel_rfl) (by kernel_rfl) (by kernel_rfl) (fun _ _ _ h => h) (Or.inl ⟨by rfl, ?_⟩) (by assumption) ?_
  rotate_left
  · (intro w hSw; (try dsimp only at hSw); go_simp; try with_reducible rfl)
  try simp only [Act.put, List.setIfInBounds_toArray, List.set_cons_zero, List.set_cons_succ]
  refine wpAnyH_take (i := 1) (oi := { dst := some 67, op := Op.move (Operand.tmp 0), type := 93, pos := "written.go:34", after := #[], guard := none }) (v := ?_) rfl (by kernel_rfl) (by kernel_rfl) (by kernel_rfl) (fun _ _ _ h => h) (Or.inl ⟨by rfl, ?_⟩) (by assumption) ?_
  rotate_left
  · (intro w hSw; (try dsimp only at hSw); go_simp; try with_reducible rfl)
  try simp only [Act.put, List.setIfInBounds_toArray, List.set_cons_zero, List.set_cons_succ]
  refine wpAnyH_take (i := 2) (oi := { dst := some 68, op := Op.nilCheck (Operand.tmp 67), type := 0, pos := "written.go:34", after := #[{ on := 1, ground := Ground.data }], guard := none }) (v := ?_) rfl (by kernel_rfl) (by kernel_rfl) (by kernel_rfl) (fun _ _ _ h => h) (Or.inl ⟨by rfl, ?_⟩) (by assumption) ?_
  rotate_left
  · (intro w hSw; (try dsimp only at hSw); go_simp; try with_reducible rfl)
  try simp only [Act.put, List.setIfInBounds_toArray, List.set_cons_zero, List.set_cons_succ]
  refine wpAnyH_take (i := 3) (oi := { dst := some 69, op := Op.fieldAddr 74 (Operand.tmp 68) 0, type := 0, pos := "written.go:34", after := #[{ on := 2, ground := Ground.data }], guard := none }) (v := ?_) rfl (by kernel_rfl) (by kernel_rfl) (by kernel_rfl) (fun _ _ _ h => h) (Or.inl ⟨by rfl, ?_⟩) (by assumption) ?_
  rotate_left
  · (intro w hSw; (try dsimp only at hSw); go_simp; try with_reducible rfl)
  try simp only [Act.put, List.setIfInBounds_toArray, List.set_cons_zero, List.set_cons_succ]
  refine wpAnyH_take (i := 5) (oi := { dst := some 71, op := Op.load 51 (Operand.tmp 5), type := 51, pos := "written.go:34", after := #[], guard := none }) (v := .agg #[.int .i64 5, .bool true, .int .i64 1, .int .i64 2, .int .i64 2, .string ⟨#[122, 111, 110, 101]⟩, .int .i64 0, .int .i64 0, .int .i64 0, .slice (some ⟨g, 0, none⟩) 1 1, .slice none 0 0, .int .i64 0, .int .i64 0, .string ⟨#[]⟩, .int .i64 0, .int .i64 0, .string ⟨#[]⟩, .int .i64 0, .slice none 0 0]) rfl (by kernel_rfl) (by kernel_rfl) (by kernel_rfl) (fun _ _ _ h => h) (yieldsIf_load_mid (by first | rfl | kernel_rfl) 51 _ rfl pb 0 rfl [.int .i64 5, .bool true, .int .i64 1, .int .i64 2, .int .i64 2, .string ⟨#[122, 111, 110, 101]⟩, .int .i64 0, .int .i64 0, .int .i64 0, .slice (some ⟨g, 0, none⟩) 1 1, .slice none 0 0, .int .i64 0, .int .i64 0, .string ⟨#[]⟩, .int .i64 0, .int .i64 0, .string ⟨#[]⟩, .int .i64 0, .slice none 0 0] _ (fun W hS j v h => (by rw [Nat.zero_add, cell_of_row _ _ j _ _ _ hS.out]; exact mid_get0 h)) Tryz.underlying51 rfl infoPP) (by assumption) ?_
  try simp only [Act.put, List.setIfInBounds_toArray, List.set_cons_zero, List.set_cons_succ]
  refine wpAnyH_ready (rs := [4, 6]) (by kernel_rfl) (by simp) ?_
  refine AllReadyH.cons (o := { dst := some 70, op := Op.load 22 (Operand.tmp 69), type := 22, pos := "written.go:34", after := #[{ on := 3, ground := Ground.data }], guard := none }) rfl (fun K hK => ?_) ?_
  · have wc : Z0.cell? ⟨wb, 0, none⟩ = some (.slice none 0 0) := (HV0.out.cell (p := ⟨wb, 0, none⟩) (lt_blk HWV.out)).trans (cell_of_row _ _ 0 _ _ _ HWV.out)
    go_simp
    clear wc
    refine hK.out _ _ ?_ (fun hHeld => ?_)
    · exact MB.out _ (But.of HV0.out)
    clear hK K hHeld
    try simp only [Act.put, List.setIfInBounds_toArray, List.set_cons_zero, List.set_cons_succ]
    have hHeld := MB.out Z0 (But.of HV0.out)
    refine wpAnyH_ready (rs := [6]) (by kernel_rfl) (by simp) ?_
    refine AllReadyH.cons (o := { dst := some 72, op := Op.buildSlice 22 1 #[(0, Operand.tmp 71)], type := 22, pos := "written.go:34", after := #[{ on := 5, ground := Ground.data }], guard := none }) rfl (fun K hK => ?_) AllReadyH.nil
    go_simp
    refine hK.out _ _ ?_ (fun hHeld => ?_)
    · exact MB.out _ (But.of (HV0.out.alloc HV0.out.size _))
    clear hK K hHeld
    try simp only [Act.put, List.setIfInBounds_toArray, List.set_cons_zero, List.set_cons_succ]
    have HR := hid (heap_alloc_new Z0 (.cells #[.int .i64 5, .bool true, .int .i64 1, .int .i64 2, .int .i64 2, .string ⟨#[122, 111, 110, 101]⟩, .int .i64 0, .int .i64 0, .int .i64 0, .slice (some ⟨g, 0, none⟩) 1 1, .slice none 0 0, .int .i64 0, .int .i64 0, .string ⟨#[]⟩, .int .i64 0, .int .i64 0, .string ⟨#[]⟩, .int .i64 0, .slice none 0 0] 51))
    have HB9 := hid (HV0.out.alloc HV0.out.size (.cells #[.int .i64 5, .bool true, .int .i64 1, .int .i64 2, .int .i64 2, .string ⟨#[122, 111, 110, 101]⟩, .int .i64 0, .int .i64 0, .int .i64 0, .slice (some ⟨g, 0, none⟩) 1 1, .slice none 0 0, .int .i64 0, .int .i64 0, .string ⟨#[]⟩, .int .i64 0, .int .i64 0, .string ⟨#[]⟩, .int .i64 0, .slice none 0 0] 51))
    generalize Z0.alloc (.cells #[.int .i64 5, .bool true, .int .i64 1, .int .i64 2, .int .i64 2, .string ⟨#[122, 111, 110, 101]⟩, .int .i64 0, .int .i64 0, .int .i64 0, .slice (some ⟨g, 0, none⟩) 1 1, .slice none 0 0, .int .i64 0, .int .i64 0, .string ⟨#[]⟩, .int .i64 0, .int .i64 0, .string ⟨#[]⟩, .int .i64 0, .slice none 0 0] 51) = Z1 at *
    generalize Z0.heap.size = rb at *
    have hHeld := MB.out Z1 (But.of HB9.out)
    refine wpAnyH_ready (rs := [7]) (by kernel_rfl) (by simp) ?_
    refine AllReadyH.cons (o := { dst := some 73, op := Op.call { callee := Callee.builtin Builtin.append, args := #[Operand.tmp 70, Operand.tmp 72], argTypes := #[22, 22] }, type := 22, pos := "written.go:34", after := #[{ on := 4, ground := Ground.data }, { on := 6, ground := Ground.data }], guard := none }) rfl (fun K hK => ?_) AllReadyH.nil
    rw [if_pos (by rfl)]
    refine wp_append_own _ _ _ 22 rfl w.heap.size 51 i9 (.agg #[.int .i64 0, .bool false, .int .i64 0, .int .i64 0, .int .i64 0, .string ⟨#[]⟩, .int .i64 0, .int .i64 0, .int .i64 0, .slice none 0 0, .slice none 0 0, .int .i64 0, .int .i64 0, .string ⟨#[]⟩, .int .i64 0, .int .i64 0, .string ⟨#[]⟩, .int .i64 0, .slice none 0 0]) 19 224 Tryz.underlying22 hi hz0 hz1 hz2 rfl (by decide) (.slice none 0 0) 0 [] rfl (World.ownsRow_nil _ _ _ _) ⟨rb, 0, none⟩ 1 1 [.int .i64 5, .bool true, .int .i64 1, .int .i64 2, .int .i64 2, .string ⟨#[122, 111, 110, 101]⟩, .int .i64 0, .int .i64 0, .int .i64 0, .slice (some ⟨g, 0, none⟩) 1 1, .slice none 0 0, .int .i64 0, .int .i64 0, .string ⟨#[]⟩, .int .i64 0, .int .i64 0, .string ⟨#[]⟩, .int .i64 0, .slice none 0 0] rfl rfl ?_ ?_ (by unfold maxLen; omega) (by omega) (Nat.le_trans HB2.out.size HB9.out.size) ?_
    · intro j u hu
      rw [Go.WideShapes.add_plain]
      show Z1.cell? ⟨rb, 0 + j, none⟩ = _
      rw [Nat.zero_add, cell_of_row _ _ j _ _ _ HR.out]
      exact mid_get0 hu
    · intro u hu
      exact of_one hu
    intro v' w' ho hg _
    have HB8 := hid (show Below V.heap.size V w' from HB9.out.trans (show Below V.heap.size Z1 w' from ⟨hg.os, hg.tape, hg.output, hg.size, fun k hk => hg.block k (Nat.lt_of_lt_of_le hk HB9.out.size) (fun e => (by cases e))⟩))
    rcases ho.2 with ⟨_, h0⟩ | ⟨r, cap, cur, rfl, hbr, hr, hn1, hcap, hsz, htk⟩
    · omega
    have HRR := hid hr
    have HBR := hid hbr
    have HTK := hid htk
    clear hg ho hr hbr htk hsz hcap hn1
    refine hK.out _ _ ?_ (fun hHeld => ?_)
    · exact MB.out _ (But.of HB8.out)
    clear hK K hHeld
    try simp only [Act.put, List.setIfInBounds_toArray, List.set_cons_zero, List.set_cons_succ]
    have hHeld := MB.out w' (But.of HB8.out)
    refine wpAnyH_take (i := 8) (oi := { dst := some 74, op := Op.nilCheck (Operand.tmp 66), type := 0, pos := "written.go:34", after := #[{ on := 0, ground := Ground.data }, { on := 0, ground := Ground.phase }, { on := 1, ground := Ground.phase }, { on := 2, ground := Ground.phase }, { on := 3, ground := Ground.phase }, { on := 4, ground := Ground.phase }, { on := 5, ground := Ground.phase }, { on := 6, ground := Ground.phase }, { on := 7, ground := Ground.phase }], guard := none }) (v := ?_) rfl (by kernel_rfl) (by kernel_rfl) (by kernel_rfl) (fun _ _ _ h => h) (Or.inl ⟨by rfl, ?_⟩) (by assumption) ?_
    rotate_left
    · (intro w hSw; (try dsimp only at hSw); go_simp; try with_reducible rfl)
    try simp only [Act.put, List.setIfInBounds_toArray, List.set_cons_zero, List.set_cons_succ]
    refine wpAnyH_take (i := 9) (oi := { dst := some 75, op := Op.fieldAddr 74 (Operand.tmp 74) 0, type := 0, pos := "written.go:34", after := #[{ on := 8, ground := Ground.data }, { on := 0, ground := Ground.phase }, { on := 1, ground := Ground.phase }, { on := 2, ground := Ground.phase }, { on := 3, ground := Ground.phase }, { on := 4, ground := Ground.phase }, { on := 5, ground := Ground.phase }, { on := 6, ground := Ground.phase }, { on := 7, ground := Ground.phase }], guard := none }) (v := ?_) rfl (by kernel_rfl) (by kernel_rfl) (by kernel_rfl) (fun _ _ _ h => h) (Or.inl ⟨by rfl, ?_⟩) (by assumption) ?_
    rotate_left
    · (intro w hSw; (try dsimp only at hSw); go_simp; try with_reducible rfl)
    try simp only [Act.put, List.setIfInBounds_toArray, List.set_cons_zero, List.set_cons_succ]
    refine wpAnyH_ready (rs := [10]) (by kernel_rfl) (by simp) ?_
    refine AllReadyH.cons (o := { dst := none, op := Op.store 22 (Operand.tmp 75) (Operand.tmp 73), type := 0, pos := "written.go:34", after := #[{ on := 9, ground := Ground.data }, { on := 7, ground := Ground.data }, { on := 7, ground := Ground.chain }, { on := 0, ground := Ground.phase }, { on := 1, ground := Ground.phase }, { on := 2, ground := Ground.phase }, { on := 3, ground := Ground.phase }, { on := 4, ground := Ground.phase }, { on := 5, ground := Ground.phase }, { on := 6, ground := Ground.phase }, { on := 7, ground := Ground.phase }], guard := none }) rfl (fun K hK => ?_) AllReadyH.nil
    have HWW := hid ((HB8.out.block _ (lt_blk HWV.out)).trans HWV.out)
    have wc : w'.cell? ⟨wb, 0, none⟩ = some (.slice none 0 0) := cell_of_row _ _ 0 _ _ _ HWW.out
    have wf : w'.frozen? ⟨wb, 0, none⟩ = false := frz_row HWW.out 0
    go_simp
    have HBT := hid (show But wb V (w'.setCell ⟨wb, 0, none⟩ (.slice (some ⟨r, 0, none⟩) 1 cap)) from ⟨HB8.out.os, HB8.out.tape, HB8.out.output, by simpa using HB8.out.size, fun k hk hne => (set_oth HWW.out 0 _ hne).trans (HB8.out.block k hk)⟩)
    refine hK.out _ _ ?_ (fun hHeld => ?_)
    · exact MB.out _ HBT.out
    clear hK K hHeld wc wf
    try simp only [Act.put, List.setIfInBounds_toArray, List.set_cons_zero, List.set_cons_succ]
    refine wpAnyH_done (by kernel_rfl) ?_ _
    clear hHeld
    have HFW := hid (show (w'.setCell ⟨wb, 0, none⟩ (.slice (some ⟨r, 0, none⟩) 1 cap)).heap[wb]? = some (.cells #[.slice (some ⟨r, 0, none⟩) 1 cap, .slice none 0 0] 74 (0, 0)) by rw [setCell_eq_setRow _ _ _ _ _ _ _ HWW.out, setRow_heap _ _ _ _ _ _ HWW.out]; rfl)
    have HFR := hid ((set_oth HWW.out 0 (.slice (some ⟨r, 0, none⟩) 1 cap) (show r ≠ wb from (by have h1 := lt_blk HW.out; have h2 := HBR.out; omega))).trans HRR.out)
    generalize w'.setCell ⟨wb, 0, none⟩ (.slice (some ⟨r, 0, none⟩) 1 cap) = U at *
    have u0 : U.cell? ⟨wb, 0, none⟩ = some (.slice (some ⟨r, 0, none⟩) 1 cap) := cell_of_row _ _ 0 _ _ _ HFW.out
    go_wp2_with fail
    go_ret
    exact ⟨rfl, r, cap, cur, HFW.out, HFR.out, HTK.out, HBR.out, (But.of HB2.out).trans HBT.out⟩
  refine AllReadyH.cons (o := { dst := some 72, op := Op.buildSlice 22 1 #[(0, Operand.tmp 71)], type := 22, pos := "written.go:34", after := #[{ on := 5, ground := Ground.data }], guard := none }) rfl (fun K hK => ?_) AllReadyH.nil
  go_simp
  refine hK.out _ _ ?_ (fun hHeld => ?_)
  · exact MB.out _ (But.of (HV0.out.alloc HV0.out.size _))
  clear hK K hHeld
  try simp only [Act.put, List.setIfInBounds_toArray, List.set_cons_zero, List.set_cons_succ]
  have HR := hid (heap_alloc_new Z0 (.cells #[.int .i64 5, .bool true, .int .i64 1, .int .i64 2, .int .i64 2, .string ⟨#[122, 111, 110, 101]⟩, .int .i64 0, .int .i64 0, .int .i64 0, .slice (some ⟨g, 0, none⟩) 1 1, .slice none 0 0, .int .i64 0, .int .i64 0, .string ⟨#[]⟩, .int .i64 0, .int .i64 0, .string ⟨#[]⟩, .int .i64 0, .slice none 0 0] 51))
  have HB9 := hid (HV0.out.alloc HV0.out.size (.cells #[.int .i64 5, .bool true, .int .i64 1, .int .i64 2, .int .i64 2, .string ⟨#[122, 111, 110, 101]⟩, .int .i64 0, .int .i64 0, .int .i64 0, .slice (some ⟨g, 0, none⟩) 1 1, .slice none 0 0, .int .i64 0, .int .i64 0, .string ⟨#[]⟩, .int .i64 0, .int .i64 0, .string ⟨#[]⟩, .int .i64 0, .slice none 0 0] 51))
  generalize Z0.alloc (.cells #[.int .i64 5, .bool true, .int .i64 1, .int .i64 2, .int .i64 2, .string ⟨#[122, 111, 110, 101]⟩, .int .i64 0, .int .i64 0, .int .i64 0, .slice (some ⟨g, 0, none⟩) 1 1, .slice none 0 0, .int .i64 0, .int .i64 0, .string ⟨#[]⟩, .int .i64 0, .int .i64 0, .string ⟨#[]⟩, .int .i64 0, .slice none 0 0] 51) = Z1 at *
  generalize Z0.heap.size = rb at *
  have hHeld := MB.out Z1 (But.of HB9.out)
  refine wpAnyH_ready (rs := [4]) (by kernel_rfl) (by simp) ?_
  refine AllReadyH.cons (o := { dst := some 70, op := Op.load 22 (Operand.tmp 69), type := 22, pos := "written.go:34", after := #[{ on := 3, ground := Ground.data }], guard := none }) rfl (fun K hK => ?_) AllReadyH.nil
  have wc : Z1.cell? ⟨wb, 0, none⟩ = some (.slice none 0 0) := (HB9.out.cell (p := ⟨wb, 0, none⟩) (lt_blk HWV.out)).trans (cell_of_row _ _ 0 _ _ _ HWV.out)
  go_simp
  clear wc
  refine hK.out _ _ ?_ (fun hHeld => ?_)
  · exact MB.out _ (But.of HB9.out)
  clear hK K hHeld
  try simp only [Act.put, List.setIfInBounds_toArray, List.set_cons_zero, List.set_cons_succ]
  have hHeld := MB.out Z1 (But.of HB9.out)
  refine wpAnyH_ready (rs := [7]) (by kernel_rfl) (by simp) ?_
  refine AllReadyH.cons (o := { dst := some 73, op := Op.call { callee := Callee.builtin Builtin.append, args := #[Operand.tmp 70, Operand.tmp 72], argTypes := #[22, 22] }, type := 22, pos := "written.go:34", after := #[{ on := 4, ground := Ground.data }, { on := 6, ground := Ground.data }], guard := none }) rfl (fun K hK => ?_) AllReadyH.nil
  rw [if_pos (by rfl)]
  refine wp_append_own _ _ _ 22 rfl w.heap.size 51 i9 (.agg #[.int .i64 0, .bool false, .int .i64 0, .int .i64 0, .int .i64 0, .string ⟨#[]⟩, .int .i64 0, .int .i64 0, .int .i64 0, .slice none 0 0, .slice none 0 0, .int .i64 0, .int .i64 0, .string ⟨#[]⟩, .int .i64 0, .int .i64 0, .string ⟨#[]⟩, .int .i64 0, .slice none 0 0]) 19 224 Tryz.underlying22 hi hz0 hz1 hz2 rfl (by decide) (.slice none 0 0) 0 [] rfl (World.ownsRow_nil _ _ _ _) ⟨rb, 0, none⟩ 1 1 [.int .i64 5, .bool true, .int .i64 1, .int .i64 2, .int .i64 2, .string ⟨#[122, 111, 110, 101]⟩, .int .i64 0, .int .i64 0, .int .i64 0, .slice (some ⟨g, 0, none⟩) 1 1, .slice none 0 0, .int .i64 0, .int .i64 0, .string ⟨#[]⟩, .int .i64 0, .int .i64 0, .string ⟨#[]⟩, .int .i64 0, .slice none 0 0] rfl rfl ?_ ?_ (by unfold maxLen; omega) (by omega) (Nat.le_trans HB2.out.size HB9.out.size) ?_
  · intro j u hu
    rw [Go.WideShapes.add_plain]
    show Z1.cell? ⟨rb, 0 + j, none⟩ = _
    rw [Nat.zero_add, cell_of_row _ _ j _ _ _ HR.out]
    exact mid_get0 hu
  · intro u hu
    exact of_one hu
  intro v' w' ho hg _
  have HB8 := hid (show Below V.heap.size V w' from HB9.out.trans (show Below V.heap.size Z1 w' from ⟨hg.os, hg.tape, hg.output, hg.size, fun k hk => hg.block k (Nat.lt_of_lt_of_le hk HB9.out.size) (fun e => (by cases e))⟩))
  rcases ho.2 with ⟨_, h0⟩ | ⟨r, cap, cur, rfl, hbr, hr, hn1, hcap, hsz, htk⟩
  · omega
  have HRR := hid hr
  have HBR := hid hbr
  have HTK := hid htk
  clear hg ho hr hbr htk hsz hcap hn1
  refine hK.out _ _ ?_ (fun hHeld => ?_)
  · exact MB.out _ (But.of HB8.out)
  clear hK K hHeld
  try simp only [Act.put, List.setIfInBounds_toArray, List.set_cons_zero, List.set_cons_succ]
  have hHeld := MB.out w' (But.of HB8.out)
  refine wpAnyH_take (i := 8) (oi := { dst := some 74, op := Op.nilCheck (Operand.tmp 66), type := 0, pos := "written.go:34", after := #[{ on := 0, ground := Ground.data }, { on := 0, ground := Ground.phase }, { on := 1, ground := Ground.phase }, { on := 2, ground := Ground.phase }, { on := 3, ground := Ground.phase }, { on := 4, ground := Ground.phase }, { on := 5, ground := Ground.phase }, { on := 6, ground := Ground.phase }, { on := 7, ground := Ground.phase }], guard := none }) (v := ?_) rfl (by kernel_rfl) (by kernel_rfl) (by kernel_rfl) (fun _ _ _ h => h) (Or.inl ⟨by rfl, ?_⟩) (by assumption) ?_
  rotate_left
  · (intro w hSw; (try dsimp only at hSw); go_simp; try with_reducible rfl)
  try simp only [Act.put, List.setIfInBounds_toArray, List.set_cons_zero, List.set_cons_succ]
  refine wpAnyH_take (i := 9) (oi := { dst := some 75, op := Op.fieldAddr 74 (Operand.tmp 74) 0, type := 0, pos := "written.go:34", after := #[{ on := 8, ground := Ground.data }, { on := 0, ground := Ground.phase }, { on := 1, ground := Ground.phase }, { on := 2, ground := Ground.phase }, { on := 3, ground := Ground.phase }, { on := 4, ground := Ground.phase }, { on := 5, ground := Ground.phase }, { on := 6, ground := Ground.phase }, { on := 7, ground := Ground.phase }], guard := none }) (v := ?_) rfl (by kernel_rfl) (by kernel_rfl) (by kernel_rfl) (fun _ _ _ h => h) (Or.inl ⟨by rfl, ?_⟩) (by assumption) ?_
  rotate_left
  · (intro w hSw; (try dsimp only at hSw); go_simp; try with_reducible rfl)
  try simp only [Act.put, List.setIfInBounds_toArray, List.set_cons_zero, List.set_cons_succ]
  refine wpAnyH_ready (rs := [10]) (by kernel_rfl) (by simp) ?_
  refine AllReadyH.cons (o := { dst := none, op := Op.store 22 (Operand.tmp 75) (Operand.tmp 73), type := 0, pos := "written.go:34", after := #[{ on := 9, ground := Ground.data }, { on := 7, ground := Ground.data }, { on := 7, ground := Ground.chain }, { on := 0, ground := Ground.phase }, { on := 1, ground := Ground.phase }, { on := 2, ground := Ground.phase }, { on := 3, ground := Ground.phase }, { on := 4, ground := Ground.phase }, { on := 5, ground := Ground.phase }, { on := 6, ground := Ground.phase }, { on := 7, ground := Ground.phase }], guard := none }) rfl (fun K hK => ?_) AllReadyH.nil
  have HWW := hid ((HB8.out.block _ (lt_blk HWV.out)).trans HWV.out)
  have wc : w'.cell? ⟨wb, 0, none⟩ = some (.slice none 0 0) := cell_of_row _ _ 0 _ _ _ HWW.out
  have wf : w'.frozen? ⟨wb, 0, none⟩ = false := frz_row HWW.out 0
  go_simp
  have HBT := hid (show But wb V (w'.setCell ⟨wb, 0, none⟩ (.slice (some ⟨r, 0, none⟩) 1 cap)) from ⟨HB8.out.os, HB8.out.tape, HB8.out.output, by simpa using HB8.out.size, fun k hk hne => (set_oth HWW.out 0 _ hne).trans (HB8.out.block k hk)⟩)
  refine hK.out _ _ ?_ (fun hHeld => ?_)
  · exact MB.out _ HBT.out
  clear hK K hHeld wc wf
  try simp only [Act.put, List.setIfInBounds_toArray, List.set_cons_zero, List.set_cons_succ]
  refine wpAnyH_done (by kernel_rfl) ?_ _
  clear hHeld
  have HFW := hid (show (w'.setCell ⟨wb, 0, none⟩ (.slice (some ⟨r, 0, none⟩) 1 cap)).heap[wb]? = some (.cells #[.slice (some ⟨r, 0, none⟩) 1 cap, .slice none 0 0] 74 (0, 0)) by rw [setCell_eq_setRow _ _ _ _ _ _ _ HWW.out, setRow_heap _ _ _ _ _ _ HWW.out]; rfl)
  have HFR := hid ((set_oth HWW.out 0 (.slice (some ⟨r, 0, none⟩) 1 cap) (show r ≠ wb from (by have h1 := lt_blk HW.out; have h2 := HBR.out; omega))).trans HRR.out)
  generalize w'.setCell ⟨wb, 0, none⟩ (.slice (some ⟨r, 0, none⟩) 1 cap) = U at *
  have u0 : U.cell? ⟨wb, 0, none⟩ = some (.slice (some ⟨r, 0, none⟩) 1 cap) := cell_of_row _ _ 0 _ _ _ HFW.out
  go_wp2_with fail
  go_ret
  exact ⟨rfl, r, cap, cur, HFW.out, HFR.out, HTK.out, HBR.out, (But.of HB2.out).trans HBT.out⟩
end Go.Proofs.YtimmjikpcekffaaGreatDoor.L
