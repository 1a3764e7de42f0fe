import Derived.Test.YtimmjikpcekffaaGreatDoorMgBD
import Derived.Deep.RegionHeld3
namespace Go.Proofs.YtimmjikpcekffaaGreatDoor.L
open Go.RowKit Go.Shelf
set_option linter.unusedVariables false
set_option linter.unusedSimpArgs false
def hdC : Code → Code
  | .seq a _ => a
  | c => c
def rtC : Code → Code
  | .seq _ b => b
  | c => c
/-- What the region leaves: the two operands in boxes. -/
def CmQ (X : World) (gp k1 bm bp : Nat) (sa pa : Option Addr) (sn sc pn pc : Nat) (e : Exit) (a : Act) (V : World) : Prop := e = .normal ∧ ∃ b7 b8, a = { tmps := #[.agg #[.slice (some ⟨gp, 0, none⟩) 4 4, .slice sa sn sc, .slice pa pn pc], .agg #[.int .i64 6, .string ⟨#[]⟩, .int .i64 1, .slice (some ⟨k1, 0, none⟩) 2 2], .int .i64 1, .pointer (some ⟨bm, 0, none⟩), .pointer (some ⟨bp, 0, none⟩), undef, .pointer none, .pointer (some ⟨b7, 0, none⟩), .pointer (some ⟨b8, 0, none⟩), undef, .agg #[.slice (some ⟨gp, 0, none⟩) 4 4, .slice sa sn sc, .slice pa pn pc], .pointer (some ⟨bp, 3, none⟩), .slice (some ⟨k1, 0, none⟩) 2 2, .pointer (some ⟨k1, 0, none⟩), .int .i64 0, .agg #[.bool false, .bool false, .bool false, .string ⟨#[]⟩, .int .i64 0, .int .i64 2, .int .i64 2, .string ⟨#[122, 111, 110, 101]⟩, .int .i64 0, .pointer none], .agg #[.slice (some ⟨gp, 0, none⟩) 4 4, .slice sa sn sc, .slice pa pn pc], .pointer (some ⟨bp, 3, none⟩), .slice (some ⟨k1, 0, none⟩) 2 2, .pointer (some ⟨k1, 1, none⟩), .int .i64 1, .agg #[.bool true, .bool true, .bool true, .string ⟨#[97]⟩, .int .i64 0, .int .i64 0, .int .i64 0, .string ⟨#[]⟩, .int .i64 0, .pointer none], undef, undef, undef, undef, undef, undef, undef, undef, undef, undef, undef, undef, undef, undef, undef, undef, undef, undef, undef, undef, undef, undef, undef, undef, undef, undef, undef, undef, undef, undef, undef, undef, undef, undef, undef, undef, undef, undef, undef, undef, undef, undef, undef, undef, undef, undef, undef, undef, undef, undef, undef, undef, undef, undef, undef, undef, undef, undef, undef, undef, undef, undef, undef, undef, undef, undef, undef, undef, undef, undef, undef, undef, undef, undef, undef, undef, undef, undef, undef], defers := [] } ∧ V.heap[b7]? = some (.cells #[.bool false, .bool false, .bool false, .string ⟨#[]⟩, .int .i64 0, .int .i64 2, .int .i64 2, .string ⟨#[122, 111, 110, 101]⟩, .int .i64 0, .pointer none] 130 (0, 0)) ∧ V.heap[b8]? = some (.cells #[.bool true, .bool true, .bool true, .string ⟨#[97]⟩, .int .i64 0, .int .i64 0, .int .i64 0, .string ⟨#[]⟩, .int .i64 0, .pointer none] 130 (0, 0)) ∧ Below X.heap.size X V
set_option maxHeartbeats 16000000 in
set_option maxRecDepth 100000 in
theorem cmp_reg (X : World) (gp k1 k2 bm bp : Nat) (sa pa : Option Addr) (sn sc pn pc : Nat) (hF : Fy X gp k1 k2) (hm : X.heap[bm]? = some (.cells #[.slice (some ⟨gp, 0, none⟩) 4 4, .slice sa sn sc, .slice pa pn pc] 79 (0, 0))) (hp : X.heap[bp]? = some (.cells #[.int .i64 6, .string ⟨#[]⟩, .int .i64 1, .slice (some ⟨k1, 0, none⟩) 2 2] 31 (0, 0))) :
    Code.wp Tryz.prog (hdC (rtC (Option.getD Tryz.f45.body Code.skip))) (CmQ X gp k1 bm bp sa pa sn sc pn pc) { tmps := #[.agg #[.slice (some ⟨gp, 0, none⟩) 4 4, .slice sa sn sc, .slice pa pn pc], .agg #[.int .i64 6, .string ⟨#[]⟩, .int .i64 1, .slice (some ⟨k1, 0, none⟩) 2 2], .int .i64 1, .pointer (some ⟨bm, 0, none⟩), .pointer (some ⟨bp, 0, none⟩), undef, .pointer none, undef, undef, undef, undef, undef, undef, undef, undef, undef, undef, undef, undef, undef, undef, undef, undef, undef, undef, undef, undef, undef, undef, undef, undef, undef, undef, undef, undef, undef, undef, undef, undef, undef, undef, undef, undef, undef, undef, undef, undef, undef, undef, undef, undef, undef, undef, undef, undef, undef, undef, undef, undef, undef, undef, undef, undef, undef, undef, undef, undef, undef, undef, undef, undef, undef, undef, undef, undef, undef, undef, undef, undef, undef, undef, undef, undef, undef, undef, undef, undef, undef, undef, undef, undef, undef, undef, undef, undef, undef, undef, undef, undef, undef, undef], defers := [] } X := by
  have HF := hid hF
  have MS := hid (show ∀ Y, Below X.heap.size X Y → (fun Y => (Y.cell? ⟨bm, 0, none⟩ = some (.slice (some ⟨gp, 0, none⟩) 4 4) ∧ Y.cell? ⟨bm, 1, none⟩ = some (.slice sa sn sc) ∧ Y.cell? ⟨bm, 2, none⟩ = some (.slice pa pn pc)) ∧ Y.cell? ⟨bp, 3, none⟩ = some (.slice (some ⟨k1, 0, none⟩) 2 2) ∧ Y.cell? ⟨k1, 0, none⟩ = some (.int .i64 0) ∧ Y.cell? ⟨k1, 1, none⟩ = some (.int .i64 1)) Y from fun Y hb => ⟨⟨(hb.cell (p := ⟨bm, 0, none⟩) (lt_blk hm)).trans (cell_of_row _ _ 0 _ _ _ hm), (hb.cell (p := ⟨bm, 1, none⟩) (lt_blk hm)).trans (cell_of_row _ _ 1 _ _ _ hm), (hb.cell (p := ⟨bm, 2, none⟩) (lt_blk hm)).trans (cell_of_row _ _ 2 _ _ _ hm)⟩, (hb.cell (p := ⟨bp, 3, none⟩) (lt_blk hp)).trans (cell_of_row _ _ 3 _ _ _ hp), (hb.cell (p := ⟨k1, 0, none⟩) (lt_blk hF.kid)).trans (cell_of_row _ _ 0 _ _ _ hF.kid), (hb.cell (p := ⟨k1, 1, none⟩) (lt_blk hF.kid)).trans (cell_of_row _ _ 1 _ _ _ hF.kid)⟩)
  have HB0 := hid (show Below X.heap.size X X.drew from (Below.refl _ _).drew)
  clear hF hm hp
  simp only [hdC, rtC, Option.getD, Tryz.f45]
  refine wp_region_held_drew (S := (fun Y => (Y.cell? ⟨bm, 0, none⟩ = some (.slice (some ⟨gp, 0, none⟩) 4 4) ∧ Y.cell? ⟨bm, 1, none⟩ = some (.slice sa sn sc) ∧ Y.cell? ⟨bm, 2, none⟩ = some (.slice pa pn pc)) ∧ Y.cell? ⟨bp, 3, none⟩ = some (.slice (some ⟨k1, 0, none⟩) 2 2) ∧ Y.cell? ⟨k1, 0, none⟩ = some (.int .i64 0) ∧ Y.cell? ⟨k1, 1, none⟩ = some (.int .i64 1))) (by kernel_rfl) ?_ (fun hHeld => ?_)
  · exact MS.out _ HB0.out
  generalize X.drew = W0 at *
  refine wpAnyH_take (i := 0) (oi := { dst := some 10, op := Op.load 79 (Operand.tmp 3), type := 79, pos := "conditions.go:64", after := #[], guard := none }) (v := ?_) rfl (by kernel_rfl) (by kernel_rfl) (by kernel_rfl) (fun _ _ _ h => absurd h.1 (fun h => (by cases h))) (Or.inl ⟨by rfl, ?_⟩) (by assumption) ?_
  rotate_left
  · (intro w hSw; (try dsimp only at hSw); go_simp; try with_reducible rfl)
  try simp only [Act.put, List.setIfInBounds_toArray, List.set_cons_zero, List.set_cons_succ]
  refine wpAnyH_take (i := 1) (oi := { dst := some 11, op := Op.fieldAddr 31 (Operand.tmp 4) 3, type := 0, pos := "conditions.go:64", after := #[], guard := none }) (v := ?_) rfl (by kernel_rfl) (by kernel_rfl) (by kernel_rfl) (fun _ _ _ h => absurd h.1 (fun h => (by cases h))) (Or.inl ⟨by rfl, ?_⟩) (by assumption) ?_
  rotate_left
  · (intro w hSw; (try dsimp only at hSw); go_simp; try with_reducible rfl)
  try simp only [Act.put, List.setIfInBounds_toArray, List.set_cons_zero, List.set_cons_succ]
  refine wpAnyH_take (i := 2) (oi := { dst := some 12, op := Op.load 29 (Operand.tmp 11), type := 29, pos := "conditions.go:64", after := #[{ on := 1, ground := Ground.data }], guard := none }) (v := ?_) rfl (by kernel_rfl) (by kernel_rfl) (by kernel_rfl) (fun _ _ _ h => absurd h.1 (fun h => (by cases h))) (Or.inl ⟨by rfl, ?_⟩) (by assumption) ?_
  rotate_left
  · (intro w hSw; (try dsimp only at hSw); go_simp; try with_reducible rfl)
  try simp only [Act.put, List.setIfInBounds_toArray, List.set_cons_zero, List.set_cons_succ]
  refine wpAnyH_take (i := 3) (oi := { dst := some 13, op := Op.indexAddr 29 (Operand.tmp 12) (Operand.const (Value.int IntKind.i64 0)), type := 0, pos := "conditions.go:64", after := #[{ on := 2, ground := Ground.data }], guard := none }) (v := ?_) rfl (by kernel_rfl) (by kernel_rfl) (by kernel_rfl) (fun _ _ _ h => absurd h.1 (fun h => (by cases h))) (Or.inl ⟨by rfl, ?_⟩) (by assumption) ?_
  rotate_left
  · (intro w hSw; (try dsimp only at hSw); go_simp; try with_reducible rfl)
  try simp only [Act.put, List.setIfInBounds_toArray, List.set_cons_zero, List.set_cons_succ]
  refine wpAnyH_take (i := 4) (oi := { dst := some 14, op := Op.load 3 (Operand.tmp 13), type := 3, pos := "conditions.go:64", after := #[{ on := 3, ground := Ground.data }], guard := none }) (v := ?_) rfl (by kernel_rfl) (by kernel_rfl) (by kernel_rfl) (fun _ _ _ h => absurd h.1 (fun h => (by cases h))) (Or.inl ⟨by rfl, ?_⟩) (by assumption) ?_
  rotate_left
  · (intro w hSw; (try dsimp only at hSw); go_simp; try with_reducible rfl)
  try simp only [Act.put, List.setIfInBounds_toArray, List.set_cons_zero, List.set_cons_succ]
  refine wpAnyH_take (i := 6) (oi := { dst := some 16, op := Op.load 79 (Operand.tmp 3), type := 79, pos := "conditions.go:64", after := #[], guard := none }) (v := ?_) rfl (by kernel_rfl) (by kernel_rfl) (by kernel_rfl) (fun _ _ _ h => absurd h.1 (fun h => (by cases h))) (Or.inl ⟨by rfl, ?_⟩) (by assumption) ?_
  rotate_left
  · (intro w hSw; (try dsimp only at hSw); go_simp; try with_reducible rfl)
  try simp only [Act.put, List.setIfInBounds_toArray, List.set_cons_zero, List.set_cons_succ]
  refine wpAnyH_take (i := 7) (oi := { dst := some 17, op := Op.fieldAddr 31 (Operand.tmp 4) 3, type := 0, pos := "conditions.go:64", after := #[], guard := none }) (v := ?_) rfl (by kernel_rfl) (by kernel_rfl) (by kernel_rfl) (fun _ _ _ h => absurd h.1 (fun h => (by cases h))) (Or.inl ⟨by rfl, ?_⟩) (by assumption) ?_
  rotate_left
  · (intro w hSw; (try dsimp only at hSw); go_simp; try with_reducible rfl)
  try simp only [Act.put, List.setIfInBounds_toArray, List.set_cons_zero, List.set_cons_succ]
  refine wpAnyH_take (i := 8) (oi := { dst := some 18, op := Op.load 29 (Operand.tmp 17), type := 29, pos := "conditions.go:64", after := #[{ on := 7, ground := Ground.data }], guard := none }) (v := ?_) rfl (by kernel_rfl) (by kernel_rfl) (by kernel_rfl) (fun _ _ _ h => absurd h.1 (fun h => (by cases h))) (Or.inl ⟨by rfl, ?_⟩) (by assumption) ?_
  rotate_left
  · (intro w hSw; (try dsimp only at hSw); go_simp; try with_reducible rfl)
  try simp only [Act.put, List.setIfInBounds_toArray, List.set_cons_zero, List.set_cons_succ]
  refine wpAnyH_take (i := 9) (oi := { dst := some 19, op := Op.indexAddr 29 (Operand.tmp 18) (Operand.const (Value.int IntKind.i64 1)), type := 0, pos := "conditions.go:64", after := #[{ on := 8, ground := Ground.data }], guard := none }) (v := ?_) rfl (by kernel_rfl) (by kernel_rfl) (by kernel_rfl) (fun _ _ _ h => absurd h.1 (fun h => (by cases h))) (Or.inl ⟨by rfl, ?_⟩) (by assumption) ?_
  rotate_left
  · (intro w hSw; (try dsimp only at hSw); go_simp; try with_reducible rfl)
  try simp only [Act.put, List.setIfInBounds_toArray, List.set_cons_zero, List.set_cons_succ]
  refine wpAnyH_take (i := 10) (oi := { dst := some 20, op := Op.load 3 (Operand.tmp 19), type := 3, pos := "conditions.go:64", after := #[{ on := 9, ground := Ground.data }], guard := none }) (v := ?_) rfl (by kernel_rfl) (by kernel_rfl) (by kernel_rfl) (fun _ _ _ h => absurd h.1 (fun h => (by cases h))) (Or.inl ⟨by rfl, ?_⟩) (by assumption) ?_
  rotate_left
  · (intro w hSw; (try dsimp only at hSw); go_simp; try with_reducible rfl)
  try simp only [Act.put, List.setIfInBounds_toArray, List.set_cons_zero, List.set_cons_succ]
  refine wpAnyH_ready (rs := [5, 12, 13]) (by kernel_rfl) (by simp) ?_
  refine AllReadyH.cons (o := { dst := some 15, op := Op.call { callee := Callee.value (Operand.func 71), args := #[Operand.tmp 10, Operand.tmp 14], argTypes := #[79, 3] }, type := 130, pos := "conditions.go:64", after := #[{ on := 0, ground := Ground.data }, { on := 4, ground := Ground.data }], guard := none }) rfl (fun K hK => ?_) ?_
  · go_simp
    refine (operand_0 gp k1 k2 sa pa sn sc pn pc W0 (HF.out.low HB0.out)).mono ?_
    rintro e v1 ⟨rfl, l⟩
    have BB1 := hid (HB0.out.trans (l.mono HB0.out.size))
    clear l
    refine hK.out _ _ ?_ (fun hHeld => ?_)
    · exact MS.out _ BB1.out
    clear hK K hHeld
    try simp only [Act.put, List.setIfInBounds_toArray, List.set_cons_zero, List.set_cons_succ]
    have hHeld := MS.out v1 BB1.out
    refine wpAnyH_ready (rs := [11, 12, 13]) (by kernel_rfl) (by simp) ?_
    refine AllReadyH.cons (o := { dst := some 21, op := Op.call { callee := Callee.value (Operand.func 71), args := #[Operand.tmp 16, Operand.tmp 20], argTypes := #[79, 3] }, type := 130, pos := "conditions.go:64", after := #[{ on := 6, ground := Ground.data }, { on := 10, ground := Ground.data }, { on := 5, ground := Ground.chain }], guard := none }) rfl (fun K hK => ?_) ?_
    · go_simp
      refine (operand_1 gp k1 k2 sa pa sn sc pn pc v1 (HF.out.low BB1.out)).mono ?_
      rintro e v2 ⟨rfl, l⟩
      have BB2 := hid (BB1.out.trans (l.mono BB1.out.size))
      clear l
      refine hK.out _ _ ?_ (fun hHeld => ?_)
      · exact MS.out _ BB2.out
      clear hK K hHeld
      try simp only [Act.put, List.setIfInBounds_toArray, List.set_cons_zero, List.set_cons_succ]
      have hHeld := MS.out v2 BB2.out
      refine wpAnyH_ready (rs := [12, 13]) (by kernel_rfl) (by simp) ?_
      refine AllReadyH.cons (o := { dst := some 7, op := Op.alloc 130, type := 0, pos := "conditions.go:64", after := #[], guard := none }) rfl (fun K hK => ?_) ?_
      · go_simp
        refine hK.out _ _ ?_ (fun hHeld => ?_)
        · exact MS.out _ (BB2.out.alloc BB2.out.size _)
        clear hK K hHeld
        try simp only [Act.put, List.setIfInBounds_toArray, List.set_cons_zero, List.set_cons_succ]
        have BB3 := hid (BB2.out.alloc BB2.out.size (.cells #[.bool false, .bool false, .bool false, .string ⟨#[]⟩, .int .i64 0, .int .i64 0, .int .i64 0, .string ⟨#[]⟩, .int .i64 0, .pointer none] 130))
        have F7_3 := hid (heap_alloc_new v2 (.cells #[.bool false, .bool false, .bool false, .string ⟨#[]⟩, .int .i64 0, .int .i64 0, .int .i64 0, .string ⟨#[]⟩, .int .i64 0, .pointer none] 130))
        have G7_3 : X.heap.size ≤ v2.heap.size := BB2.out.size
        generalize v2.alloc (.cells #[.bool false, .bool false, .bool false, .string ⟨#[]⟩, .int .i64 0, .int .i64 0, .int .i64 0, .string ⟨#[]⟩, .int .i64 0, .pointer none] 130) = v3 at *
        generalize v2.heap.size = c7_3 at *
        have hHeld := MS.out v3 BB3.out
        refine wpAnyH_ready (rs := [13]) (by kernel_rfl) (by simp) ?_
        refine AllReadyH.cons (o := { dst := some 8, op := Op.alloc 130, type := 0, pos := "conditions.go:64", after := #[], guard := none }) rfl (fun K hK => ?_) AllReadyH.nil
        go_simp
        refine hK.out _ _ ?_ (fun hHeld => ?_)
        · exact MS.out _ (BB3.out.alloc BB3.out.size _)
        clear hK K hHeld
        try simp only [Act.put, List.setIfInBounds_toArray, List.set_cons_zero, List.set_cons_succ]
        have BB4 := hid (BB3.out.alloc BB3.out.size (.cells #[.bool false, .bool false, .bool false, .string ⟨#[]⟩, .int .i64 0, .int .i64 0, .int .i64 0, .string ⟨#[]⟩, .int .i64 0, .pointer none] 130))
        have F8_4 := hid (heap_alloc_new v3 (.cells #[.bool false, .bool false, .bool false, .string ⟨#[]⟩, .int .i64 0, .int .i64 0, .int .i64 0, .string ⟨#[]⟩, .int .i64 0, .pointer none] 130))
        have G8_4 : X.heap.size ≤ v3.heap.size := BB3.out.size
        have N_4 := lt_blk F7_3.out
        have F7_4 := hid (((belowA v3 (.cells #[.bool false, .bool false, .bool false, .string ⟨#[]⟩, .int .i64 0, .int .i64 0, .int .i64 0, .string ⟨#[]⟩, .int .i64 0, .pointer none] 130)).block _ (lt_blk F7_3.out)).trans F7_3.out)
        generalize v3.alloc (.cells #[.bool false, .bool false, .bool false, .string ⟨#[]⟩, .int .i64 0, .int .i64 0, .int .i64 0, .string ⟨#[]⟩, .int .i64 0, .pointer none] 130) = v4 at *
        generalize v3.heap.size = c8_4 at *
        have hHeld := MS.out v4 BB4.out
        refine wpAnyH_ready (rs := [14]) (by kernel_rfl) (by simp) ?_
        refine AllReadyH.cons (o := { dst := none, op := Op.store 130 (Operand.tmp 7) (Operand.tmp 15), type := 0, pos := "conditions.go:64", after := #[{ on := 12, ground := Ground.data }, { on := 5, ground := Ground.data }, { on := 11, ground := Ground.chain }, { on := 0, ground := Ground.phase }, { on := 1, ground := Ground.phase }, { on := 2, ground := Ground.phase }, { on := 3, ground := Ground.phase }, { on := 4, ground := Ground.phase }, { on := 5, ground := Ground.phase }, { on := 6, ground := Ground.textOnly Departure.lateStores }, { on := 7, ground := Ground.textOnly Departure.lateStores }, { on := 8, ground := Ground.textOnly Departure.lateStores }, { on := 9, ground := Ground.textOnly Departure.lateStores }, { on := 10, ground := Ground.textOnly Departure.lateStores }, { on := 11, ground := Ground.textOnly Departure.lateStoresUnsure }, { on := 12, ground := Ground.phase }, { on := 13, ground := Ground.phase }], guard := none }) rfl (fun K hK => ?_) AllReadyH.nil
        rw [if_pos (by rfl)]
        refine wp_store_row 130 _ _ rfl c7_3 #[.bool false, .bool false, .bool false, .string ⟨#[]⟩, .int .i64 0, .int .i64 2, .int .i64 2, .string ⟨#[122, 111, 110, 101]⟩, .int .i64 0, .pointer none] rfl rfl 130 _ F7_4.out infoOp rfl (by kernel_rfl) ?_
        refine hK.out _ _ ?_ (fun hHeld => ?_)
        · exact MS.out _ (below_row BB4.out G7_3 _)
        clear hK K hHeld
        try simp only [Act.put, List.setIfInBounds_toArray, List.set_cons_zero, List.set_cons_succ]
        have E7 := hid (setRow_heap v4 c7_3 _ #[.bool false, .bool false, .bool false, .string ⟨#[]⟩, .int .i64 0, .int .i64 2, .int .i64 2, .string ⟨#[122, 111, 110, 101]⟩, .int .i64 0, .pointer none] _ _ F7_4.out)
        have E8 := hid (show (v4.setRow c7_3 #[.bool false, .bool false, .bool false, .string ⟨#[]⟩, .int .i64 0, .int .i64 2, .int .i64 2, .string ⟨#[122, 111, 110, 101]⟩, .int .i64 0, .pointer none]).heap[c8_4]? = _ from (setRow_other _ _ _ _ (by omega)).trans F8_4.out)
        have EB := hid (below_row BB4.out G7_3 #[.bool false, .bool false, .bool false, .string ⟨#[]⟩, .int .i64 0, .int .i64 2, .int .i64 2, .string ⟨#[122, 111, 110, 101]⟩, .int .i64 0, .pointer none])
        generalize v4.setRow c7_3 #[.bool false, .bool false, .bool false, .string ⟨#[]⟩, .int .i64 0, .int .i64 2, .int .i64 2, .string ⟨#[122, 111, 110, 101]⟩, .int .i64 0, .pointer none] = V at *
        have hHeld := MS.out V EB.out
        refine wpAnyH_ready (rs := [15]) (by kernel_rfl) (by simp) ?_
        refine AllReadyH.cons (o := { dst := none, op := Op.store 130 (Operand.tmp 8) (Operand.tmp 21), type := 0, pos := "conditions.go:64", after := #[{ on := 13, ground := Ground.data }, { on := 11, ground := Ground.data }, { on := 14, ground := Ground.chain }, { on := 0, ground := Ground.phase }, { on := 1, ground := Ground.phase }, { on := 2, ground := Ground.phase }, { on := 3, ground := Ground.phase }, { on := 4, ground := Ground.phase }, { on := 5, ground := Ground.phase }, { on := 6, ground := Ground.phase }, { on := 7, ground := Ground.phase }, { on := 8, ground := Ground.phase }, { on := 9, ground := Ground.phase }, { on := 10, ground := Ground.phase }, { on := 11, ground := Ground.phase }, { on := 12, ground := Ground.phase }, { on := 13, ground := Ground.phase }, { on := 14, ground := Ground.phase }], guard := none }) rfl (fun K hK => ?_) AllReadyH.nil
        rw [if_pos (by rfl)]
        refine wp_store_row 130 _ _ rfl c8_4 #[.bool true, .bool true, .bool true, .string ⟨#[97]⟩, .int .i64 0, .int .i64 0, .int .i64 0, .string ⟨#[]⟩, .int .i64 0, .pointer none] rfl rfl 130 _ E8.out infoOp rfl (by kernel_rfl) ?_
        refine hK.out _ _ ?_ (fun hHeld => ?_)
        · exact MS.out _ (below_row EB.out G8_4 _)
        clear hK K hHeld
        try simp only [Act.put, List.setIfInBounds_toArray, List.set_cons_zero, List.set_cons_succ]
        refine wpAnyH_done (by kernel_rfl) ?_ _
        exact ⟨rfl, c7_3, c8_4, rfl, (setRow_other _ _ _ _ (by omega)).trans E7.out, setRow_heap V c8_4 _ #[.bool true, .bool true, .bool true, .string ⟨#[97]⟩, .int .i64 0, .int .i64 0, .int .i64 0, .string ⟨#[]⟩, .int .i64 0, .pointer none] _ _ E8.out, below_row EB.out G8_4 _⟩
      refine AllReadyH.cons (o := { dst := some 8, op := Op.alloc 130, type := 0, pos := "conditions.go:64", after := #[], guard := none }) rfl (fun K hK => ?_) AllReadyH.nil
      go_simp
      refine hK.out _ _ ?_ (fun hHeld => ?_)
      · exact MS.out _ (BB2.out.alloc BB2.out.size _)
      clear hK K hHeld
      try simp only [Act.put, List.setIfInBounds_toArray, List.set_cons_zero, List.set_cons_succ]
      have BB5 := hid (BB2.out.alloc BB2.out.size (.cells #[.bool false, .bool false, .bool false, .string ⟨#[]⟩, .int .i64 0, .int .i64 0, .int .i64 0, .string ⟨#[]⟩, .int .i64 0, .pointer none] 130))
      have F8_5 := hid (heap_alloc_new v2 (.cells #[.bool false, .bool false, .bool false, .string ⟨#[]⟩, .int .i64 0, .int .i64 0, .int .i64 0, .string ⟨#[]⟩, .int .i64 0, .pointer none] 130))
      have G8_5 : X.heap.size ≤ v2.heap.size := BB2.out.size
      generalize v2.alloc (.cells #[.bool false, .bool false, .bool false, .string ⟨#[]⟩, .int .i64 0, .int .i64 0, .int .i64 0, .string ⟨#[]⟩, .int .i64 0, .pointer none] 130) = v5 at *
      generalize v2.heap.size = c8_5 at *
      have hHeld := MS.out v5 BB5.out
      refine wpAnyH_ready (rs := [12]) (by kernel_rfl) (by simp) ?_
      refine AllReadyH.cons (o := { dst := some 7, op := Op.alloc 130, type := 0, pos := "conditions.go:64", after := #[], guard := none }) rfl (fun K hK => ?_) AllReadyH.nil
      go_simp
      refine hK.out _ _ ?_ (fun hHeld => ?_)
      · exact MS.out _ (BB5.out.alloc BB5.out.size _)
      clear hK K hHeld
      try simp only [Act.put, List.setIfInBounds_toArray, List.set_cons_zero, List.set_cons_succ]
      have BB6 := hid (BB5.out.alloc BB5.out.size (.cells #[.bool false, .bool false, .bool false, .string ⟨#[]⟩, .int .i64 0, .int .i64 0, .int .i64 0, .string ⟨#[]⟩, .int .i64 0, .pointer none] 130))
      have F7_6 := hid (heap_alloc_new v5 (.cells #[.bool false, .bool false, .bool false, .string ⟨#[]⟩, .int .i64 0, .int .i64 0, .int .i64 0, .string ⟨#[]⟩, .int .i64 0, .pointer none] 130))
      have G7_6 : X.heap.size ≤ v5.heap.size := BB5.out.size
      have N_6 := lt_blk F8_5.out
      have F8_6 := hid (((belowA v5 (.cells #[.bool false, .bool false, .bool false, .string ⟨#[]⟩, .int .i64 0, .int .i64 0, .int .i64 0, .string ⟨#[]⟩, .int .i64 0, .pointer none] 130)).block _ (lt_blk F8_5.out)).trans F8_5.out)
      generalize v5.alloc (.cells #[.bool false, .bool false, .bool false, .string ⟨#[]⟩, .int .i64 0, .int .i64 0, .int .i64 0, .string ⟨#[]⟩, .int .i64 0, .pointer none] 130) = v6 at *
      generalize v5.heap.size = c7_6 at *
      have hHeld := MS.out v6 BB6.out
      refine wpAnyH_ready (rs := [14]) (by kernel_rfl) (by simp) ?_
      refine AllReadyH.cons (o := { dst := none, op := Op.store 130 (Operand.tmp 7) (Operand.tmp 15), type := 0, pos := "conditions.go:64", after := #[{ on := 12, ground := Ground.data }, { on := 5, ground := Ground.data }, { on := 11, ground := Ground.chain }, { on := 0, ground := Ground.phase }, { on := 1, ground := Ground.phase }, { on := 2, ground := Ground.phase }, { on := 3, ground := Ground.phase }, { on := 4, ground := Ground.phase }, { on := 5, ground := Ground.phase }, { on := 6, ground := Ground.textOnly Departure.lateStores }, { on := 7, ground := Ground.textOnly Departure.lateStores }, { on := 8, ground := Ground.textOnly Departure.lateStores }, { on := 9, ground := Ground.textOnly Departure.lateStores }, { on := 10, ground := Ground.textOnly Departure.lateStores }, { on := 11, ground := Ground.textOnly Departure.lateStoresUnsure }, { on := 12, ground := Ground.phase }, { on := 13, ground := Ground.phase }], guard := none }) rfl (fun K hK => ?_) AllReadyH.nil
      rw [if_pos (by rfl)]
      refine wp_store_row 130 _ _ rfl c7_6 #[.bool false, .bool false, .bool false, .string ⟨#[]⟩, .int .i64 0, .int .i64 2, .int .i64 2, .string ⟨#[122, 111, 110, 101]⟩, .int .i64 0, .pointer none] rfl rfl 130 _ F7_6.out infoOp rfl (by kernel_rfl) ?_
      refine hK.out _ _ ?_ (fun hHeld => ?_)
      · exact MS.out _ (below_row BB6.out G7_6 _)
      clear hK K hHeld
      try simp only [Act.put, List.setIfInBounds_toArray, List.set_cons_zero, List.set_cons_succ]
      have E7 := hid (setRow_heap v6 c7_6 _ #[.bool false, .bool false, .bool false, .string ⟨#[]⟩, .int .i64 0, .int .i64 2, .int .i64 2, .string ⟨#[122, 111, 110, 101]⟩, .int .i64 0, .pointer none] _ _ F7_6.out)
      have E8 := hid (show (v6.setRow c7_6 #[.bool false, .bool false, .bool false, .string ⟨#[]⟩, .int .i64 0, .int .i64 2, .int .i64 2, .string ⟨#[122, 111, 110, 101]⟩, .int .i64 0, .pointer none]).heap[c8_5]? = _ from (setRow_other _ _ _ _ (by omega)).trans F8_6.out)
      have EB := hid (below_row BB6.out G7_6 #[.bool false, .bool false, .bool false, .string ⟨#[]⟩, .int .i64 0, .int .i64 2, .int .i64 2, .string ⟨#[122, 111, 110, 101]⟩, .int .i64 0, .pointer none])
      generalize v6.setRow c7_6 #[.bool false, .bool false, .bool false, .string ⟨#[]⟩, .int .i64 0, .int .i64 2, .int .i64 2, .string ⟨#[122, 111, 110, 101]⟩, .int .i64 0, .pointer none] = V at *
      have hHeld := MS.out V EB.out
      refine wpAnyH_ready (rs := [15]) (by kernel_rfl) (by simp) ?_
      refine AllReadyH.cons (o := { dst := none, op := Op.store 130 (Operand.tmp 8) (Operand.tmp 21), type := 0, pos := "conditions.go:64", after := #[{ on := 13, ground := Ground.data }, { on := 11, ground := Ground.data }, { on := 14, ground := Ground.chain }, { on := 0, ground := Ground.phase }, { on := 1, ground := Ground.phase }, { on := 2, ground := Ground.phase }, { on := 3, ground := Ground.phase }, { on := 4, ground := Ground.phase }, { on := 5, ground := Ground.phase }, { on := 6, ground := Ground.phase }, { on := 7, ground := Ground.phase }, { on := 8, ground := Ground.phase }, { on := 9, ground := Ground.phase }, { on := 10, ground := Ground.phase }, { on := 11, ground := Ground.phase }, { on := 12, ground := Ground.phase }, { on := 13, ground := Ground.phase }, { on := 14, ground := Ground.phase }], guard := none }) rfl (fun K hK => ?_) AllReadyH.nil
      rw [if_pos (by rfl)]
      refine wp_store_row 130 _ _ rfl c8_5 #[.bool true, .bool true, .bool true, .string ⟨#[97]⟩, .int .i64 0, .int .i64 0, .int .i64 0, .string ⟨#[]⟩, .int .i64 0, .pointer none] rfl rfl 130 _ E8.out infoOp rfl (by kernel_rfl) ?_
      refine hK.out _ _ ?_ (fun hHeld => ?_)
      · exact MS.out _ (below_row EB.out G8_5 _)
      clear hK K hHeld
      try simp only [Act.put, List.setIfInBounds_toArray, List.set_cons_zero, List.set_cons_succ]
      refine wpAnyH_done (by kernel_rfl) ?_ _
      exact ⟨rfl, c7_6, c8_5, rfl, (setRow_other _ _ _ _ (by omega)).trans E7.out, setRow_heap V c8_5 _ #[.bool true, .bool true, .bool true, .string ⟨#[97]⟩, .int .i64 0, .int .i64 0, .int .i64 0, .string ⟨#[]⟩, .int .i64 0, .pointer none] _ _ E8.out, below_row EB.out G8_5 _⟩
    refine AllReadyH.cons (o := { dst := some 7, op := Op.alloc 130, type := 0, pos := "conditions.go:64", after := #[], guard := none }) rfl (fun K hK => ?_) ?_
    · go_simp
      refine hK.out _ _ ?_ (fun hHeld => ?_)
      · exact MS.out _ (BB1.out.alloc BB1.out.size _)
      clear hK K hHeld
      try simp only [Act.put, List.setIfInBounds_toArray, List.set_cons_zero, List.set_cons_succ]
      have BB7 := hid (BB1.out.alloc BB1.out.size (.cells #[.bool false, .bool false, .bool false, .string ⟨#[]⟩, .int .i64 0, .int .i64 0, .int .i64 0, .string ⟨#[]⟩, .int .i64 0, .pointer none] 130))
      have F7_7 := hid (heap_alloc_new v1 (.cells #[.bool false, .bool false, .bool false, .string ⟨#[]⟩, .int .i64 0, .int .i64 0, .int .i64 0, .string ⟨#[]⟩, .int .i64 0, .pointer none] 130))
      have G7_7 : X.heap.size ≤ v1.heap.size := BB1.out.size
      generalize v1.alloc (.cells #[.bool false, .bool false, .bool false, .string ⟨#[]⟩, .int .i64 0, .int .i64 0, .int .i64 0, .string ⟨#[]⟩, .int .i64 0, .pointer none] 130) = v7 at *
      generalize v1.heap.size = c7_7 at *
      have hHeld := MS.out v7 BB7.out
      refine wpAnyH_ready (rs := [11, 13]) (by kernel_rfl) (by simp) ?_
      refine AllReadyH.cons (o := { dst := some 21, op := Op.call { callee := Callee.value (Operand.func 71), args := #[Operand.tmp 16, Operand.tmp 20], argTypes := #[79, 3] }, type := 130, pos := "conditions.go:64", after := #[{ on := 6, ground := Ground.data }, { on := 10, ground := Ground.data }, { on := 5, ground := Ground.chain }], guard := none }) rfl (fun K hK => ?_) ?_
      · go_simp
        refine (operand_1 gp k1 k2 sa pa sn sc pn pc v7 (HF.out.low BB7.out)).mono ?_
        rintro e v8 ⟨rfl, l⟩
        have BB8 := hid (BB7.out.trans (l.mono BB7.out.size))
        have F7_8 := hid ((l.block _ (lt_blk F7_7.out)).trans F7_7.out)
        clear l
        refine hK.out _ _ ?_ (fun hHeld => ?_)
        · exact MS.out _ BB8.out
        clear hK K hHeld
        try simp only [Act.put, List.setIfInBounds_toArray, List.set_cons_zero, List.set_cons_succ]
        have hHeld := MS.out v8 BB8.out
        refine wpAnyH_ready (rs := [13]) (by kernel_rfl) (by simp) ?_
        refine AllReadyH.cons (o := { dst := some 8, op := Op.alloc 130, type := 0, pos := "conditions.go:64", after := #[], guard := none }) rfl (fun K hK => ?_) AllReadyH.nil
        go_simp
        refine hK.out _ _ ?_ (fun hHeld => ?_)
        · exact MS.out _ (BB8.out.alloc BB8.out.size _)
        clear hK K hHeld
        try simp only [Act.put, List.setIfInBounds_toArray, List.set_cons_zero, List.set_cons_succ]
        have BB9 := hid (BB8.out.alloc BB8.out.size (.cells #[.bool false, .bool false, .bool false, .string ⟨#[]⟩, .int .i64 0, .int .i64 0, .int .i64 0, .string ⟨#[]⟩, .int .i64 0, .pointer none] 130))
        have F8_9 := hid (heap_alloc_new v8 (.cells #[.bool false, .bool false, .bool false, .string ⟨#[]⟩, .int .i64 0, .int .i64 0, .int .i64 0, .string ⟨#[]⟩, .int .i64 0, .pointer none] 130))
        have G8_9 : X.heap.size ≤ v8.heap.size := BB8.out.size
        have N_9 := lt_blk F7_8.out
        have F7_9 := hid (((belowA v8 (.cells #[.bool false, .bool false, .bool false, .string ⟨#[]⟩, .int .i64 0, .int .i64 0, .int .i64 0, .string ⟨#[]⟩, .int .i64 0, .pointer none] 130)).block _ (lt_blk F7_8.out)).trans F7_8.out)
        generalize v8.alloc (.cells #[.bool false, .bool false, .bool false, .string ⟨#[]⟩, .int .i64 0, .int .i64 0, .int .i64 0, .string ⟨#[]⟩, .int .i64 0, .pointer none] 130) = v9 at *
        generalize v8.heap.size = c8_9 at *
        have hHeld := MS.out v9 BB9.out
        refine wpAnyH_ready (rs := [14]) (by kernel_rfl) (by simp) ?_
        refine AllReadyH.cons (o := { dst := none, op := Op.store 130 (Operand.tmp 7) (Operand.tmp 15), type := 0, pos := "conditions.go:64", after := #[{ on := 12, ground := Ground.data }, { on := 5, ground := Ground.data }, { on := 11, ground := Ground.chain }, { on := 0, ground := Ground.phase }, { on := 1, ground := Ground.phase }, { on := 2, ground := Ground.phase }, { on := 3, ground := Ground.phase }, { on := 4, ground := Ground.phase }, { on := 5, ground := Ground.phase }, { on := 6, ground := Ground.textOnly Departure.lateStores }, { on := 7, ground := Ground.textOnly Departure.lateStores }, { on := 8, ground := Ground.textOnly Departure.lateStores }, { on := 9, ground := Ground.textOnly Departure.lateStores }, { on := 10, ground := Ground.textOnly Departure.lateStores }, { on := 11, ground := Ground.textOnly Departure.lateStoresUnsure }, { on := 12, ground := Ground.phase }, { on := 13, ground := Ground.phase }], guard := none }) rfl (fun K hK => ?_) AllReadyH.nil
        rw [if_pos (by rfl)]
        refine wp_store_row 130 _ _ rfl c7_7 #[.bool false, .bool false, .bool false, .string ⟨#[]⟩, .int .i64 0, .int .i64 2, .int .i64 2, .string ⟨#[122, 111, 110, 101]⟩, .int .i64 0, .pointer none] rfl rfl 130 _ F7_9.out infoOp rfl (by kernel_rfl) ?_
        refine hK.out _ _ ?_ (fun hHeld => ?_)
        · exact MS.out _ (below_row BB9.out G7_7 _)
        clear hK K hHeld
        try simp only [Act.put, List.setIfInBounds_toArray, List.set_cons_zero, List.set_cons_succ]
        have E7 := hid (setRow_heap v9 c7_7 _ #[.bool false, .bool false, .bool false, .string ⟨#[]⟩, .int .i64 0, .int .i64 2, .int .i64 2, .string ⟨#[122, 111, 110, 101]⟩, .int .i64 0, .pointer none] _ _ F7_9.out)
        have E8 := hid (show (v9.setRow c7_7 #[.bool false, .bool false, .bool false, .string ⟨#[]⟩, .int .i64 0, .int .i64 2, .int .i64 2, .string ⟨#[122, 111, 110, 101]⟩, .int .i64 0, .pointer none]).heap[c8_9]? = _ from (setRow_other _ _ _ _ (by omega)).trans F8_9.out)
        have EB := hid (below_row BB9.out G7_7 #[.bool false, .bool false, .bool false, .string ⟨#[]⟩, .int .i64 0, .int .i64 2, .int .i64 2, .string ⟨#[122, 111, 110, 101]⟩, .int .i64 0, .pointer none])
        generalize v9.setRow c7_7 #[.bool false, .bool false, .bool false, .string ⟨#[]⟩, .int .i64 0, .int .i64 2, .int .i64 2, .string ⟨#[122, 111, 110, 101]⟩, .int .i64 0, .pointer none] = V at *
        have hHeld := MS.out V EB.out
        refine wpAnyH_ready (rs := [15]) (by kernel_rfl) (by simp) ?_
        refine AllReadyH.cons (o := { dst := none, op := Op.store 130 (Operand.tmp 8) (Operand.tmp 21), type := 0, pos := "conditions.go:64", after := #[{ on := 13, ground := Ground.data }, { on := 11, ground := Ground.data }, { on := 14, ground := Ground.chain }, { on := 0, ground := Ground.phase }, { on := 1, ground := Ground.phase }, { on := 2, ground := Ground.phase }, { on := 3, ground := Ground.phase }, { on := 4, ground := Ground.phase }, { on := 5, ground := Ground.phase }, { on := 6, ground := Ground.phase }, { on := 7, ground := Ground.phase }, { on := 8, ground := Ground.phase }, { on := 9, ground := Ground.phase }, { on := 10, ground := Ground.phase }, { on := 11, ground := Ground.phase }, { on := 12, ground := Ground.phase }, { on := 13, ground := Ground.phase }, { on := 14, ground := Ground.phase }], guard := none }) rfl (fun K hK => ?_) AllReadyH.nil
        rw [if_pos (by rfl)]
        refine wp_store_row 130 _ _ rfl c8_9 #[.bool true, .bool true, .bool true, .string ⟨#[97]⟩, .int .i64 0, .int .i64 0, .int .i64 0, .string ⟨#[]⟩, .int .i64 0, .pointer none] rfl rfl 130 _ E8.out infoOp rfl (by kernel_rfl) ?_
        refine hK.out _ _ ?_ (fun hHeld => ?_)
        · exact MS.out _ (below_row EB.out G8_9 _)
        clear hK K hHeld
        try simp only [Act.put, List.setIfInBounds_toArray, List.set_cons_zero, List.set_cons_succ]
        refine wpAnyH_done (by kernel_rfl) ?_ _
        exact ⟨rfl, c7_7, c8_9, rfl, (setRow_other _ _ _ _ (by omega)).trans E7.out, setRow_heap V c8_9 _ #[.bool true, .bool true, .bool true, .string ⟨#[97]⟩, .int .i64 0, .int .i64 0, .int .i64 0, .string ⟨#[]⟩, .int .i64 0, .pointer none] _ _ E8.out, below_row EB.out G8_9 _⟩
      refine AllReadyH.cons (o := { dst := some 8, op := Op.alloc 130, type := 0, pos := "conditions.go:64", after := #[], guard := none }) rfl (fun K hK => ?_) AllReadyH.nil
      go_simp
      refine hK.out _ _ ?_ (fun hHeld => ?_)
      · exact MS.out _ (BB7.out.alloc BB7.out.size _)
      clear hK K hHeld
      try simp only [Act.put, List.setIfInBounds_toArray, List.set_cons_zero, List.set_cons_succ]
      have BB10 := hid (BB7.out.alloc BB7.out.size (.cells #[.bool false, .bool false, .bool false, .string ⟨#[]⟩, .int .i64 0, .int .i64 0, .int .i64 0, .string ⟨#[]⟩, .int .i64 0, .pointer none] 130))
      have F8_10 := hid (heap_alloc_new v7 (.cells #[.bool false, .bool false, .bool false, .string ⟨#[]⟩, .int .i64 0, .int .i64 0, .int .i64 0, .string ⟨#[]⟩, .int .i64 0, .pointer none] 130))
      have G8_10 : X.heap.size ≤ v7.heap.size := BB7.out.size
      have N_10 := lt_blk F7_7.out
      have F7_10 := hid (((belowA v7 (.cells #[.bool false, .bool false, .bool false, .string ⟨#[]⟩, .int .i64 0, .int .i64 0, .int .i64 0, .string ⟨#[]⟩, .int .i64 0, .pointer none] 130)).block _ (lt_blk F7_7.out)).trans F7_7.out)
      generalize v7.alloc (.cells #[.bool false, .bool false, .bool false, .string ⟨#[]⟩, .int .i64 0, .int .i64 0, .int .i64 0, .string ⟨#[]⟩, .int .i64 0, .pointer none] 130) = v10 at *
      generalize v7.heap.size = c8_10 at *
      have hHeld := MS.out v10 BB10.out
      refine wpAnyH_ready (rs := [11]) (by kernel_rfl) (by simp) ?_
      refine AllReadyH.cons (o := { dst := some 21, op := Op.call { callee := Callee.value (Operand.func 71), args := #[Operand.tmp 16, Operand.tmp 20], argTypes := #[79, 3] }, type := 130, pos := "conditions.go:64", after := #[{ on := 6, ground := Ground.data }, { on := 10, ground := Ground.data }, { on := 5, ground := Ground.chain }], guard := none }) rfl (fun K hK => ?_) AllReadyH.nil
      go_simp
      refine (operand_1 gp k1 k2 sa pa sn sc pn pc v10 (HF.out.low BB10.out)).mono ?_
      rintro e v11 ⟨rfl, l⟩
      have BB11 := hid (BB10.out.trans (l.mono BB10.out.size))
      have F7_11 := hid ((l.block _ (lt_blk F7_10.out)).trans F7_10.out)
      have F8_11 := hid ((l.block _ (lt_blk F8_10.out)).trans F8_10.out)
      clear l
      refine hK.out _ _ ?_ (fun hHeld => ?_)
      · exact MS.out _ BB11.out
      clear hK K hHeld
      try simp only [Act.put, List.setIfInBounds_toArray, List.set_cons_zero, List.set_cons_succ]
      have hHeld := MS.out v11 BB11.out
      refine wpAnyH_ready (rs := [14]) (by kernel_rfl) (by simp) ?_
      refine AllReadyH.cons (o := { dst := none, op := Op.store 130 (Operand.tmp 7) (Operand.tmp 15), type := 0, pos := "conditions.go:64", after := #[{ on := 12, ground := Ground.data }, { on := 5, ground := Ground.data }, { on := 11, ground := Ground.chain }, { on := 0, ground := Ground.phase }, { on := 1, ground := Ground.phase }, { on := 2, ground := Ground.phase }, { on := 3, ground := Ground.phase }, { on := 4, ground := Ground.phase }, { on := 5, ground := Ground.phase }, { on := 6, ground := Ground.textOnly Departure.lateStores }, { on := 7, ground := Ground.textOnly Departure.lateStores }, { on := 8, ground := Ground.textOnly Departure.lateStores }, { on := 9, ground := Ground.textOnly Departure.lateStores }, { on := 10, ground := Ground.textOnly Departure.lateStores }, { on := 11, ground := Ground.textOnly Departure.lateStoresUnsure }, { on := 12, ground := Ground.phase }, { on := 13, ground := Ground.phase }], guard := none }) rfl (fun K hK => ?_) AllReadyH.nil
      rw [if_pos (by rfl)]
      refine wp_store_row 130 _ _ rfl c7_7 #[.bool false, .bool false, .bool false, .string ⟨#[]⟩, .int .i64 0, .int .i64 2, .int .i64 2, .string ⟨#[122, 111, 110, 101]⟩, .int .i64 0, .pointer none] rfl rfl 130 _ F7_11.out infoOp rfl (by kernel_rfl) ?_
      refine hK.out _ _ ?_ (fun hHeld => ?_)
      · exact MS.out _ (below_row BB11.out G7_7 _)
      clear hK K hHeld
      try simp only [Act.put, List.setIfInBounds_toArray, List.set_cons_zero, List.set_cons_succ]
      have E7 := hid (setRow_heap v11 c7_7 _ #[.bool false, .bool false, .bool false, .string ⟨#[]⟩, .int .i64 0, .int .i64 2, .int .i64 2, .string ⟨#[122, 111, 110, 101]⟩, .int .i64 0, .pointer none] _ _ F7_11.out)
      have E8 := hid (show (v11.setRow c7_7 #[.bool false, .bool false, .bool false, .string ⟨#[]⟩, .int .i64 0, .int .i64 2, .int .i64 2, .string ⟨#[122, 111, 110, 101]⟩, .int .i64 0, .pointer none]).heap[c8_10]? = _ from (setRow_other _ _ _ _ (by omega)).trans F8_11.out)
      have EB := hid (below_row BB11.out G7_7 #[.bool false, .bool false, .bool false, .string ⟨#[]⟩, .int .i64 0, .int .i64 2, .int .i64 2, .string ⟨#[122, 111, 110, 101]⟩, .int .i64 0, .pointer none])
      generalize v11.setRow c7_7 #[.bool false, .bool false, .bool false, .string ⟨#[]⟩, .int .i64 0, .int .i64 2, .int .i64 2, .string ⟨#[122, 111, 110, 101]⟩, .int .i64 0, .pointer none] = V at *
      have hHeld := MS.out V EB.out
      refine wpAnyH_ready (rs := [15]) (by kernel_rfl) (by simp) ?_
      refine AllReadyH.cons (o := { dst := none, op := Op.store 130 (Operand.tmp 8) (Operand.tmp 21), type := 0, pos := "conditions.go:64", after := #[{ on := 13, ground := Ground.data }, { on := 11, ground := Ground.data }, { on := 14, ground := Ground.chain }, { on := 0, ground := Ground.phase }, { on := 1, ground := Ground.phase }, { on := 2, ground := Ground.phase }, { on := 3, ground := Ground.phase }, { on := 4, ground := Ground.phase }, { on := 5, ground := Ground.phase }, { on := 6, ground := Ground.phase }, { on := 7, ground := Ground.phase }, { on := 8, ground := Ground.phase }, { on := 9, ground := Ground.phase }, { on := 10, ground := Ground.phase }, { on := 11, ground := Ground.phase }, { on := 12, ground := Ground.phase }, { on := 13, ground := Ground.phase }, { on := 14, ground := Ground.phase }], guard := none }) rfl (fun K hK => ?_) AllReadyH.nil
      rw [if_pos (by rfl)]
      refine wp_store_row 130 _ _ rfl c8_10 #[.bool true, .bool true, .bool true, .string ⟨#[97]⟩, .int .i64 0, .int .i64 0, .int .i64 0, .string ⟨#[]⟩, .int .i64 0, .pointer none] rfl rfl 130 _ E8.out infoOp rfl (by kernel_rfl) ?_
      refine hK.out _ _ ?_ (fun hHeld => ?_)
      · exact MS.out _ (below_row EB.out G8_10 _)
      clear hK K hHeld
      try simp only [Act.put, List.setIfInBounds_toArray, List.set_cons_zero, List.set_cons_succ]
      refine wpAnyH_done (by kernel_rfl) ?_ _
      exact ⟨rfl, c7_7, c8_10, rfl, (setRow_other _ _ _ _ (by omega)).trans E7.out, setRow_heap V c8_10 _ #[.bool true, .bool true, .bool true, .string ⟨#[97]⟩, .int .i64 0, .int .i64 0, .int .i64 0, .string ⟨#[]⟩, .int .i64 0, .pointer none] _ _ E8.out, below_row EB.out G8_10 _⟩
    refine AllReadyH.cons (o := { dst := some 8, op := Op.alloc 130, type := 0, pos := "conditions.go:64", after := #[], guard := none }) rfl (fun K hK => ?_) AllReadyH.nil
    go_simp
    refine hK.out _ _ ?_ (fun hHeld => ?_)
    · exact MS.out _ (BB1.out.alloc BB1.out.size _)
    clear hK K hHeld
    try simp only [Act.put, List.setIfInBounds_toArray, List.set_cons_zero, List.set_cons_succ]
    have BB12 := hid (BB1.out.alloc BB1.out.size (.cells #[.bool false, .bool false, .bool false, .string ⟨#[]⟩, .int .i64 0, .int .i64 0, .int .i64 0, .string ⟨#[]⟩, .int .i64 0, .pointer none] 130))
    have F8_12 := hid (heap_alloc_new v1 (.cells #[.bool false, .bool false, .bool false, .string ⟨#[]⟩, .int .i64 0, .int .i64 0, .int .i64 0, .string ⟨#[]⟩, .int .i64 0, .pointer none] 130))
    have G8_12 : X.heap.size ≤ v1.heap.size := BB1.out.size
    generalize v1.alloc (.cells #[.bool false, .bool false, .bool false, .string ⟨#[]⟩, .int .i64 0, .int .i64 0, .int .i64 0, .string ⟨#[]⟩, .int .i64 0, .pointer none] 130) = v12 at *
    generalize v1.heap.size = c8_12 at *
    have hHeld := MS.out v12 BB12.out
    refine wpAnyH_ready (rs := [11, 12]) (by kernel_rfl) (by simp) ?_
    refine AllReadyH.cons (o := { dst := some 21, op := Op.call { callee := Callee.value (Operand.func 71), args := #[Operand.tmp 16, Operand.tmp 20], argTypes := #[79, 3] }, type := 130, pos := "conditions.go:64", after := #[{ on := 6, ground := Ground.data }, { on := 10, ground := Ground.data }, { on := 5, ground := Ground.chain }], guard := none }) rfl (fun K hK => ?_) ?_
    · go_simp
      refine (operand_1 gp k1 k2 sa pa sn sc pn pc v12 (HF.out.low BB12.out)).mono ?_
      rintro e v13 ⟨rfl, l⟩
      have BB13 := hid (BB12.out.trans (l.mono BB12.out.size))
      have F8_13 := hid ((l.block _ (lt_blk F8_12.out)).trans F8_12.out)
      clear l
      refine hK.out _ _ ?_ (fun hHeld => ?_)
      · exact MS.out _ BB13.out
      clear hK K hHeld
      try simp only [Act.put, List.setIfInBounds_toArray, List.set_cons_zero, List.set_cons_succ]
      have hHeld := MS.out v13 BB13.out
      refine wpAnyH_ready (rs := [12]) (by kernel_rfl) (by simp) ?_
      refine AllReadyH.cons (o := { dst := some 7, op := Op.alloc 130, type := 0, pos := "conditions.go:64", after := #[], guard := none }) rfl (fun K hK => ?_) AllReadyH.nil
      go_simp
      refine hK.out _ _ ?_ (fun hHeld => ?_)
      · exact MS.out _ (BB13.out.alloc BB13.out.size _)
      clear hK K hHeld
      try simp only [Act.put, List.setIfInBounds_toArray, List.set_cons_zero, List.set_cons_succ]
      have BB14 := hid (BB13.out.alloc BB13.out.size (.cells #[.bool false, .bool false, .bool false, .string ⟨#[]⟩, .int .i64 0, .int .i64 0, .int .i64 0, .string ⟨#[]⟩, .int .i64 0, .pointer none] 130))
      have F7_14 := hid (heap_alloc_new v13 (.cells #[.bool false, .bool false, .bool false, .string ⟨#[]⟩, .int .i64 0, .int .i64 0, .int .i64 0, .string ⟨#[]⟩, .int .i64 0, .pointer none] 130))
      have G7_14 : X.heap.size ≤ v13.heap.size := BB13.out.size
      have N_14 := lt_blk F8_13.out
      have F8_14 := hid (((belowA v13 (.cells #[.bool false, .bool false, .bool false, .string ⟨#[]⟩, .int .i64 0, .int .i64 0, .int .i64 0, .string ⟨#[]⟩, .int .i64 0, .pointer none] 130)).block _ (lt_blk F8_13.out)).trans F8_13.out)
      generalize v13.alloc (.cells #[.bool false, .bool false, .bool false, .string ⟨#[]⟩, .int .i64 0, .int .i64 0, .int .i64 0, .string ⟨#[]⟩, .int .i64 0, .pointer none] 130) = v14 at *
      generalize v13.heap.size = c7_14 at *
      have hHeld := MS.out v14 BB14.out
      refine wpAnyH_ready (rs := [14]) (by kernel_rfl) (by simp) ?_
      refine AllReadyH.cons (o := { dst := none, op := Op.store 130 (Operand.tmp 7) (Operand.tmp 15), type := 0, pos := "conditions.go:64", after := #[{ on := 12, ground := Ground.data }, { on := 5, ground := Ground.data }, { on := 11, ground := Ground.chain }, { on := 0, ground := Ground.phase }, { on := 1, ground := Ground.phase }, { on := 2, ground := Ground.phase }, { on := 3, ground := Ground.phase }, { on := 4, ground := Ground.phase }, { on := 5, ground := Ground.phase }, { on := 6, ground := Ground.textOnly Departure.lateStores }, { on := 7, ground := Ground.textOnly Departure.lateStores }, { on := 8, ground := Ground.textOnly Departure.lateStores }, { on := 9, ground := Ground.textOnly Departure.lateStores }, { on := 10, ground := Ground.textOnly Departure.lateStores }, { on := 11, ground := Ground.textOnly Departure.lateStoresUnsure }, { on := 12, ground := Ground.phase }, { on := 13, ground := Ground.phase }], guard := none }) rfl (fun K hK => ?_) AllReadyH.nil
      rw [if_pos (by rfl)]
      refine wp_store_row 130 _ _ rfl c7_14 #[.bool false, .bool false, .bool false, .string ⟨#[]⟩, .int .i64 0, .int .i64 2, .int .i64 2, .string ⟨#[122, 111, 110, 101]⟩, .int .i64 0, .pointer none] rfl rfl 130 _ F7_14.out infoOp rfl (by kernel_rfl) ?_
      refine hK.out _ _ ?_ (fun hHeld => ?_)
      · exact MS.out _ (below_row BB14.out G7_14 _)
      clear hK K hHeld
      try simp only [Act.put, List.setIfInBounds_toArray, List.set_cons_zero, List.set_cons_succ]
      have E7 := hid (setRow_heap v14 c7_14 _ #[.bool false, .bool false, .bool false, .string ⟨#[]⟩, .int .i64 0, .int .i64 2, .int .i64 2, .string ⟨#[122, 111, 110, 101]⟩, .int .i64 0, .pointer none] _ _ F7_14.out)
      have E8 := hid (show (v14.setRow c7_14 #[.bool false, .bool false, .bool false, .string ⟨#[]⟩, .int .i64 0, .int .i64 2, .int .i64 2, .string ⟨#[122, 111, 110, 101]⟩, .int .i64 0, .pointer none]).heap[c8_12]? = _ from (setRow_other _ _ _ _ (by omega)).trans F8_14.out)
      have EB := hid (below_row BB14.out G7_14 #[.bool false, .bool false, .bool false, .string ⟨#[]⟩, .int .i64 0, .int .i64 2, .int .i64 2, .string ⟨#[122, 111, 110, 101]⟩, .int .i64 0, .pointer none])
      generalize v14.setRow c7_14 #[.bool false, .bool false, .bool false, .string ⟨#[]⟩, .int .i64 0, .int .i64 2, .int .i64 2, .string ⟨#[122, 111, 110, 101]⟩, .int .i64 0, .pointer none] = V at *
      have hHeld := MS.out V EB.out
      refine wpAnyH_ready (rs := [15]) (by kernel_rfl) (by simp) ?_
      refine AllReadyH.cons (o := { dst := none, op := Op.store 130 (Operand.tmp 8) (Operand.tmp 21), type := 0, pos := "conditions.go:64", after := #[{ on := 13, ground := Ground.data }, { on := 11, ground := Ground.data }, { on := 14, ground := Ground.chain }, { on := 0, ground := Ground.phase }, { on := 1, ground := Ground.phase }, { on := 2, ground := Ground.phase }, { on := 3, ground := Ground.phase }, { on := 4, ground := Ground.phase }, { on := 5, ground := Ground.phase }, { on := 6, ground := Ground.phase }, { on := 7, ground := Ground.phase }, { on := 8, ground := Ground.phase }, { on := 9, ground := Ground.phase }, { on := 10, ground := Ground.phase }, { on := 11, ground := Ground.phase }, { on := 12, ground := Ground.phase }, { on := 13, ground := Ground.phase }, { on := 14, ground := Ground.phase }], guard := none }) rfl (fun K hK => ?_) AllReadyH.nil
      rw [if_pos (by rfl)]
      refine wp_store_row 130 _ _ rfl c8_12 #[.bool true, .bool true, .bool true, .string ⟨#[97]⟩, .int .i64 0, .int .i64 0, .int .i64 0, .string ⟨#[]⟩, .int .i64 0, .pointer none] rfl rfl 130 _ E8.out infoOp rfl (by kernel_rfl) ?_
      refine hK.out _ _ ?_ (fun hHeld => ?_)
      · exact MS.out _ (below_row EB.out G8_12 _)
      clear hK K hHeld
      try simp only [Act.put, List.setIfInBounds_toArray, List.set_cons_zero, List.set_cons_succ]
      refine wpAnyH_done (by kernel_rfl) ?_ _
      exact ⟨rfl, c7_14, c8_12, rfl, (setRow_other _ _ _ _ (by omega)).trans E7.out, setRow_heap V c8_12 _ #[.bool true, .bool true, .bool true, .string ⟨#[97]⟩, .int .i64 0, .int .i64 0, .int .i64 0, .string ⟨#[]⟩, .int .i64 0, .pointer none] _ _ E8.out, below_row EB.out G8_12 _⟩
    refine AllReadyH.cons (o := { dst := some 7, op := Op.alloc 130, type := 0, pos := "conditions.go:64", after := #[], guard := none }) rfl (fun K hK => ?_) AllReadyH.nil
    go_simp
    refine hK.out _ _ ?_ (fun hHeld => ?_)
    · exact MS.out _ (BB12.out.alloc BB12.out.size _)
    clear hK K hHeld
    try simp only [Act.put, List.setIfInBounds_toArray, List.set_cons_zero, List.set_cons_succ]
    have BB15 := hid (BB12.out.alloc BB12.out.size (.cells #[.bool false, .bool false, .bool false, .string ⟨#[]⟩, .int .i64 0, .int .i64 0, .int .i64 0, .string ⟨#[]⟩, .int .i64 0, .pointer none] 130))
    have F7_15 := hid (heap_alloc_new v12 (.cells #[.bool false, .bool false, .bool false, .string ⟨#[]⟩, .int .i64 0, .int .i64 0, .int .i64 0, .string ⟨#[]⟩, .int .i64 0, .pointer none] 130))
    have G7_15 : X.heap.size ≤ v12.heap.size := BB12.out.size
    have N_15 := lt_blk F8_12.out
    have F8_15 := hid (((belowA v12 (.cells #[.bool false, .bool false, .bool false, .string ⟨#[]⟩, .int .i64 0, .int .i64 0, .int .i64 0, .string ⟨#[]⟩, .int .i64 0, .pointer none] 130)).block _ (lt_blk F8_12.out)).trans F8_12.out)
    generalize v12.alloc (.cells #[.bool false, .bool false, .bool false, .string ⟨#[]⟩, .int .i64 0, .int .i64 0, .int .i64 0, .string ⟨#[]⟩, .int .i64 0, .pointer none] 130) = v15 at *
    generalize v12.heap.size = c7_15 at *
    have hHeld := MS.out v15 BB15.out
    refine wpAnyH_ready (rs := [11]) (by kernel_rfl) (by simp) ?_
    refine AllReadyH.cons (o := { dst := some 21, op := Op.call { callee := Callee.value (Operand.func 71), args := #[Operand.tmp 16, Operand.tmp 20], argTypes := #[79, 3] }, type := 130, pos := "conditions.go:64", after := #[{ on := 6, ground := Ground.data }, { on := 10, ground := Ground.data }, { on := 5, ground := Ground.chain }], guard := none }) rfl (fun K hK => ?_) AllReadyH.nil
    go_simp
    refine (operand_1 gp k1 k2 sa pa sn sc pn pc v15 (HF.out.low BB15.out)).mono ?_
    rintro e v16 ⟨rfl, l⟩
    have BB16 := hid (BB15.out.trans (l.mono BB15.out.size))
    have F7_16 := hid ((l.block _ (lt_blk F7_15.out)).trans F7_15.out)
    have F8_16 := hid ((l.block _ (lt_blk F8_15.out)).trans F8_15.out)
    clear l
    refine hK.out _ _ ?_ (fun hHeld => ?_)
    · exact MS.out _ BB16.out
    clear hK K hHeld
    try simp only [Act.put, List.setIfInBounds_toArray, List.set_cons_zero, List.set_cons_succ]
    have hHeld := MS.out v16 BB16.out
    refine wpAnyH_ready (rs := [14]) (by kernel_rfl) (by simp) ?_
    refine AllReadyH.cons (o := { dst := none, op := Op.store 130 (Operand.tmp 7) (Operand.tmp 15), type := 0, pos := "conditions.go:64", after := #[{ on := 12, ground := Ground.data }, { on := 5, ground := Ground.data }, { on := 11, ground := Ground.chain }, { on := 0, ground := Ground.phase }, { on := 1, ground := Ground.phase }, { on := 2, ground := Ground.phase }, { on := 3, ground := Ground.phase }, { on := 4, ground := Ground.phase }, { on := 5, ground := Ground.phase }, { on := 6, ground := Ground.textOnly Departure.lateStores }, { on := 7, ground := Ground.textOnly Departure.lateStores }, { on := 8, ground := Ground.textOnly Departure.lateStores }, { on := 9, ground := Ground.textOnly Departure.lateStores }, { on := 10, ground := Ground.textOnly Departure.lateStores }, { on := 11, ground := Ground.textOnly Departure.lateStoresUnsure }, { on := 12, ground := Ground.phase }, { on := 13, ground := Ground.phase }], guard := none }) rfl (fun K hK => ?_) AllReadyH.nil
    rw [if_pos (by rfl)]
    refine wp_store_row 130 _ _ rfl c7_15 #[.bool false, .bool false, .bool false, .string ⟨#[]⟩, .int .i64 0, .int .i64 2, .int .i64 2, .string ⟨#[122, 111, 110, 101]⟩, .int .i64 0, .pointer none] rfl rfl 130 _ F7_16.out infoOp rfl (by kernel_rfl) ?_
    refine hK.out _ _ ?_ (fun hHeld => ?_)
    · exact MS.out _ (below_row BB16.out G7_15 _)
    clear hK K hHeld
    try simp only [Act.put, List.setIfInBounds_toArray, List.set_cons_zero, List.set_cons_succ]
    have E7 := hid (setRow_heap v16 c7_15 _ #[.bool false, .bool false, .bool false, .string ⟨#[]⟩, .int .i64 0, .int .i64 2, .int .i64 2, .string ⟨#[122, 111, 110, 101]⟩, .int .i64 0, .pointer none] _ _ F7_16.out)
    have E8 := hid (show (v16.setRow c7_15 #[.bool false, .bool false, .bool false, .string ⟨#[]⟩, .int .i64 0, .int .i64 2, .int .i64 2, .string ⟨#[122, 111, 110, 101]⟩, .int .i64 0, .pointer none]).heap[c8_12]? = _ from (setRow_other _ _ _ _ (by omega)).trans F8_16.out)
    have EB := hid (below_row BB16.out G7_15 #[.bool false, .bool false, .bool false, .string ⟨#[]⟩, .int .i64 0, .int .i64 2, .int .i64 2, .string ⟨#[122, 111, 110, 101]⟩, .int .i64 0, .pointer none])
    generalize v16.setRow c7_15 #[.bool false, .bool false, .bool false, .string ⟨#[]⟩, .int .i64 0, .int .i64 2, .int .i64 2, .string ⟨#[122, 111, 110, 101]⟩, .int .i64 0, .pointer none] = V at *
    have hHeld := MS.out V EB.out
    refine wpAnyH_ready (rs := [15]) (by kernel_rfl) (by simp) ?_
    refine AllReadyH.cons (o := { dst := none, op := Op.store 130 (Operand.tmp 8) (Operand.tmp 21), type := 0, pos := "conditions.go:64", after := #[{ on := 13, ground := Ground.data }, { on := 11, ground := Ground.data }, { on := 14, ground := Ground.chain }, { on := 0, ground := Ground.phase }, { on := 1, ground := Ground.phase }, { on := 2, ground := Ground.phase }, { on := 3, ground := Ground.phase }, { on := 4, ground := Ground.phase }, { on := 5, ground := Ground.phase }, { on := 6, ground := Ground.phase }, { on := 7, ground := Ground.phase }, { on := 8, ground := Ground.phase }, { on := 9, ground := Ground.phase }, { on := 10, ground := Ground.phase }, { on := 11, ground := Ground.phase }, { on := 12, ground := Ground.phase }, { on := 13, ground := Ground.phase }, { on := 14, ground := Ground.phase }], guard := none }) rfl (fun K hK => ?_) AllReadyH.nil
    rw [if_pos (by rfl)]
    refine wp_store_row 130 _ _ rfl c8_12 #[.bool true, .bool true, .bool true, .string ⟨#[97]⟩, .int .i64 0, .int .i64 0, .int .i64 0, .string ⟨#[]⟩, .int .i64 0, .pointer none] rfl rfl 130 _ E8.out infoOp rfl (by kernel_rfl) ?_
    refine hK.out _ _ ?_ (fun hHeld => ?_)
    · exact MS.out _ (below_row EB.out G8_12 _)
    clear hK K hHeld
    try simp only [Act.put, List.setIfInBounds_toArray, List.set_cons_zero, List.set_cons_succ]
    refine wpAnyH_done (by kernel_rfl) ?_ _
    exact ⟨rfl, c7_15, c8_12, rfl, (setRow_other _ _ _ _ (by omega)).trans E7.out, setRow_heap V c8_12 _ #[.bool true, .bool true, .bool true, .string ⟨#[97]⟩, .int .i64 0, .int .i64 0, .int .i64 0, .string ⟨#[]⟩, .int .i64 0, .pointer none] _ _ E8.out, below_row EB.out G8_12 _⟩
  refine AllReadyH.cons (o := { dst := some 7, op := Op.alloc 130, type := 0, pos := "conditions.go:64", after := #[], guard := none }) rfl (fun K hK => ?_) ?_
  · go_simp
    refine hK.out _ _ ?_ (fun hHeld => ?_)
    · exact MS.out _ (HB0.out.alloc HB0.out.size _)
    clear hK K hHeld
    try simp only [Act.put, List.setIfInBounds_toArray, List.set_cons_zero, List.set_cons_succ]
    have BB17 := hid (HB0.out.alloc HB0.out.size (.cells #[.bool false, .bool false, .bool false, .string ⟨#[]⟩, .int .i64 0, .int .i64 0, .int .i64 0, .string ⟨#[]⟩, .int .i64 0, .pointer none] 130))
    have F7_17 := hid (heap_alloc_new W0 (.cells #[.bool false, .bool false, .bool false, .string ⟨#[]⟩, .int .i64 0, .int .i64 0, .int .i64 0, .string ⟨#[]⟩, .int .i64 0, .pointer none] 130))
    have G7_17 : X.heap.size ≤ W0.heap.size := HB0.out.size
    generalize W0.alloc (.cells #[.bool false, .bool false, .bool false, .string ⟨#[]⟩, .int .i64 0, .int .i64 0, .int .i64 0, .string ⟨#[]⟩, .int .i64 0, .pointer none] 130) = v17 at *
    generalize W0.heap.size = c7_17 at *
    have hHeld := MS.out v17 BB17.out
    refine wpAnyH_ready (rs := [5, 13]) (by kernel_rfl) (by simp) ?_
    refine AllReadyH.cons (o := { dst := some 15, op := Op.call { callee := Callee.value (Operand.func 71), args := #[Operand.tmp 10, Operand.tmp 14], argTypes := #[79, 3] }, type := 130, pos := "conditions.go:64", after := #[{ on := 0, ground := Ground.data }, { on := 4, ground := Ground.data }], guard := none }) rfl (fun K hK => ?_) ?_
    · go_simp
      refine (operand_0 gp k1 k2 sa pa sn sc pn pc v17 (HF.out.low BB17.out)).mono ?_
      rintro e v18 ⟨rfl, l⟩
      have BB18 := hid (BB17.out.trans (l.mono BB17.out.size))
      have F7_18 := hid ((l.block _ (lt_blk F7_17.out)).trans F7_17.out)
      clear l
      refine hK.out _ _ ?_ (fun hHeld => ?_)
      · exact MS.out _ BB18.out
      clear hK K hHeld
      try simp only [Act.put, List.setIfInBounds_toArray, List.set_cons_zero, List.set_cons_succ]
      have hHeld := MS.out v18 BB18.out
      refine wpAnyH_ready (rs := [11, 13]) (by kernel_rfl) (by simp) ?_
      refine AllReadyH.cons (o := { dst := some 21, op := Op.call { callee := Callee.value (Operand.func 71), args := #[Operand.tmp 16, Operand.tmp 20], argTypes := #[79, 3] }, type := 130, pos := "conditions.go:64", after := #[{ on := 6, ground := Ground.data }, { on := 10, ground := Ground.data }, { on := 5, ground := Ground.chain }], guard := none }) rfl (fun K hK => ?_) ?_
      · go_simp
        refine (operand_1 gp k1 k2 sa pa sn sc pn pc v18 (HF.out.low BB18.out)).mono ?_
        rintro e v19 ⟨rfl, l⟩
        have BB19 := hid (BB18.out.trans (l.mono BB18.out.size))
        have F7_19 := hid ((l.block _ (lt_blk F7_18.out)).trans F7_18.out)
        clear l
        refine hK.out _ _ ?_ (fun hHeld => ?_)
        · exact MS.out _ BB19.out
        clear hK K hHeld
        try simp only [Act.put, List.setIfInBounds_toArray, List.set_cons_zero, List.set_cons_succ]
        have hHeld := MS.out v19 BB19.out
        refine wpAnyH_ready (rs := [13]) (by kernel_rfl) (by simp) ?_
        refine AllReadyH.cons (o := { dst := some 8, op := Op.alloc 130, type := 0, pos := "conditions.go:64", after := #[], guard := none }) rfl (fun K hK => ?_) AllReadyH.nil
        go_simp
        refine hK.out _ _ ?_ (fun hHeld => ?_)
        · exact MS.out _ (BB19.out.alloc BB19.out.size _)
        clear hK K hHeld
        try simp only [Act.put, List.setIfInBounds_toArray, List.set_cons_zero, List.set_cons_succ]
        have BB20 := hid (BB19.out.alloc BB19.out.size (.cells #[.bool false, .bool false, .bool false, .string ⟨#[]⟩, .int .i64 0, .int .i64 0, .int .i64 0, .string ⟨#[]⟩, .int .i64 0, .pointer none] 130))
        have F8_20 := hid (heap_alloc_new v19 (.cells #[.bool false, .bool false, .bool false, .string ⟨#[]⟩, .int .i64 0, .int .i64 0, .int .i64 0, .string ⟨#[]⟩, .int .i64 0, .pointer none] 130))
        have G8_20 : X.heap.size ≤ v19.heap.size := BB19.out.size
        have N_20 := lt_blk F7_19.out
        have F7_20 := hid (((belowA v19 (.cells #[.bool false, .bool false, .bool false, .string ⟨#[]⟩, .int .i64 0, .int .i64 0, .int .i64 0, .string ⟨#[]⟩, .int .i64 0, .pointer none] 130)).block _ (lt_blk F7_19.out)).trans F7_19.out)
        generalize v19.alloc (.cells #[.bool false, .bool false, .bool false, .string ⟨#[]⟩, .int .i64 0, .int .i64 0, .int .i64 0, .string ⟨#[]⟩, .int .i64 0, .pointer none] 130) = v20 at *
        generalize v19.heap.size = c8_20 at *
        have hHeld := MS.out v20 BB20.out
        refine wpAnyH_ready (rs := [14]) (by kernel_rfl) (by simp) ?_
        refine AllReadyH.cons (o := { dst := none, op := Op.store 130 (Operand.tmp 7) (Operand.tmp 15), type := 0, pos := "conditions.go:64", after := #[{ on := 12, ground := Ground.data }, { on := 5, ground := Ground.data }, { on := 11, ground := Ground.chain }, { on := 0, ground := Ground.phase }, { on := 1, ground := Ground.phase }, { on := 2, ground := Ground.phase }, { on := 3, ground := Ground.phase }, { on := 4, ground := Ground.phase }, { on := 5, ground := Ground.phase }, { on := 6, ground := Ground.textOnly Departure.lateStores }, { on := 7, ground := Ground.textOnly Departure.lateStores }, { on := 8, ground := Ground.textOnly Departure.lateStores }, { on := 9, ground := Ground.textOnly Departure.lateStores }, { on := 10, ground := Ground.textOnly Departure.lateStores }, { on := 11, ground := Ground.textOnly Departure.lateStoresUnsure }, { on := 12, ground := Ground.phase }, { on := 13, ground := Ground.phase }], guard := none }) rfl (fun K hK => ?_) AllReadyH.nil
        rw [if_pos (by rfl)]
        refine wp_store_row 130 _ _ rfl c7_17 #[.bool false, .bool false, .bool false, .string ⟨#[]⟩, .int .i64 0, .int .i64 2, .int .i64 2, .string ⟨#[122, 111, 110, 101]⟩, .int .i64 0, .pointer none] rfl rfl 130 _ F7_20.out infoOp rfl (by kernel_rfl) ?_
        refine hK.out _ _ ?_ (fun hHeld => ?_)
        · exact MS.out _ (below_row BB20.out G7_17 _)
        clear hK K hHeld
        try simp only [Act.put, List.setIfInBounds_toArray, List.set_cons_zero, List.set_cons_succ]
        have E7 := hid (setRow_heap v20 c7_17 _ #[.bool false, .bool false, .bool false, .string ⟨#[]⟩, .int .i64 0, .int .i64 2, .int .i64 2, .string ⟨#[122, 111, 110, 101]⟩, .int .i64 0, .pointer none] _ _ F7_20.out)
        have E8 := hid (show (v20.setRow c7_17 #[.bool false, .bool false, .bool false, .string ⟨#[]⟩, .int .i64 0, .int .i64 2, .int .i64 2, .string ⟨#[122, 111, 110, 101]⟩, .int .i64 0, .pointer none]).heap[c8_20]? = _ from (setRow_other _ _ _ _ (by omega)).trans F8_20.out)
        have EB := hid (below_row BB20.out G7_17 #[.bool false, .bool false, .bool false, .string ⟨#[]⟩, .int .i64 0, .int .i64 2, .int .i64 2, .string ⟨#[122, 111, 110, 101]⟩, .int .i64 0, .pointer none])
        generalize v20.setRow c7_17 #[.bool false, .bool false, .bool false, .string ⟨#[]⟩, .int .i64 0, .int .i64 2, .int .i64 2, .string ⟨#[122, 111, 110, 101]⟩, .int .i64 0, .pointer none] = V at *
        have hHeld := MS.out V EB.out
        refine wpAnyH_ready (rs := [15]) (by kernel_rfl) (by simp) ?_
        refine AllReadyH.cons (o := { dst := none, op := Op.store 130 (Operand.tmp 8) (Operand.tmp 21), type := 0, pos := "conditions.go:64", after := #[{ on := 13, ground := Ground.data }, { on := 11, ground := Ground.data }, { on := 14, ground := Ground.chain }, { on := 0, ground := Ground.phase }, { on := 1, ground := Ground.phase }, { on := 2, ground := Ground.phase }, { on := 3, ground := Ground.phase }, { on := 4, ground := Ground.phase }, { on := 5, ground := Ground.phase }, { on := 6, ground := Ground.phase }, { on := 7, ground := Ground.phase }, { on := 8, ground := Ground.phase }, { on := 9, ground := Ground.phase }, { on := 10, ground := Ground.phase }, { on := 11, ground := Ground.phase }, { on := 12, ground := Ground.phase }, { on := 13, ground := Ground.phase }, { on := 14, ground := Ground.phase }], guard := none }) rfl (fun K hK => ?_) AllReadyH.nil
        rw [if_pos (by rfl)]
        refine wp_store_row 130 _ _ rfl c8_20 #[.bool true, .bool true, .bool true, .string ⟨#[97]⟩, .int .i64 0, .int .i64 0, .int .i64 0, .string ⟨#[]⟩, .int .i64 0, .pointer none] rfl rfl 130 _ E8.out infoOp rfl (by kernel_rfl) ?_
        refine hK.out _ _ ?_ (fun hHeld => ?_)
        · exact MS.out _ (below_row EB.out G8_20 _)
        clear hK K hHeld
        try simp only [Act.put, List.setIfInBounds_toArray, List.set_cons_zero, List.set_cons_succ]
        refine wpAnyH_done (by kernel_rfl) ?_ _
        exact ⟨rfl, c7_17, c8_20, rfl, (setRow_other _ _ _ _ (by omega)).trans E7.out, setRow_heap V c8_20 _ #[.bool true, .bool true, .bool true, .string ⟨#[97]⟩, .int .i64 0, .int .i64 0, .int .i64 0, .string ⟨#[]⟩, .int .i64 0, .pointer none] _ _ E8.out, below_row EB.out G8_20 _⟩
      refine AllReadyH.cons (o := { dst := some 8, op := Op.alloc 130, type := 0, pos := "conditions.go:64", after := #[], guard := none }) rfl (fun K hK => ?_) AllReadyH.nil
      go_simp
      refine hK.out _ _ ?_ (fun hHeld => ?_)
      · exact MS.out _ (BB18.out.alloc BB18.out.size _)
      clear hK K hHeld
      try simp only [Act.put, List.setIfInBounds_toArray, List.set_cons_zero, List.set_cons_succ]
      have BB21 := hid (BB18.out.alloc BB18.out.size (.cells #[.bool false, .bool false, .bool false, .string ⟨#[]⟩, .int .i64 0, .int .i64 0, .int .i64 0, .string ⟨#[]⟩, .int .i64 0, .pointer none] 130))
      have F8_21 := hid (heap_alloc_new v18 (.cells #[.bool false, .bool false, .bool false, .string ⟨#[]⟩, .int .i64 0, .int .i64 0, .int .i64 0, .string ⟨#[]⟩, .int .i64 0, .pointer none] 130))
      have G8_21 : X.heap.size ≤ v18.heap.size := BB18.out.size
      have N_21 := lt_blk F7_18.out
      have F7_21 := hid (((belowA v18 (.cells #[.bool false, .bool false, .bool false, .string ⟨#[]⟩, .int .i64 0, .int .i64 0, .int .i64 0, .string ⟨#[]⟩, .int .i64 0, .pointer none] 130)).block _ (lt_blk F7_18.out)).trans F7_18.out)
      generalize v18.alloc (.cells #[.bool false, .bool false, .bool false, .string ⟨#[]⟩, .int .i64 0, .int .i64 0, .int .i64 0, .string ⟨#[]⟩, .int .i64 0, .pointer none] 130) = v21 at *
      generalize v18.heap.size = c8_21 at *
      have hHeld := MS.out v21 BB21.out
      refine wpAnyH_ready (rs := [11]) (by kernel_rfl) (by simp) ?_
      refine AllReadyH.cons (o := { dst := some 21, op := Op.call { callee := Callee.value (Operand.func 71), args := #[Operand.tmp 16, Operand.tmp 20], argTypes := #[79, 3] }, type := 130, pos := "conditions.go:64", after := #[{ on := 6, ground := Ground.data }, { on := 10, ground := Ground.data }, { on := 5, ground := Ground.chain }], guard := none }) rfl (fun K hK => ?_) AllReadyH.nil
      go_simp
      refine (operand_1 gp k1 k2 sa pa sn sc pn pc v21 (HF.out.low BB21.out)).mono ?_
      rintro e v22 ⟨rfl, l⟩
      have BB22 := hid (BB21.out.trans (l.mono BB21.out.size))
      have F7_22 := hid ((l.block _ (lt_blk F7_21.out)).trans F7_21.out)
      have F8_22 := hid ((l.block _ (lt_blk F8_21.out)).trans F8_21.out)
      clear l
      refine hK.out _ _ ?_ (fun hHeld => ?_)
      · exact MS.out _ BB22.out
      clear hK K hHeld
      try simp only [Act.put, List.setIfInBounds_toArray, List.set_cons_zero, List.set_cons_succ]
      have hHeld := MS.out v22 BB22.out
      refine wpAnyH_ready (rs := [14]) (by kernel_rfl) (by simp) ?_
      refine AllReadyH.cons (o := { dst := none, op := Op.store 130 (Operand.tmp 7) (Operand.tmp 15), type := 0, pos := "conditions.go:64", after := #[{ on := 12, ground := Ground.data }, { on := 5, ground := Ground.data }, { on := 11, ground := Ground.chain }, { on := 0, ground := Ground.phase }, { on := 1, ground := Ground.phase }, { on := 2, ground := Ground.phase }, { on := 3, ground := Ground.phase }, { on := 4, ground := Ground.phase }, { on := 5, ground := Ground.phase }, { on := 6, ground := Ground.textOnly Departure.lateStores }, { on := 7, ground := Ground.textOnly Departure.lateStores }, { on := 8, ground := Ground.textOnly Departure.lateStores }, { on := 9, ground := Ground.textOnly Departure.lateStores }, { on := 10, ground := Ground.textOnly Departure.lateStores }, { on := 11, ground := Ground.textOnly Departure.lateStoresUnsure }, { on := 12, ground := Ground.phase }, { on := 13, ground := Ground.phase }], guard := none }) rfl (fun K hK => ?_) AllReadyH.nil
      rw [if_pos (by rfl)]
      refine wp_store_row 130 _ _ rfl c7_17 #[.bool false, .bool false, .bool false, .string ⟨#[]⟩, .int .i64 0, .int .i64 2, .int .i64 2, .string ⟨#[122, 111, 110, 101]⟩, .int .i64 0, .pointer none] rfl rfl 130 _ F7_22.out infoOp rfl (by kernel_rfl) ?_
      refine hK.out _ _ ?_ (fun hHeld => ?_)
      · exact MS.out _ (below_row BB22.out G7_17 _)
      clear hK K hHeld
      try simp only [Act.put, List.setIfInBounds_toArray, List.set_cons_zero, List.set_cons_succ]
      have E7 := hid (setRow_heap v22 c7_17 _ #[.bool false, .bool false, .bool false, .string ⟨#[]⟩, .int .i64 0, .int .i64 2, .int .i64 2, .string ⟨#[122, 111, 110, 101]⟩, .int .i64 0, .pointer none] _ _ F7_22.out)
      have E8 := hid (show (v22.setRow c7_17 #[.bool false, .bool false, .bool false, .string ⟨#[]⟩, .int .i64 0, .int .i64 2, .int .i64 2, .string ⟨#[122, 111, 110, 101]⟩, .int .i64 0, .pointer none]).heap[c8_21]? = _ from (setRow_other _ _ _ _ (by omega)).trans F8_22.out)
      have EB := hid (below_row BB22.out G7_17 #[.bool false, .bool false, .bool false, .string ⟨#[]⟩, .int .i64 0, .int .i64 2, .int .i64 2, .string ⟨#[122, 111, 110, 101]⟩, .int .i64 0, .pointer none])
      generalize v22.setRow c7_17 #[.bool false, .bool false, .bool false, .string ⟨#[]⟩, .int .i64 0, .int .i64 2, .int .i64 2, .string ⟨#[122, 111, 110, 101]⟩, .int .i64 0, .pointer none] = V at *
      have hHeld := MS.out V EB.out
      refine wpAnyH_ready (rs := [15]) (by kernel_rfl) (by simp) ?_
      refine AllReadyH.cons (o := { dst := none, op := Op.store 130 (Operand.tmp 8) (Operand.tmp 21), type := 0, pos := "conditions.go:64", after := #[{ on := 13, ground := Ground.data }, { on := 11, ground := Ground.data }, { on := 14, ground := Ground.chain }, { on := 0, ground := Ground.phase }, { on := 1, ground := Ground.phase }, { on := 2, ground := Ground.phase }, { on := 3, ground := Ground.phase }, { on := 4, ground := Ground.phase }, { on := 5, ground := Ground.phase }, { on := 6, ground := Ground.phase }, { on := 7, ground := Ground.phase }, { on := 8, ground := Ground.phase }, { on := 9, ground := Ground.phase }, { on := 10, ground := Ground.phase }, { on := 11, ground := Ground.phase }, { on := 12, ground := Ground.phase }, { on := 13, ground := Ground.phase }, { on := 14, ground := Ground.phase }], guard := none }) rfl (fun K hK => ?_) AllReadyH.nil
      rw [if_pos (by rfl)]
      refine wp_store_row 130 _ _ rfl c8_21 #[.bool true, .bool true, .bool true, .string ⟨#[97]⟩, .int .i64 0, .int .i64 0, .int .i64 0, .string ⟨#[]⟩, .int .i64 0, .pointer none] rfl rfl 130 _ E8.out infoOp rfl (by kernel_rfl) ?_
      refine hK.out _ _ ?_ (fun hHeld => ?_)
      · exact MS.out _ (below_row EB.out G8_21 _)
      clear hK K hHeld
      try simp only [Act.put, List.setIfInBounds_toArray, List.set_cons_zero, List.set_cons_succ]
      refine wpAnyH_done (by kernel_rfl) ?_ _
      exact ⟨rfl, c7_17, c8_21, rfl, (setRow_other _ _ _ _ (by omega)).trans E7.out, setRow_heap V c8_21 _ #[.bool true, .bool true, .bool true, .string ⟨#[97]⟩, .int .i64 0, .int .i64 0, .int .i64 0, .string ⟨#[]⟩, .int .i64 0, .pointer none] _ _ E8.out, below_row EB.out G8_21 _⟩
    refine AllReadyH.cons (o := { dst := some 8, op := Op.alloc 130, type := 0, pos := "conditions.go:64", after := #[], guard := none }) rfl (fun K hK => ?_) AllReadyH.nil
    go_simp
    refine hK.out _ _ ?_ (fun hHeld => ?_)
    · exact MS.out _ (BB17.out.alloc BB17.out.size _)
    clear hK K hHeld
    try simp only [Act.put, List.setIfInBounds_toArray, List.set_cons_zero, List.set_cons_succ]
    have BB23 := hid (BB17.out.alloc BB17.out.size (.cells #[.bool false, .bool false, .bool false, .string ⟨#[]⟩, .int .i64 0, .int .i64 0, .int .i64 0, .string ⟨#[]⟩, .int .i64 0, .pointer none] 130))
    have F8_23 := hid (heap_alloc_new v17 (.cells #[.bool false, .bool false, .bool false, .string ⟨#[]⟩, .int .i64 0, .int .i64 0, .int .i64 0, .string ⟨#[]⟩, .int .i64 0, .pointer none] 130))
    have G8_23 : X.heap.size ≤ v17.heap.size := BB17.out.size
    have N_23 := lt_blk F7_17.out
    have F7_23 := hid (((belowA v17 (.cells #[.bool false, .bool false, .bool false, .string ⟨#[]⟩, .int .i64 0, .int .i64 0, .int .i64 0, .string ⟨#[]⟩, .int .i64 0, .pointer none] 130)).block _ (lt_blk F7_17.out)).trans F7_17.out)
    generalize v17.alloc (.cells #[.bool false, .bool false, .bool false, .string ⟨#[]⟩, .int .i64 0, .int .i64 0, .int .i64 0, .string ⟨#[]⟩, .int .i64 0, .pointer none] 130) = v23 at *
    generalize v17.heap.size = c8_23 at *
    have hHeld := MS.out v23 BB23.out
    refine wpAnyH_ready (rs := [5]) (by kernel_rfl) (by simp) ?_
    refine AllReadyH.cons (o := { dst := some 15, op := Op.call { callee := Callee.value (Operand.func 71), args := #[Operand.tmp 10, Operand.tmp 14], argTypes := #[79, 3] }, type := 130, pos := "conditions.go:64", after := #[{ on := 0, ground := Ground.data }, { on := 4, ground := Ground.data }], guard := none }) rfl (fun K hK => ?_) AllReadyH.nil
    go_simp
    refine (operand_0 gp k1 k2 sa pa sn sc pn pc v23 (HF.out.low BB23.out)).mono ?_
    rintro e v24 ⟨rfl, l⟩
    have BB24 := hid (BB23.out.trans (l.mono BB23.out.size))
    have F7_24 := hid ((l.block _ (lt_blk F7_23.out)).trans F7_23.out)
    have F8_24 := hid ((l.block _ (lt_blk F8_23.out)).trans F8_23.out)
    clear l
    refine hK.out _ _ ?_ (fun hHeld => ?_)
    · exact MS.out _ BB24.out
    clear hK K hHeld
    try simp only [Act.put, List.setIfInBounds_toArray, List.set_cons_zero, List.set_cons_succ]
    have hHeld := MS.out v24 BB24.out
    refine wpAnyH_ready (rs := [11]) (by kernel_rfl) (by simp) ?_
    refine AllReadyH.cons (o := { dst := some 21, op := Op.call { callee := Callee.value (Operand.func 71), args := #[Operand.tmp 16, Operand.tmp 20], argTypes := #[79, 3] }, type := 130, pos := "conditions.go:64", after := #[{ on := 6, ground := Ground.data }, { on := 10, ground := Ground.data }, { on := 5, ground := Ground.chain }], guard := none }) rfl (fun K hK => ?_) AllReadyH.nil
    go_simp
    refine (operand_1 gp k1 k2 sa pa sn sc pn pc v24 (HF.out.low BB24.out)).mono ?_
    rintro e v25 ⟨rfl, l⟩
    have BB25 := hid (BB24.out.trans (l.mono BB24.out.size))
    have F7_25 := hid ((l.block _ (lt_blk F7_24.out)).trans F7_24.out)
    have F8_25 := hid ((l.block _ (lt_blk F8_24.out)).trans F8_24.out)
    clear l
    refine hK.out _ _ ?_ (fun hHeld => ?_)
    · exact MS.out _ BB25.out
    clear hK K hHeld
    try simp only [Act.put, List.setIfInBounds_toArray, List.set_cons_zero, List.set_cons_succ]
    have hHeld := MS.out v25 BB25.out
    refine wpAnyH_ready (rs := [14]) (by kernel_rfl) (by simp) ?_
    refine AllReadyH.cons (o := { dst := none, op := Op.store 130 (Operand.tmp 7) (Operand.tmp 15), type := 0, pos := "conditions.go:64", after := #[{ on := 12, ground := Ground.data }, { on := 5, ground := Ground.data }, { on := 11, ground := Ground.chain }, { on := 0, ground := Ground.phase }, { on := 1, ground := Ground.phase }, { on := 2, ground := Ground.phase }, { on := 3, ground := Ground.phase }, { on := 4, ground := Ground.phase }, { on := 5, ground := Ground.phase }, { on := 6, ground := Ground.textOnly Departure.lateStores }, { on := 7, ground := Ground.textOnly Departure.lateStores }, { on := 8, ground := Ground.textOnly Departure.lateStores }, { on := 9, ground := Ground.textOnly Departure.lateStores }, { on := 10, ground := Ground.textOnly Departure.lateStores }, { on := 11, ground := Ground.textOnly Departure.lateStoresUnsure }, { on := 12, ground := Ground.phase }, { on := 13, ground := Ground.phase }], guard := none }) rfl (fun K hK => ?_) AllReadyH.nil
    rw [if_pos (by rfl)]
    refine wp_store_row 130 _ _ rfl c7_17 #[.bool false, .bool false, .bool false, .string ⟨#[]⟩, .int .i64 0, .int .i64 2, .int .i64 2, .string ⟨#[122, 111, 110, 101]⟩, .int .i64 0, .pointer none] rfl rfl 130 _ F7_25.out infoOp rfl (by kernel_rfl) ?_
    refine hK.out _ _ ?_ (fun hHeld => ?_)
    · exact MS.out _ (below_row BB25.out G7_17 _)
    clear hK K hHeld
    try simp only [Act.put, List.setIfInBounds_toArray, List.set_cons_zero, List.set_cons_succ]
    have E7 := hid (setRow_heap v25 c7_17 _ #[.bool false, .bool false, .bool false, .string ⟨#[]⟩, .int .i64 0, .int .i64 2, .int .i64 2, .string ⟨#[122, 111, 110, 101]⟩, .int .i64 0, .pointer none] _ _ F7_25.out)
    have E8 := hid (show (v25.setRow c7_17 #[.bool false, .bool false, .bool false, .string ⟨#[]⟩, .int .i64 0, .int .i64 2, .int .i64 2, .string ⟨#[122, 111, 110, 101]⟩, .int .i64 0, .pointer none]).heap[c8_23]? = _ from (setRow_other _ _ _ _ (by omega)).trans F8_25.out)
    have EB := hid (below_row BB25.out G7_17 #[.bool false, .bool false, .bool false, .string ⟨#[]⟩, .int .i64 0, .int .i64 2, .int .i64 2, .string ⟨#[122, 111, 110, 101]⟩, .int .i64 0, .pointer none])
    generalize v25.setRow c7_17 #[.bool false, .bool false, .bool false, .string ⟨#[]⟩, .int .i64 0, .int .i64 2, .int .i64 2, .string ⟨#[122, 111, 110, 101]⟩, .int .i64 0, .pointer none] = V at *
    have hHeld := MS.out V EB.out
    refine wpAnyH_ready (rs := [15]) (by kernel_rfl) (by simp) ?_
    refine AllReadyH.cons (o := { dst := none, op := Op.store 130 (Operand.tmp 8) (Operand.tmp 21), type := 0, pos := "conditions.go:64", after := #[{ on := 13, ground := Ground.data }, { on := 11, ground := Ground.data }, { on := 14, ground := Ground.chain }, { on := 0, ground := Ground.phase }, { on := 1, ground := Ground.phase }, { on := 2, ground := Ground.phase }, { on := 3, ground := Ground.phase }, { on := 4, ground := Ground.phase }, { on := 5, ground := Ground.phase }, { on := 6, ground := Ground.phase }, { on := 7, ground := Ground.phase }, { on := 8, ground := Ground.phase }, { on := 9, ground := Ground.phase }, { on := 10, ground := Ground.phase }, { on := 11, ground := Ground.phase }, { on := 12, ground := Ground.phase }, { on := 13, ground := Ground.phase }, { on := 14, ground := Ground.phase }], guard := none }) rfl (fun K hK => ?_) AllReadyH.nil
    rw [if_pos (by rfl)]
    refine wp_store_row 130 _ _ rfl c8_23 #[.bool true, .bool true, .bool true, .string ⟨#[97]⟩, .int .i64 0, .int .i64 0, .int .i64 0, .string ⟨#[]⟩, .int .i64 0, .pointer none] rfl rfl 130 _ E8.out infoOp rfl (by kernel_rfl) ?_
    refine hK.out _ _ ?_ (fun hHeld => ?_)
    · exact MS.out _ (below_row EB.out G8_23 _)
    clear hK K hHeld
    try simp only [Act.put, List.setIfInBounds_toArray, List.set_cons_zero, List.set_cons_succ]
    refine wpAnyH_done (by kernel_rfl) ?_ _
    exact ⟨rfl, c7_17, c8_23, rfl, (setRow_other _ _ _ _ (by omega)).trans E7.out, setRow_heap V c8_23 _ #[.bool true, .bool true, .bool true, .string ⟨#[97]⟩, .int .i64 0, .int .i64 0, .int .i64 0, .string ⟨#[]⟩, .int .i64 0, .pointer none] _ _ E8.out, below_row EB.out G8_23 _⟩
  refine AllReadyH.cons (o := { dst := some 8, op := Op.alloc 130, type := 0, pos := "conditions.go:64", after := #[], guard := none }) rfl (fun K hK => ?_) AllReadyH.nil
  go_simp
  refine hK.out _ _ ?_ (fun hHeld => ?_)
  · exact MS.out _ (HB0.out.alloc HB0.out.size _)
  clear hK K hHeld
  try simp only [Act.put, List.setIfInBounds_toArray, List.set_cons_zero, List.set_cons_succ]
  have BB26 := hid (HB0.out.alloc HB0.out.size (.cells #[.bool false, .bool false, .bool false, .string ⟨#[]⟩, .int .i64 0, .int .i64 0, .int .i64 0, .string ⟨#[]⟩, .int .i64 0, .pointer none] 130))
  have F8_26 := hid (heap_alloc_new W0 (.cells #[.bool false, .bool false, .bool false, .string ⟨#[]⟩, .int .i64 0, .int .i64 0, .int .i64 0, .string ⟨#[]⟩, .int .i64 0, .pointer none] 130))
  have G8_26 : X.heap.size ≤ W0.heap.size := HB0.out.size
  generalize W0.alloc (.cells #[.bool false, .bool false, .bool false, .string ⟨#[]⟩, .int .i64 0, .int .i64 0, .int .i64 0, .string ⟨#[]⟩, .int .i64 0, .pointer none] 130) = v26 at *
  generalize W0.heap.size = c8_26 at *
  have hHeld := MS.out v26 BB26.out
  refine wpAnyH_ready (rs := [5, 12]) (by kernel_rfl) (by simp) ?_
  refine AllReadyH.cons (o := { dst := some 15, op := Op.call { callee := Callee.value (Operand.func 71), args := #[Operand.tmp 10, Operand.tmp 14], argTypes := #[79, 3] }, type := 130, pos := "conditions.go:64", after := #[{ on := 0, ground := Ground.data }, { on := 4, ground := Ground.data }], guard := none }) rfl (fun K hK => ?_) ?_
  · go_simp
    refine (operand_0 gp k1 k2 sa pa sn sc pn pc v26 (HF.out.low BB26.out)).mono ?_
    rintro e v27 ⟨rfl, l⟩
    have BB27 := hid (BB26.out.trans (l.mono BB26.out.size))
    have F8_27 := hid ((l.block _ (lt_blk F8_26.out)).trans F8_26.out)
    clear l
    refine hK.out _ _ ?_ (fun hHeld => ?_)
    · exact MS.out _ BB27.out
    clear hK K hHeld
    try simp only [Act.put, List.setIfInBounds_toArray, List.set_cons_zero, List.set_cons_succ]
    have hHeld := MS.out v27 BB27.out
    refine wpAnyH_ready (rs := [11, 12]) (by kernel_rfl) (by simp) ?_
    refine AllReadyH.cons (o := { dst := some 21, op := Op.call { callee := Callee.value (Operand.func 71), args := #[Operand.tmp 16, Operand.tmp 20], argTypes := #[79, 3] }, type := 130, pos := "conditions.go:64", after := #[{ on := 6, ground := Ground.data }, { on := 10, ground := Ground.data }, { on := 5, ground := Ground.chain }], guard := none }) rfl (fun K hK => ?_) ?_
    · go_simp
      refine (operand_1 gp k1 k2 sa pa sn sc pn pc v27 (HF.out.low BB27.out)).mono ?_
      rintro e v28 ⟨rfl, l⟩
      have BB28 := hid (BB27.out.trans (l.mono BB27.out.size))
      have F8_28 := hid ((l.block _ (lt_blk F8_27.out)).trans F8_27.out)
      clear l
      refine hK.out _ _ ?_ (fun hHeld => ?_)
      · exact MS.out _ BB28.out
      clear hK K hHeld
      try simp only [Act.put, List.setIfInBounds_toArray, List.set_cons_zero, List.set_cons_succ]
      have hHeld := MS.out v28 BB28.out
      refine wpAnyH_ready (rs := [12]) (by kernel_rfl) (by simp) ?_
      refine AllReadyH.cons (o := { dst := some 7, op := Op.alloc 130, type := 0, pos := "conditions.go:64", after := #[], guard := none }) rfl (fun K hK => ?_) AllReadyH.nil
      go_simp
      refine hK.out _ _ ?_ (fun hHeld => ?_)
      · exact MS.out _ (BB28.out.alloc BB28.out.size _)
      clear hK K hHeld
      try simp only [Act.put, List.setIfInBounds_toArray, List.set_cons_zero, List.set_cons_succ]
      have BB29 := hid (BB28.out.alloc BB28.out.size (.cells #[.bool false, .bool false, .bool false, .string ⟨#[]⟩, .int .i64 0, .int .i64 0, .int .i64 0, .string ⟨#[]⟩, .int .i64 0, .pointer none] 130))
      have F7_29 := hid (heap_alloc_new v28 (.cells #[.bool false, .bool false, .bool false, .string ⟨#[]⟩, .int .i64 0, .int .i64 0, .int .i64 0, .string ⟨#[]⟩, .int .i64 0, .pointer none] 130))
      have G7_29 : X.heap.size ≤ v28.heap.size := BB28.out.size
      have N_29 := lt_blk F8_28.out
      have F8_29 := hid (((belowA v28 (.cells #[.bool false, .bool false, .bool false, .string ⟨#[]⟩, .int .i64 0, .int .i64 0, .int .i64 0, .string ⟨#[]⟩, .int .i64 0, .pointer none] 130)).block _ (lt_blk F8_28.out)).trans F8_28.out)
      generalize v28.alloc (.cells #[.bool false, .bool false, .bool false, .string ⟨#[]⟩, .int .i64 0, .int .i64 0, .int .i64 0, .string ⟨#[]⟩, .int .i64 0, .pointer none] 130) = v29 at *
      generalize v28.heap.size = c7_29 at *
      have hHeld := MS.out v29 BB29.out
      refine wpAnyH_ready (rs := [14]) (by kernel_rfl) (by simp) ?_
      refine AllReadyH.cons (o := { dst := none, op := Op.store 130 (Operand.tmp 7) (Operand.tmp 15), type := 0, pos := "conditions.go:64", after := #[{ on := 12, ground := Ground.data }, { on := 5, ground := Ground.data }, { on := 11, ground := Ground.chain }, { on := 0, ground := Ground.phase }, { on := 1, ground := Ground.phase }, { on := 2, ground := Ground.phase }, { on := 3, ground := Ground.phase }, { on := 4, ground := Ground.phase }, { on := 5, ground := Ground.phase }, { on := 6, ground := Ground.textOnly Departure.lateStores }, { on := 7, ground := Ground.textOnly Departure.lateStores }, { on := 8, ground := Ground.textOnly Departure.lateStores }, { on := 9, ground := Ground.textOnly Departure.lateStores }, { on := 10, ground := Ground.textOnly Departure.lateStores }, { on := 11, ground := Ground.textOnly Departure.lateStoresUnsure }, { on := 12, ground := Ground.phase }, { on := 13, ground := Ground.phase }], guard := none }) rfl (fun K hK => ?_) AllReadyH.nil
      rw [if_pos (by rfl)]
      refine wp_store_row 130 _ _ rfl c7_29 #[.bool false, .bool false, .bool false, .string ⟨#[]⟩, .int .i64 0, .int .i64 2, .int .i64 2, .string ⟨#[122, 111, 110, 101]⟩, .int .i64 0, .pointer none] rfl rfl 130 _ F7_29.out infoOp rfl (by kernel_rfl) ?_
      refine hK.out _ _ ?_ (fun hHeld => ?_)
      · exact MS.out _ (below_row BB29.out G7_29 _)
      clear hK K hHeld
      try simp only [Act.put, List.setIfInBounds_toArray, List.set_cons_zero, List.set_cons_succ]
      have E7 := hid (setRow_heap v29 c7_29 _ #[.bool false, .bool false, .bool false, .string ⟨#[]⟩, .int .i64 0, .int .i64 2, .int .i64 2, .string ⟨#[122, 111, 110, 101]⟩, .int .i64 0, .pointer none] _ _ F7_29.out)
      have E8 := hid (show (v29.setRow c7_29 #[.bool false, .bool false, .bool false, .string ⟨#[]⟩, .int .i64 0, .int .i64 2, .int .i64 2, .string ⟨#[122, 111, 110, 101]⟩, .int .i64 0, .pointer none]).heap[c8_26]? = _ from (setRow_other _ _ _ _ (by omega)).trans F8_29.out)
      have EB := hid (below_row BB29.out G7_29 #[.bool false, .bool false, .bool false, .string ⟨#[]⟩, .int .i64 0, .int .i64 2, .int .i64 2, .string ⟨#[122, 111, 110, 101]⟩, .int .i64 0, .pointer none])
      generalize v29.setRow c7_29 #[.bool false, .bool false, .bool false, .string ⟨#[]⟩, .int .i64 0, .int .i64 2, .int .i64 2, .string ⟨#[122, 111, 110, 101]⟩, .int .i64 0, .pointer none] = V at *
      have hHeld := MS.out V EB.out
      refine wpAnyH_ready (rs := [15]) (by kernel_rfl) (by simp) ?_
      refine AllReadyH.cons (o := { dst := none, op := Op.store 130 (Operand.tmp 8) (Operand.tmp 21), type := 0, pos := "conditions.go:64", after := #[{ on := 13, ground := Ground.data }, { on := 11, ground := Ground.data }, { on := 14, ground := Ground.chain }, { on := 0, ground := Ground.phase }, { on := 1, ground := Ground.phase }, { on := 2, ground := Ground.phase }, { on := 3, ground := Ground.phase }, { on := 4, ground := Ground.phase }, { on := 5, ground := Ground.phase }, { on := 6, ground := Ground.phase }, { on := 7, ground := Ground.phase }, { on := 8, ground := Ground.phase }, { on := 9, ground := Ground.phase }, { on := 10, ground := Ground.phase }, { on := 11, ground := Ground.phase }, { on := 12, ground := Ground.phase }, { on := 13, ground := Ground.phase }, { on := 14, ground := Ground.phase }], guard := none }) rfl (fun K hK => ?_) AllReadyH.nil
      rw [if_pos (by rfl)]
      refine wp_store_row 130 _ _ rfl c8_26 #[.bool true, .bool true, .bool true, .string ⟨#[97]⟩, .int .i64 0, .int .i64 0, .int .i64 0, .string ⟨#[]⟩, .int .i64 0, .pointer none] rfl rfl 130 _ E8.out infoOp rfl (by kernel_rfl) ?_
      refine hK.out _ _ ?_ (fun hHeld => ?_)
      · exact MS.out _ (below_row EB.out G8_26 _)
      clear hK K hHeld
      try simp only [Act.put, List.setIfInBounds_toArray, List.set_cons_zero, List.set_cons_succ]
      refine wpAnyH_done (by kernel_rfl) ?_ _
      exact ⟨rfl, c7_29, c8_26, rfl, (setRow_other _ _ _ _ (by omega)).trans E7.out, setRow_heap V c8_26 _ #[.bool true, .bool true, .bool true, .string ⟨#[97]⟩, .int .i64 0, .int .i64 0, .int .i64 0, .string ⟨#[]⟩, .int .i64 0, .pointer none] _ _ E8.out, below_row EB.out G8_26 _⟩
    refine AllReadyH.cons (o := { dst := some 7, op := Op.alloc 130, type := 0, pos := "conditions.go:64", after := #[], guard := none }) rfl (fun K hK => ?_) AllReadyH.nil
    go_simp
    refine hK.out _ _ ?_ (fun hHeld => ?_)
    · exact MS.out _ (BB27.out.alloc BB27.out.size _)
    clear hK K hHeld
    try simp only [Act.put, List.setIfInBounds_toArray, List.set_cons_zero, List.set_cons_succ]
    have BB30 := hid (BB27.out.alloc BB27.out.size (.cells #[.bool false, .bool false, .bool false, .string ⟨#[]⟩, .int .i64 0, .int .i64 0, .int .i64 0, .string ⟨#[]⟩, .int .i64 0, .pointer none] 130))
    have F7_30 := hid (heap_alloc_new v27 (.cells #[.bool false, .bool false, .bool false, .string ⟨#[]⟩, .int .i64 0, .int .i64 0, .int .i64 0, .string ⟨#[]⟩, .int .i64 0, .pointer none] 130))
    have G7_30 : X.heap.size ≤ v27.heap.size := BB27.out.size
    have N_30 := lt_blk F8_27.out
    have F8_30 := hid (((belowA v27 (.cells #[.bool false, .bool false, .bool false, .string ⟨#[]⟩, .int .i64 0, .int .i64 0, .int .i64 0, .string ⟨#[]⟩, .int .i64 0, .pointer none] 130)).block _ (lt_blk F8_27.out)).trans F8_27.out)
    generalize v27.alloc (.cells #[.bool false, .bool false, .bool false, .string ⟨#[]⟩, .int .i64 0, .int .i64 0, .int .i64 0, .string ⟨#[]⟩, .int .i64 0, .pointer none] 130) = v30 at *
    generalize v27.heap.size = c7_30 at *
    have hHeld := MS.out v30 BB30.out
    refine wpAnyH_ready (rs := [11]) (by kernel_rfl) (by simp) ?_
    refine AllReadyH.cons (o := { dst := some 21, op := Op.call { callee := Callee.value (Operand.func 71), args := #[Operand.tmp 16, Operand.tmp 20], argTypes := #[79, 3] }, type := 130, pos := "conditions.go:64", after := #[{ on := 6, ground := Ground.data }, { on := 10, ground := Ground.data }, { on := 5, ground := Ground.chain }], guard := none }) rfl (fun K hK => ?_) AllReadyH.nil
    go_simp
    refine (operand_1 gp k1 k2 sa pa sn sc pn pc v30 (HF.out.low BB30.out)).mono ?_
    rintro e v31 ⟨rfl, l⟩
    have BB31 := hid (BB30.out.trans (l.mono BB30.out.size))
    have F7_31 := hid ((l.block _ (lt_blk F7_30.out)).trans F7_30.out)
    have F8_31 := hid ((l.block _ (lt_blk F8_30.out)).trans F8_30.out)
    clear l
    refine hK.out _ _ ?_ (fun hHeld => ?_)
    · exact MS.out _ BB31.out
    clear hK K hHeld
    try simp only [Act.put, List.setIfInBounds_toArray, List.set_cons_zero, List.set_cons_succ]
    have hHeld := MS.out v31 BB31.out
    refine wpAnyH_ready (rs := [14]) (by kernel_rfl) (by simp) ?_
    refine AllReadyH.cons (o := { dst := none, op := Op.store 130 (Operand.tmp 7) (Operand.tmp 15), type := 0, pos := "conditions.go:64", after := #[{ on := 12, ground := Ground.data }, { on := 5, ground := Ground.data }, { on := 11, ground := Ground.chain }, { on := 0, ground := Ground.phase }, { on := 1, ground := Ground.phase }, { on := 2, ground := Ground.phase }, { on := 3, ground := Ground.phase }, { on := 4, ground := Ground.phase }, { on := 5, ground := Ground.phase }, { on := 6, ground := Ground.textOnly Departure.lateStores }, { on := 7, ground := Ground.textOnly Departure.lateStores }, { on := 8, ground := Ground.textOnly Departure.lateStores }, { on := 9, ground := Ground.textOnly Departure.lateStores }, { on := 10, ground := Ground.textOnly Departure.lateStores }, { on := 11, ground := Ground.textOnly Departure.lateStoresUnsure }, { on := 12, ground := Ground.phase }, { on := 13, ground := Ground.phase }], guard := none }) rfl (fun K hK => ?_) AllReadyH.nil
    rw [if_pos (by rfl)]
    refine wp_store_row 130 _ _ rfl c7_30 #[.bool false, .bool false, .bool false, .string ⟨#[]⟩, .int .i64 0, .int .i64 2, .int .i64 2, .string ⟨#[122, 111, 110, 101]⟩, .int .i64 0, .pointer none] rfl rfl 130 _ F7_31.out infoOp rfl (by kernel_rfl) ?_
    refine hK.out _ _ ?_ (fun hHeld => ?_)
    · exact MS.out _ (below_row BB31.out G7_30 _)
    clear hK K hHeld
    try simp only [Act.put, List.setIfInBounds_toArray, List.set_cons_zero, List.set_cons_succ]
    have E7 := hid (setRow_heap v31 c7_30 _ #[.bool false, .bool false, .bool false, .string ⟨#[]⟩, .int .i64 0, .int .i64 2, .int .i64 2, .string ⟨#[122, 111, 110, 101]⟩, .int .i64 0, .pointer none] _ _ F7_31.out)
    have E8 := hid (show (v31.setRow c7_30 #[.bool false, .bool false, .bool false, .string ⟨#[]⟩, .int .i64 0, .int .i64 2, .int .i64 2, .string ⟨#[122, 111, 110, 101]⟩, .int .i64 0, .pointer none]).heap[c8_26]? = _ from (setRow_other _ _ _ _ (by omega)).trans F8_31.out)
    have EB := hid (below_row BB31.out G7_30 #[.bool false, .bool false, .bool false, .string ⟨#[]⟩, .int .i64 0, .int .i64 2, .int .i64 2, .string ⟨#[122, 111, 110, 101]⟩, .int .i64 0, .pointer none])
    generalize v31.setRow c7_30 #[.bool false, .bool false, .bool false, .string ⟨#[]⟩, .int .i64 0, .int .i64 2, .int .i64 2, .string ⟨#[122, 111, 110, 101]⟩, .int .i64 0, .pointer none] = V at *
    have hHeld := MS.out V EB.out
    refine wpAnyH_ready (rs := [15]) (by kernel_rfl) (by simp) ?_
    refine AllReadyH.cons (o := { dst := none, op := Op.store 130 (Operand.tmp 8) (Operand.tmp 21), type := 0, pos := "conditions.go:64", after := #[{ on := 13, ground := Ground.data }, { on := 11, ground := Ground.data }, { on := 14, ground := Ground.chain }, { on := 0, ground := Ground.phase }, { on := 1, ground := Ground.phase }, { on := 2, ground := Ground.phase }, { on := 3, ground := Ground.phase }, { on := 4, ground := Ground.phase }, { on := 5, ground := Ground.phase }, { on := 6, ground := Ground.phase }, { on := 7, ground := Ground.phase }, { on := 8, ground := Ground.phase }, { on := 9, ground := Ground.phase }, { on := 10, ground := Ground.phase }, { on := 11, ground := Ground.phase }, { on := 12, ground := Ground.phase }, { on := 13, ground := Ground.phase }, { on := 14, ground := Ground.phase }], guard := none }) rfl (fun K hK => ?_) AllReadyH.nil
    rw [if_pos (by rfl)]
    refine wp_store_row 130 _ _ rfl c8_26 #[.bool true, .bool true, .bool true, .string ⟨#[97]⟩, .int .i64 0, .int .i64 0, .int .i64 0, .string ⟨#[]⟩, .int .i64 0, .pointer none] rfl rfl 130 _ E8.out infoOp rfl (by kernel_rfl) ?_
    refine hK.out _ _ ?_ (fun hHeld => ?_)
    · exact MS.out _ (below_row EB.out G8_26 _)
    clear hK K hHeld
    try simp only [Act.put, List.setIfInBounds_toArray, List.set_cons_zero, List.set_cons_succ]
    refine wpAnyH_done (by kernel_rfl) ?_ _
    exact ⟨rfl, c7_30, c8_26, rfl, (setRow_other _ _ _ _ (by omega)).trans E7.out, setRow_heap V c8_26 _ #[.bool true, .bool true, .bool true, .string ⟨#[97]⟩, .int .i64 0, .int .i64 0, .int .i64 0, .string ⟨#[]⟩, .int .i64 0, .pointer none] _ _ E8.out, below_row EB.out G8_26 _⟩
  refine AllReadyH.cons (o := { dst := some 7, op := Op.alloc 130, type := 0, pos := "conditions.go:64", after := #[], guard := none }) rfl (fun K hK => ?_) AllReadyH.nil
  go_simp
  refine hK.out _ _ ?_ (fun hHeld => ?_)
  · exact MS.out _ (BB26.out.alloc BB26.out.size _)
  clear hK K hHeld
  try simp only [Act.put, List.setIfInBounds_toArray, List.set_cons_zero, List.set_cons_succ]
  have BB32 := hid (BB26.out.alloc BB26.out.size (.cells #[.bool false, .bool false, .bool false, .string ⟨#[]⟩, .int .i64 0, .int .i64 0, .int .i64 0, .string ⟨#[]⟩, .int .i64 0, .pointer none] 130))
  have F7_32 := hid (heap_alloc_new v26 (.cells #[.bool false, .bool false, .bool false, .string ⟨#[]⟩, .int .i64 0, .int .i64 0, .int .i64 0, .string ⟨#[]⟩, .int .i64 0, .pointer none] 130))
  have G7_32 : X.heap.size ≤ v26.heap.size := BB26.out.size
  have N_32 := lt_blk F8_26.out
  have F8_32 := hid (((belowA v26 (.cells #[.bool false, .bool false, .bool false, .string ⟨#[]⟩, .int .i64 0, .int .i64 0, .int .i64 0, .string ⟨#[]⟩, .int .i64 0, .pointer none] 130)).block _ (lt_blk F8_26.out)).trans F8_26.out)
  generalize v26.alloc (.cells #[.bool false, .bool false, .bool false, .string ⟨#[]⟩, .int .i64 0, .int .i64 0, .int .i64 0, .string ⟨#[]⟩, .int .i64 0, .pointer none] 130) = v32 at *
  generalize v26.heap.size = c7_32 at *
  have hHeld := MS.out v32 BB32.out
  refine wpAnyH_ready (rs := [5]) (by kernel_rfl) (by simp) ?_
  refine AllReadyH.cons (o := { dst := some 15, op := Op.call { callee := Callee.value (Operand.func 71), args := #[Operand.tmp 10, Operand.tmp 14], argTypes := #[79, 3] }, type := 130, pos := "conditions.go:64", after := #[{ on := 0, ground := Ground.data }, { on := 4, ground := Ground.data }], guard := none }) rfl (fun K hK => ?_) AllReadyH.nil
  go_simp
  refine (operand_0 gp k1 k2 sa pa sn sc pn pc v32 (HF.out.low BB32.out)).mono ?_
  rintro e v33 ⟨rfl, l⟩
  have BB33 := hid (BB32.out.trans (l.mono BB32.out.size))
  have F7_33 := hid ((l.block _ (lt_blk F7_32.out)).trans F7_32.out)
  have F8_33 := hid ((l.block _ (lt_blk F8_32.out)).trans F8_32.out)
  clear l
  refine hK.out _ _ ?_ (fun hHeld => ?_)
  · exact MS.out _ BB33.out
  clear hK K hHeld
  try simp only [Act.put, List.setIfInBounds_toArray, List.set_cons_zero, List.set_cons_succ]
  have hHeld := MS.out v33 BB33.out
  refine wpAnyH_ready (rs := [11]) (by kernel_rfl) (by simp) ?_
  refine AllReadyH.cons (o := { dst := some 21, op := Op.call { callee := Callee.value (Operand.func 71), args := #[Operand.tmp 16, Operand.tmp 20], argTypes := #[79, 3] }, type := 130, pos := "conditions.go:64", after := #[{ on := 6, ground := Ground.data }, { on := 10, ground := Ground.data }, { on := 5, ground := Ground.chain }], guard := none }) rfl (fun K hK => ?_) AllReadyH.nil
  go_simp
  refine (operand_1 gp k1 k2 sa pa sn sc pn pc v33 (HF.out.low BB33.out)).mono ?_
  rintro e v34 ⟨rfl, l⟩
  have BB34 := hid (BB33.out.trans (l.mono BB33.out.size))
  have F7_34 := hid ((l.block _ (lt_blk F7_33.out)).trans F7_33.out)
  have F8_34 := hid ((l.block _ (lt_blk F8_33.out)).trans F8_33.out)
  clear l
  refine hK.out _ _ ?_ (fun hHeld => ?_)
  · exact MS.out _ BB34.out
  clear hK K hHeld
  try simp only [Act.put, List.setIfInBounds_toArray, List.set_cons_zero, List.set_cons_succ]
  have hHeld := MS.out v34 BB34.out
  refine wpAnyH_ready (rs := [14]) (by kernel_rfl) (by simp) ?_
  refine AllReadyH.cons (o := { dst := none, op := Op.store 130 (Operand.tmp 7) (Operand.tmp 15), type := 0, pos := "conditions.go:64", after := #[{ on := 12, ground := Ground.data }, { on := 5, ground := Ground.data }, { on := 11, ground := Ground.chain }, { on := 0, ground := Ground.phase }, { on := 1, ground := Ground.phase }, { on := 2, ground := Ground.phase }, { on := 3, ground := Ground.phase }, { on := 4, ground := Ground.phase }, { on := 5, ground := Ground.phase }, { on := 6, ground := Ground.textOnly Departure.lateStores }, { on := 7, ground := Ground.textOnly Departure.lateStores }, { on := 8, ground := Ground.textOnly Departure.lateStores }, { on := 9, ground := Ground.textOnly Departure.lateStores }, { on := 10, ground := Ground.textOnly Departure.lateStores }, { on := 11, ground := Ground.textOnly Departure.lateStoresUnsure }, { on := 12, ground := Ground.phase }, { on := 13, ground := Ground.phase }], guard := none }) rfl (fun K hK => ?_) AllReadyH.nil
  rw [if_pos (by rfl)]
  refine wp_store_row 130 _ _ rfl c7_32 #[.bool false, .bool false, .bool false, .string ⟨#[]⟩, .int .i64 0, .int .i64 2, .int .i64 2, .string ⟨#[122, 111, 110, 101]⟩, .int .i64 0, .pointer none] rfl rfl 130 _ F7_34.out infoOp rfl (by kernel_rfl) ?_
  refine hK.out _ _ ?_ (fun hHeld => ?_)
  · exact MS.out _ (below_row BB34.out G7_32 _)
  clear hK K hHeld
  try simp only [Act.put, List.setIfInBounds_toArray, List.set_cons_zero, List.set_cons_succ]
  have E7 := hid (setRow_heap v34 c7_32 _ #[.bool false, .bool false, .bool false, .string ⟨#[]⟩, .int .i64 0, .int .i64 2, .int .i64 2, .string ⟨#[122, 111, 110, 101]⟩, .int .i64 0, .pointer none] _ _ F7_34.out)
  have E8 := hid (show (v34.setRow c7_32 #[.bool false, .bool false, .bool false, .string ⟨#[]⟩, .int .i64 0, .int .i64 2, .int .i64 2, .string ⟨#[122, 111, 110, 101]⟩, .int .i64 0, .pointer none]).heap[c8_26]? = _ from (setRow_other _ _ _ _ (by omega)).trans F8_34.out)
  have EB := hid (below_row BB34.out G7_32 #[.bool false, .bool false, .bool false, .string ⟨#[]⟩, .int .i64 0, .int .i64 2, .int .i64 2, .string ⟨#[122, 111, 110, 101]⟩, .int .i64 0, .pointer none])
  generalize v34.setRow c7_32 #[.bool false, .bool false, .bool false, .string ⟨#[]⟩, .int .i64 0, .int .i64 2, .int .i64 2, .string ⟨#[122, 111, 110, 101]⟩, .int .i64 0, .pointer none] = V at *
  have hHeld := MS.out V EB.out
  refine wpAnyH_ready (rs := [15]) (by kernel_rfl) (by simp) ?_
  refine AllReadyH.cons (o := { dst := none, op := Op.store 130 (Operand.tmp 8) (Operand.tmp 21), type := 0, pos := "conditions.go:64", after := #[{ on := 13, ground := Ground.data }, { on := 11, ground := Ground.data }, { on := 14, ground := Ground.chain }, { on := 0, ground := Ground.phase }, { on := 1, ground := Ground.phase }, { on := 2, ground := Ground.phase }, { on := 3, ground := Ground.phase }, { on := 4, ground := Ground.phase }, { on := 5, ground := Ground.phase }, { on := 6, ground := Ground.phase }, { on := 7, ground := Ground.phase }, { on := 8, ground := Ground.phase }, { on := 9, ground := Ground.phase }, { on := 10, ground := Ground.phase }, { on := 11, ground := Ground.phase }, { on := 12, ground := Ground.phase }, { on := 13, ground := Ground.phase }, { on := 14, ground := Ground.phase }], guard := none }) rfl (fun K hK => ?_) AllReadyH.nil
  rw [if_pos (by rfl)]
  refine wp_store_row 130 _ _ rfl c8_26 #[.bool true, .bool true, .bool true, .string ⟨#[97]⟩, .int .i64 0, .int .i64 0, .int .i64 0, .string ⟨#[]⟩, .int .i64 0, .pointer none] rfl rfl 130 _ E8.out infoOp rfl (by kernel_rfl) ?_
  refine hK.out _ _ ?_ (fun hHeld => ?_)
  · exact MS.out _ (below_row EB.out G8_26 _)
  clear hK K hHeld
  try simp only [Act.put, List.setIfInBounds_toArray, List.set_cons_zero, List.set_cons_succ]
  refine wpAnyH_done (by kernel_rfl) ?_ _
  exact ⟨rfl, c7_32, c8_26, rfl, (setRow_other _ _ _ _ (by omega)).trans E7.out, setRow_heap V c8_26 _ #[.bool true, .bool true, .bool true, .string ⟨#[97]⟩, .int .i64 0, .int .i64 0, .int .i64 0, .string ⟨#[]⟩, .int .i64 0, .pointer none] _ _ E8.out, below_row EB.out G8_26 _⟩
end Go.Proofs.YtimmjikpcekffaaGreatDoor.L
