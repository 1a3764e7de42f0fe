import Derived.Test.YtcldglilhhhdoaaGreatDoorMgAO
namespace Go.Proofs.YtcldglilhhhdoaaGreatDoor.L
open Go.RowKit
set_option linter.unusedVariables false
set_option linter.unusedSimpArgs false
theorem par_wk : parR wk = .ok ⟨7, 0, [⟨14, ⟨#[122]⟩, 2, []⟩, ⟨11, ⟨#[97]⟩, 0, []⟩, ⟨6, ⟨#[]⟩, 1, [0, 1]⟩, ⟨3, ⟨#[]⟩, 0, [2]⟩], [1, 14, 11, 0]⟩ := by
  unfold parR
  rw [wk_scan]
  simp only [wk_par]
theorem par_wn : parR wn = .error (120, 5) := by
  unfold parR
  rw [wn_scan]
  simp only [wn_par]
/-- The four parts of the first fixed source. -/
theorem wk_cells {W : World} {B : Nat} {v : Value} {ks : Nat → Value} (h : OwnP W B v [⟨14, ⟨#[122]⟩, 2, []⟩, ⟨11, ⟨#[97]⟩, 0, []⟩, ⟨6, ⟨#[]⟩, 1, [0, 1]⟩, ⟨3, ⟨#[]⟩, 0, [2]⟩] ks 4) : ∃ g c, v = .slice (some ⟨g, 0, none⟩) 4 c ∧ g < W.heap.size ∧
    W.cell? ⟨g, 0, none⟩ = some (.int .i64 14) ∧ W.cell? ⟨g, 1, none⟩ = some (.string ⟨#[122]⟩) ∧ W.cell? ⟨g, 2, none⟩ = some (.int .i64 2) ∧ W.cell? ⟨g, 3, none⟩ = some (ks 0) ∧
    W.cell? ⟨g, 8, none⟩ = some (.int .i64 6) ∧ W.cell? ⟨g, 9, none⟩ = some (.string ⟨#[]⟩) ∧ W.cell? ⟨g, 10, none⟩ = some (.int .i64 1) ∧ W.cell? ⟨g, 11, none⟩ = some (ks 2) ∧ W.cell? ⟨g, 12, none⟩ = some (.int .i64 3) := by
  rcases h.row.2 with ⟨_, hn⟩ | ⟨g, cap, cur, e, hb, hg, _⟩
  · cases hn
  · subst e
    exact ⟨g, cap, rfl, lt_blk hg, World.ownsRow.cellAt h.row 0 (by decide), World.ownsRow.cellAt h.row 1 (by decide), World.ownsRow.cellAt h.row 2 (by decide), World.ownsRow.cellAt h.row 3 (by decide), World.ownsRow.cellAt h.row 8 (by decide), World.ownsRow.cellAt h.row 9 (by decide), World.ownsRow.cellAt h.row 10 (by decide), World.ownsRow.cellAt h.row 11 (by decide), World.ownsRow.cellAt h.row 12 (by decide)⟩
set_option maxHeartbeats 4000000 in
set_option maxRecDepth 100000 in
theorem wakes_any (w : World) (hv : Vars w) : Calls Tryz.prog 9 #[] w fun e w' => e = .returned (.bool true) ∧ Below w.heap.size w w' := by
  have HV := hid hv
  clear hv
  go_enter Tryz.func9, Tryz.ntmps9
  go_wp2_with fail
  refine (parse_any wk w HV.out).mono ?_
  rintro e W1 ⟨hp, l1⟩
  unfold PaR at hp
  rw [par_wk] at hp
  obtain ⟨pb, B, Nb, tv, T, v, o, ks, hB, rfl, pm⟩ := hp
  obtain ⟨g, cv, rfl, hgl, c0, c1, c2, c3, c8, c9, c10, c11, c12⟩ := wk_cells pm.parts
  obtain ⟨oa, oc, rfl, ro⟩ := own_rdi pm.offs
  obtain ⟨k0a, k0c, hk0, _⟩ := own_rdi (pm.parts.kids 0 (by decide))
  obtain ⟨k2a, k2c, hk2, rk2⟩ := own_rdi (pm.parts.kids 2 (by decide))
  rw [hk0] at c3
  rw [hk2] at c11
  clear hk0 hk2 pm hB
  have HL1 := hid l1
  have HRO := hid ro
  have HRK := hid rk2
  clear l1 ro rk2
  go_upto_region 2 with fail
  have HT2 := hid (heap_alloc_new W1 (.cells #[.slice (some ⟨g, 0, none⟩) 4 cv] 25))
  have HB2 := hid (belowA W1 (.cells #[.slice (some ⟨g, 0, none⟩) 4 cv] 25))
  have HL2 := hid (HL1.out.trans (HB2.out.mono HL1.out.size))
  generalize W1.alloc (.cells #[.slice (some ⟨g, 0, none⟩) 4 cv] 25) = W2 at *
  have HG2 := hid (show g < W2.heap.size from Nat.lt_of_lt_of_le hgl HB2.out.size)
  have HC := hid (show ∀ j x, W1.cell? ⟨g, j, none⟩ = some x → W2.cell? ⟨g, j, none⟩ = some x from fun j x h => (HB2.out.cell (p := ⟨g, j, none⟩) hgl).trans h)
  have d0 := HC.out _ _ c0
  have d1 := HC.out _ _ c1
  have d2 := HC.out _ _ c2
  have d3 := HC.out _ _ c3
  have d8 := HC.out _ _ c8
  have d9 := HC.out _ _ c9
  have d10 := HC.out _ _ c10
  have d11 := HC.out _ _ c11
  have d12 := HC.out _ _ c12
  have HRO2 := hid (HRO.out.low HB2.out (Nat.le_refl _))
  have HRK2 := hid (HRK.out.low HB2.out (Nat.le_refl _))
  clear c0 c1 c2 c3 c8 c9 c10 c11 c12 HC HRO HRK hgl HB2 HL1
  generalize W1.heap.size = t1 at *
  have ct : W2.cell? ⟨t1, 0, none⟩ = some (.slice (some ⟨g, 0, none⟩) 4 cv) := cell_of_row _ _ 0 _ _ _ HT2.out
  have HX2 := hid (belowA W2 (.cells #[.int .i64 1, .int .i64 14, .int .i64 11, .int .i64 0] 3))
  have HSI := hid (sints_yes oa (some ⟨W2.heap.size, 0, none⟩) [1, 14, 11, 0] oc 4 (W2.alloc (.cells #[.int .i64 1, .int .i64 14, .int .i64 11, .int .i64 0] 3)) (HRO2.out.low HX2.out (Nat.le_refl _)) (Or.inr ⟨W2.heap.size, 0, rfl, by simp, fun j hj => (by rw [cell_of_row _ _ _ _ _ _ (heap_alloc_new W2 (.cells #[.int .i64 1, .int .i64 14, .int .i64 11, .int .i64 0] 3))]; have : j = 0 ∨ j = 1 ∨ j = 2 ∨ j = 3 := (by simp at hj; omega); rcases this with rfl | rfl | rfl | rfl <;> rfl)⟩) (by simp))
  simp only [List.length_cons, List.length_nil, Nat.zero_add, Nat.reduceAdd] at HSI
  go_wp2_with fail
  refine HSI.out.mono ?_
  rintro e W3 ⟨rfl, l⟩
  have HX3 := hid (HX2.out.trans (l.mono HX2.out.size))
  clear l HX2 HSI
  have HC := hid (show ∀ j x, W2.cell? ⟨g, j, none⟩ = some x → W3.cell? ⟨g, j, none⟩ = some x from fun j x h => (HX3.out.cell (p := ⟨g, j, none⟩) HG2.out).trans h)
  have c0 := HC.out _ _ d0
  have c1 := HC.out _ _ d1
  have c2 := HC.out _ _ d2
  have c3 := HC.out _ _ d3
  have c8 := HC.out _ _ d8
  have c9 := HC.out _ _ d9
  have c10 := HC.out _ _ d10
  have c11 := HC.out _ _ d11
  have c12 := HC.out _ _ d12
  have ct3 : W3.cell? ⟨t1, 0, none⟩ = some (.slice (some ⟨g, 0, none⟩) 4 cv) := (HX3.out.cell (p := ⟨t1, 0, none⟩) (lt_blk HT2.out)).trans ct
  have HT3 := hid ((HX3.out.block _ (lt_blk HT2.out)).trans HT2.out)
  have HRK3 := hid (HRK2.out.low HX3.out (Nat.le_refl _))
  have HL3 := hid (HL2.out.trans (HX3.out.mono HL2.out.size))
  have HG3 := hid (Nat.lt_of_lt_of_le HG2.out HX3.out.size)
  clear d0 d1 d2 d3 d8 d9 d10 d11 d12 ct HC HRK2 HRO2 HL2 HT2 HG2 HX3
  go_upto_region 4 with fail
  (try simp only [List.length_nil, List.length_cons, Nat.zero_add, Nat.reduceAdd] at c3 c11)
  have MS := hid (show ∀ Y, Below W3.heap.size W3 Y → (fun Y => Y.cell? ⟨t1, 0, none⟩ = some (.slice (some ⟨g, 0, none⟩) 4 cv) ∧ (Y.cell? ⟨g, 0, none⟩ = some (.int .i64 14) ∧ Y.cell? ⟨g, 1, none⟩ = some (.string ⟨#[122]⟩) ∧ Y.cell? ⟨g, 2, none⟩ = some (.int .i64 2) ∧ Y.cell? ⟨g, 3, none⟩ = some (.slice k0a 0 k0c)) ∧ Y.cell? ⟨g, 8, none⟩ = some (.int .i64 6) ∧ Y.cell? ⟨g, 9, none⟩ = some (.string ⟨#[]⟩) ∧ Y.cell? ⟨g, 10, none⟩ = some (.int .i64 1) ∧ Y.cell? ⟨g, 11, none⟩ = some (.slice k2a 2 k2c)) Y from fun Y hb => (by have q := fun j (x : Value) (h : W3.cell? ⟨g, j, none⟩ = some x) => (hb.cell (p := ⟨g, j, none⟩) HG3.out).trans h; exact ⟨(hb.cell (p := ⟨t1, 0, none⟩) (lt_blk HT3.out)).trans ct3, ⟨q _ _ c0, q _ _ c1, q _ _ c2, q _ _ c3⟩, q _ _ c8, q _ _ c9, q _ _ c10, q _ _ c11⟩))
  have HD := hid (show Below W3.heap.size W3 W3.drew from (Below.refl _ _).drew)
  refine wp_region_held_drew (S := (fun Y => Y.cell? ⟨t1, 0, none⟩ = some (.slice (some ⟨g, 0, none⟩) 4 cv) ∧ (Y.cell? ⟨g, 0, none⟩ = some (.int .i64 14) ∧ Y.cell? ⟨g, 1, none⟩ = some (.string ⟨#[122]⟩) ∧ Y.cell? ⟨g, 2, none⟩ = some (.int .i64 2) ∧ Y.cell? ⟨g, 3, none⟩ = some (.slice k0a 0 k0c)) ∧ Y.cell? ⟨g, 8, none⟩ = some (.int .i64 6) ∧ Y.cell? ⟨g, 9, none⟩ = some (.string ⟨#[]⟩) ∧ Y.cell? ⟨g, 10, none⟩ = some (.int .i64 1) ∧ Y.cell? ⟨g, 11, none⟩ = some (.slice k2a 2 k2c))) (by kernel_rfl) ?_ (fun hHeld => ?_)
  · exact MS.out _ HD.out
  have HSZ := hid (show W3.drew.heap.size = W3.heap.size from rfl)
  generalize W3.drew = Z at *
  refine wpAnyH_take (i := 0) (oi := { dst := some 28, op := Op.fieldAddr 25 (Operand.tmp 1) 0, type := 0, pos := "law.go:32", after := #[], guard := none }) (v := ?_) rfl (by kernel_rfl) (by kernel_rfl) (by kernel_rfl) (fun _ _ _ h => h) (Or.inl ⟨by rfl, ?_⟩) (by assumption) ?_
  rotate_left
  · (intro w hSw; (try dsimp only at hSw); go_simp; try with_reducible rfl)
  try simp only [Act.put, List.setIfInBounds_toArray, List.set_cons_zero, List.set_cons_succ]
  refine wpAnyH_take (i := 1) (oi := { dst := some 29, op := Op.load 23 (Operand.tmp 28), type := 23, pos := "law.go:32", after := #[{ on := 0, ground := Ground.data }], guard := none }) (v := ?_) rfl (by kernel_rfl) (by kernel_rfl) (by kernel_rfl) (fun _ _ _ h => h) (Or.inl ⟨by rfl, ?_⟩) (by assumption) ?_
  rotate_left
  · (intro w hSw; (try dsimp only at hSw); go_simp; try with_reducible rfl)
  try simp only [Act.put, List.setIfInBounds_toArray, List.set_cons_zero, List.set_cons_succ]
  refine wpAnyH_take (i := 2) (oi := { dst := some 30, op := Op.indexAddr 23 (Operand.tmp 29) (Operand.const (Value.int IntKind.i64 0)), type := 0, pos := "law.go:32", after := #[{ on := 1, ground := Ground.data }], guard := none }) (v := ?_) rfl (by kernel_rfl) (by kernel_rfl) (by kernel_rfl) (fun _ _ _ h => h) (Or.inl ⟨by rfl, ?_⟩) (by assumption) ?_
  rotate_left
  · (intro w hSw; (try dsimp only at hSw); go_simp; try with_reducible rfl)
  try simp only [Act.put, List.setIfInBounds_toArray, List.set_cons_zero, List.set_cons_succ]
  refine wpAnyH_take (i := 3) (oi := { dst := some 31, op := Op.load 46 (Operand.tmp 30), type := 46, pos := "law.go:32", after := #[{ on := 2, ground := Ground.data }], guard := none }) (v := ?_) rfl (by kernel_rfl) (by kernel_rfl) (by kernel_rfl) (fun _ _ _ h => h) (Or.inl ⟨by rfl, ?_⟩) (by assumption) ?_
  rotate_left
  · (intro w hSw; (try dsimp only at hSw); go_simp; try with_reducible rfl)
  try simp only [Act.put, List.setIfInBounds_toArray, List.set_cons_zero, List.set_cons_succ]
  refine wpAnyH_take (i := 4) (oi := { dst := some 32, op := Op.fieldAddr 25 (Operand.tmp 1) 0, type := 0, pos := "law.go:32", after := #[{ on := 10, ground := Ground.gcOnly Departure.lateStores }], guard := none }) (v := ?_) rfl (by kernel_rfl) (by kernel_rfl) (by kernel_rfl) (fun _ _ _ h => h) (Or.inl ⟨by rfl, ?_⟩) (by assumption) ?_
  rotate_left
  · (intro w hSw; (try dsimp only at hSw); go_simp; try with_reducible rfl)
  try simp only [Act.put, List.setIfInBounds_toArray, List.set_cons_zero, List.set_cons_succ]
  refine wpAnyH_take (i := 5) (oi := { dst := some 33, op := Op.load 23 (Operand.tmp 32), type := 23, pos := "law.go:32", after := #[{ on := 4, ground := Ground.data }, { on := 10, ground := Ground.gcOnly Departure.lateStores }], guard := none }) (v := ?_) rfl (by kernel_rfl) (by kernel_rfl) (by kernel_rfl) (fun _ _ _ h => h) (Or.inl ⟨by rfl, ?_⟩) (by assumption) ?_
  rotate_left
  · (intro w hSw; (try dsimp only at hSw); go_simp; try with_reducible rfl)
  try simp only [Act.put, List.setIfInBounds_toArray, List.set_cons_zero, List.set_cons_succ]
  refine wpAnyH_take (i := 6) (oi := { dst := some 34, op := Op.indexAddr 23 (Operand.tmp 33) (Operand.const (Value.int IntKind.i64 2)), type := 0, pos := "law.go:32", after := #[{ on := 5, ground := Ground.data }, { on := 10, ground := Ground.gcOnly Departure.lateStores }], guard := none }) (v := ?_) rfl (by kernel_rfl) (by kernel_rfl) (by kernel_rfl) (fun _ _ _ h => h) (Or.inl ⟨by rfl, ?_⟩) (by assumption) ?_
  rotate_left
  · (intro w hSw; (try dsimp only at hSw); go_simp; try with_reducible rfl)
  try simp only [Act.put, List.setIfInBounds_toArray, List.set_cons_zero, List.set_cons_succ]
  refine wpAnyH_take (i := 7) (oi := { dst := some 35, op := Op.load 46 (Operand.tmp 34), type := 46, pos := "law.go:32", after := #[{ on := 6, ground := Ground.data }, { on := 10, ground := Ground.gcOnly Departure.lateStores }], guard := none }) (v := ?_) rfl (by kernel_rfl) (by kernel_rfl) (by kernel_rfl) (fun _ _ _ h => h) (Or.inl ⟨by rfl, ?_⟩) (by assumption) ?_
  rotate_left
  · (intro w hSw; (try dsimp only at hSw); go_simp; try with_reducible rfl)
  try simp only [Act.put, List.setIfInBounds_toArray, List.set_cons_zero, List.set_cons_succ]
  refine wpAnyH_ready (rs := [8, 9]) (by kernel_rfl) (by simp) ?_
  refine AllReadyH.cons (o := { dst := some 4, op := Op.alloc 46, type := 0, pos := "law.go:32", after := #[], guard := none }) rfl (fun K hK => ?_) ?_
  · go_simp
    refine hK.out _ _ ?_ (fun hHeld => ?_)
    · exact MS.out _ (HD.out.alloc HD.out.size _)
    clear hK K hHeld
    try simp only [Act.put, List.setIfInBounds_toArray, List.set_cons_zero, List.set_cons_succ]
    have HA := hid (heap_alloc_new Z (.cells #[.int .i64 0, .string ⟨#[]⟩, .int .i64 0, .slice none 0 0] 46))
    have HB1 := hid (HD.out.alloc HD.out.size (.cells #[.int .i64 0, .string ⟨#[]⟩, .int .i64 0, .slice none 0 0] 46))
    generalize Z.alloc (.cells #[.int .i64 0, .string ⟨#[]⟩, .int .i64 0, .slice none 0 0] 46) = Z1 at *
    have HGA := hid HD.out.size
    generalize Z.heap.size = p4 at *
    have hHeld := MS.out Z1 HB1.out
    refine wpAnyH_ready (rs := [9]) (by kernel_rfl) (by simp) ?_
    refine AllReadyH.cons (o := { dst := some 5, op := Op.alloc 46, type := 0, pos := "law.go:32", after := #[], guard := none }) rfl (fun K hK => ?_) AllReadyH.nil
    go_simp
    refine hK.out _ _ ?_ (fun hHeld => ?_)
    · exact MS.out _ (HB1.out.alloc HB1.out.size _)
    clear hK K hHeld
    try simp only [Act.put, List.setIfInBounds_toArray, List.set_cons_zero, List.set_cons_succ]
    have HA2 := hid (((belowA Z1 (.cells #[.int .i64 0, .string ⟨#[]⟩, .int .i64 0, .slice none 0 0] 46)).block _ (lt_blk HA.out)).trans HA.out)
    have HN := hid (Nat.ne_of_lt (lt_blk HA.out))
    have HC2 := hid (heap_alloc_new Z1 (.cells #[.int .i64 0, .string ⟨#[]⟩, .int .i64 0, .slice none 0 0] 46))
    have HB2 := hid (HB1.out.alloc HB1.out.size (.cells #[.int .i64 0, .string ⟨#[]⟩, .int .i64 0, .slice none 0 0] 46))
    generalize Z1.alloc (.cells #[.int .i64 0, .string ⟨#[]⟩, .int .i64 0, .slice none 0 0] 46) = Z2 at *
    have HGC := hid HB1.out.size
    generalize Z1.heap.size = p5 at *
    have hHeld := MS.out Z2 HB2.out
    refine wpAnyH_ready (rs := [10]) (by kernel_rfl) (by simp) ?_
    refine AllReadyH.cons (o := { dst := none, op := Op.store 46 (Operand.tmp 4) (Operand.tmp 31), type := 0, pos := "law.go:32", after := #[{ on := 8, ground := Ground.data }, { on := 3, ground := Ground.data }, { on := 0, ground := Ground.phase }, { on := 1, ground := Ground.phase }, { on := 2, ground := Ground.phase }, { on := 3, ground := Ground.phase }, { on := 4, ground := Ground.textOnly Departure.lateStores }, { on := 5, ground := Ground.textOnly Departure.lateStores }, { on := 6, ground := Ground.textOnly Departure.lateStores }, { on := 7, ground := Ground.textOnly Departure.lateStores }, { on := 8, ground := Ground.phase }, { on := 9, ground := Ground.phase }], guard := none }) rfl (fun K hK => ?_) AllReadyH.nil
    rw [if_pos (by rfl)]
    refine wp_store_row 46 _ _ rfl p4 #[.int .i64 14, .string ⟨#[122]⟩, .int .i64 2, .slice k0a 0 k0c] rfl rfl 46 _ HA2.out infoP4 rfl (by kernel_rfl) ?_
    have HB3 := hid (below_row HB2.out p4 #[.int .i64 14, .string ⟨#[122]⟩, .int .i64 2, .slice k0a 0 k0c] HGA.out)
    have H4 := hid (setRow_heap Z2 _ _ #[.int .i64 14, .string ⟨#[122]⟩, .int .i64 2, .slice k0a 0 k0c] _ _ HA2.out)
    have H5 := hid (show (Z2.setRow p4 #[.int .i64 14, .string ⟨#[122]⟩, .int .i64 2, .slice k0a 0 k0c]).heap[p5]? = some (.cells #[.int .i64 0, .string ⟨#[]⟩, .int .i64 0, .slice none 0 0] 46 (0, 0)) from (setRow_other _ _ _ _ (Ne.symm (HN.out))).trans HC2.out)
    refine hK.out _ _ ?_ (fun hHeld => ?_)
    · exact MS.out _ HB3.out
    clear hK K hHeld
    try simp only [Act.put, List.setIfInBounds_toArray, List.set_cons_zero, List.set_cons_succ]
    generalize Z2.setRow p4 #[.int .i64 14, .string ⟨#[122]⟩, .int .i64 2, .slice k0a 0 k0c] = Z3 at *
    have hHeld := MS.out Z3 HB3.out
    refine wpAnyH_ready (rs := [11]) (by kernel_rfl) (by simp) ?_
    refine AllReadyH.cons (o := { dst := none, op := Op.store 46 (Operand.tmp 5) (Operand.tmp 35), type := 0, pos := "law.go:32", after := #[{ on := 9, ground := Ground.data }, { on := 7, ground := Ground.data }, { on := 10, ground := Ground.chain }, { on := 0, ground := Ground.phase }, { on := 1, ground := Ground.phase }, { on := 2, ground := Ground.phase }, { on := 3, ground := Ground.phase }, { on := 4, ground := Ground.phase }, { on := 5, ground := Ground.phase }, { on := 6, ground := Ground.phase }, { on := 7, ground := Ground.phase }, { on := 8, ground := Ground.phase }, { on := 9, ground := Ground.phase }, { on := 10, ground := Ground.phase }], guard := none }) rfl (fun K hK => ?_) AllReadyH.nil
    rw [if_pos (by rfl)]
    refine wp_store_row 46 _ _ rfl p5 #[.int .i64 6, .string ⟨#[]⟩, .int .i64 1, .slice k2a 2 k2c] rfl rfl 46 _ H5.out infoP4 rfl (by kernel_rfl) ?_
    have HB4 := hid (below_row HB3.out p5 #[.int .i64 6, .string ⟨#[]⟩, .int .i64 1, .slice k2a 2 k2c] HGC.out)
    have H54 := hid (setRow_heap Z3 _ _ #[.int .i64 6, .string ⟨#[]⟩, .int .i64 1, .slice k2a 2 k2c] _ _ H5.out)
    have H44 := hid (show (Z3.setRow p5 #[.int .i64 6, .string ⟨#[]⟩, .int .i64 1, .slice k2a 2 k2c]).heap[p4]? = some (.cells #[.int .i64 14, .string ⟨#[122]⟩, .int .i64 2, .slice k0a 0 k0c] 46 (0, 0)) from (setRow_other _ _ _ _ (HN.out)).trans H4.out)
    refine hK.out _ _ ?_ (fun hHeld => ?_)
    · exact MS.out _ HB4.out
    clear hK K hHeld
    try simp only [Act.put, List.setIfInBounds_toArray, List.set_cons_zero, List.set_cons_succ]
    generalize Z3.setRow p5 #[.int .i64 6, .string ⟨#[]⟩, .int .i64 1, .slice k2a 2 k2c] = W4 at *
    refine wpAnyH_done (by kernel_rfl) ?_ _
    clear HA HB1 HA2 HC2 HB2 HB3 H4 H5 HN hHeld
    have HV4 := hid ((HV.out.low HL3.out).low HB4.out)
    have HT4 := hid ((HB4.out.block _ (lt_blk HT3.out)).trans HT3.out)
    have HRK4 := hid (HRK3.out.low HB4.out (Nat.le_refl _))
    have HL4 := hid (HL3.out.trans (HB4.out.mono HL3.out.size))
    have d12 := (HB4.out.cell (p := ⟨g, 12, none⟩) HG3.out).trans c12
    have HG4 := hid (Nat.lt_of_lt_of_le HG3.out HB4.out.size)
    clear c0 c1 c2 c3 c8 c9 c10 c11 c12 ct3 MS HD HSZ HT3 HRK3 HL3 HG3 HB4
    go_wp2_with fail
    refine (parse_any wn W4 HV4.out).mono ?_
    rintro e W5 ⟨hp, l5⟩
    unfold PaR at hp
    rw [par_wn] at hp
    obtain ⟨N, rfl, hf⟩ := hp
    have H4 := hid ((l5.block _ (lt_blk H44.out)).trans H44.out)
    have H5 := hid ((l5.block _ (lt_blk H54.out)).trans H54.out)
    have HT5 := hid ((l5.block _ (lt_blk HT4.out)).trans HT4.out)
    have HRK5 := hid (HRK4.out.low l5 (Nat.le_refl _))
    have HL5 := hid (HL4.out.trans (l5.mono HL4.out.size))
    have e12 := (l5.cell (p := ⟨g, 12, none⟩) HG4.out).trans d12
    have HG5 := hid (Nat.lt_of_lt_of_le HG4.out l5.size)
    have HF5 := hid hf
    clear l5 hf d12 H44 H54 HT4 HRK4 HL4 HG4
    go_upto_region 6 with fail
    have l6 := belowA W5 (.cells #[.slice none 0 0] 25)
    have H46 := hid ((l6.block _ (lt_blk H4.out)).trans H4.out)
    have H56 := hid ((l6.block _ (lt_blk H5.out)).trans H5.out)
    have HT6 := hid ((l6.block _ (lt_blk HT5.out)).trans HT5.out)
    have HRK6 := hid (HRK5.out.low l6 (Nat.le_refl _))
    have HL6 := hid (HL5.out.trans (l6.mono HL5.out.size))
    have f12 := (l6.cell (p := ⟨g, 12, none⟩) HG5.out).trans e12
    have HG6 := hid (Nat.lt_of_lt_of_le HG5.out l6.size)
    have HF6 := hid (show Fli (W5.alloc (.cells #[.slice none 0 0] 25)) N 120 5 from (l6.block _ (lt_blk HF5.out)).trans HF5.out)
    clear e12 l6 H4 H5 HT5 HRK5 HL5 HG5 HF5
    generalize W5.alloc (.cells #[.slice none 0 0] 25) = W6 at *
    have q0 : W6.cell? ⟨p4, 0, none⟩ = some (.int .i64 14) := cell_of_row _ _ 0 _ _ _ H46.out
    have q1 : W6.cell? ⟨p4, 1, none⟩ = some (.string ⟨#[122]⟩) := cell_of_row _ _ 1 _ _ _ H46.out
    have q2 : W6.cell? ⟨p4, 2, none⟩ = some (.int .i64 2) := cell_of_row _ _ 2 _ _ _ H46.out
    have r0 : W6.cell? ⟨p5, 0, none⟩ = some (.int .i64 6) := cell_of_row _ _ 0 _ _ _ H56.out
    have r2 : W6.cell? ⟨p5, 2, none⟩ = some (.int .i64 1) := cell_of_row _ _ 2 _ _ _ H56.out
    have r3 : W6.cell? ⟨p5, 3, none⟩ = some (.slice k2a 2 k2c) := cell_of_row _ _ 3 _ _ _ H56.out
    have HX6 := hid (belowA W6 (.cells #[.int .i64 0, .int .i64 1] 3))
    have HSI := hid (sints_yes k2a (some ⟨W6.heap.size, 0, none⟩) [0, 1] k2c 2 (W6.alloc (.cells #[.int .i64 0, .int .i64 1] 3)) (HRK6.out.low HX6.out (Nat.le_refl _)) (Or.inr ⟨W6.heap.size, 0, rfl, by simp, fun j hj => (by rw [cell_of_row _ _ _ _ _ _ (heap_alloc_new W6 (.cells #[.int .i64 0, .int .i64 1] 3))]; have : j = 0 ∨ j = 1 := (by simp at hj; omega); rcases this with rfl | rfl <;> rfl)⟩) (by simp))
    simp only [List.length_cons, List.length_nil, Nat.zero_add, Nat.reduceAdd] at HSI
    go_wp2_with fail
    refine HSI.out.mono ?_
    rintro e W7 ⟨rfl, l⟩
    have l7 := HX6.out.trans (l.mono HX6.out.size)
    have HT7 := hid ((l7.block _ (lt_blk HT6.out)).trans HT6.out)
    have HL7 := hid (HL6.out.trans (l7.mono HL6.out.size))
    have g12 := (l7.cell (p := ⟨g, 12, none⟩) HG6.out).trans f12
    have HF7 := hid (show Fli W7 N 120 5 from (l7.block _ (lt_blk HF6.out)).trans HF6.out)
    clear l l7 HSI HX6 f12 q0 q1 q2 r0 r2 r3 HT6 HL6 HF6 HRK6 H46 H56 HG6
    have u0 : W7.cell? ⟨t1, 0, none⟩ = some (.slice (some ⟨g, 0, none⟩) 4 cv) := cell_of_row _ _ 0 _ _ _ HT7.out
    have HEQ := run_eq53 120 5
    go_wp2_with fail
    refine (read_yes N 120 5 W7 HF7.out (by decide)).mono ?_
    rintro e W8 ⟨rfl, l⟩
    have HL8 := hid (HL7.out.trans (l.mono HL7.out.size))
    clear l
    go_wp2_with fail
    go_ret
    exact ⟨rfl, HL8.out⟩
  refine AllReadyH.cons (o := { dst := some 5, op := Op.alloc 46, type := 0, pos := "law.go:32", after := #[], guard := none }) rfl (fun K hK => ?_) AllReadyH.nil
  go_simp
  refine hK.out _ _ ?_ (fun hHeld => ?_)
  · exact MS.out _ (HD.out.alloc HD.out.size _)
  clear hK K hHeld
  try simp only [Act.put, List.setIfInBounds_toArray, List.set_cons_zero, List.set_cons_succ]
  have HA := hid (heap_alloc_new Z (.cells #[.int .i64 0, .string ⟨#[]⟩, .int .i64 0, .slice none 0 0] 46))
  have HB1 := hid (HD.out.alloc HD.out.size (.cells #[.int .i64 0, .string ⟨#[]⟩, .int .i64 0, .slice none 0 0] 46))
  generalize Z.alloc (.cells #[.int .i64 0, .string ⟨#[]⟩, .int .i64 0, .slice none 0 0] 46) = Z1 at *
  have HGA := hid HD.out.size
  generalize Z.heap.size = p5 at *
  have hHeld := MS.out Z1 HB1.out
  refine wpAnyH_ready (rs := [8]) (by kernel_rfl) (by simp) ?_
  refine AllReadyH.cons (o := { dst := some 4, op := Op.alloc 46, type := 0, pos := "law.go:32", after := #[], guard := none }) rfl (fun K hK => ?_) AllReadyH.nil
  go_simp
  refine hK.out _ _ ?_ (fun hHeld => ?_)
  · exact MS.out _ (HB1.out.alloc HB1.out.size _)
  clear hK K hHeld
  try simp only [Act.put, List.setIfInBounds_toArray, List.set_cons_zero, List.set_cons_succ]
  have HA2 := hid (((belowA Z1 (.cells #[.int .i64 0, .string ⟨#[]⟩, .int .i64 0, .slice none 0 0] 46)).block _ (lt_blk HA.out)).trans HA.out)
  have HN := hid (Nat.ne_of_lt (lt_blk HA.out))
  have HC2 := hid (heap_alloc_new Z1 (.cells #[.int .i64 0, .string ⟨#[]⟩, .int .i64 0, .slice none 0 0] 46))
  have HB2 := hid (HB1.out.alloc HB1.out.size (.cells #[.int .i64 0, .string ⟨#[]⟩, .int .i64 0, .slice none 0 0] 46))
  generalize Z1.alloc (.cells #[.int .i64 0, .string ⟨#[]⟩, .int .i64 0, .slice none 0 0] 46) = Z2 at *
  have HGC := hid HB1.out.size
  generalize Z1.heap.size = p4 at *
  have hHeld := MS.out Z2 HB2.out
  refine wpAnyH_ready (rs := [10]) (by kernel_rfl) (by simp) ?_
  refine AllReadyH.cons (o := { dst := none, op := Op.store 46 (Operand.tmp 4) (Operand.tmp 31), type := 0, pos := "law.go:32", after := #[{ on := 8, ground := Ground.data }, { on := 3, ground := Ground.data }, { on := 0, ground := Ground.phase }, { on := 1, ground := Ground.phase }, { on := 2, ground := Ground.phase }, { on := 3, ground := Ground.phase }, { on := 4, ground := Ground.textOnly Departure.lateStores }, { on := 5, ground := Ground.textOnly Departure.lateStores }, { on := 6, ground := Ground.textOnly Departure.lateStores }, { on := 7, ground := Ground.textOnly Departure.lateStores }, { on := 8, ground := Ground.phase }, { on := 9, ground := Ground.phase }], guard := none }) rfl (fun K hK => ?_) AllReadyH.nil
  rw [if_pos (by rfl)]
  refine wp_store_row 46 _ _ rfl p4 #[.int .i64 14, .string ⟨#[122]⟩, .int .i64 2, .slice k0a 0 k0c] rfl rfl 46 _ HC2.out infoP4 rfl (by kernel_rfl) ?_
  have HB3 := hid (below_row HB2.out p4 #[.int .i64 14, .string ⟨#[122]⟩, .int .i64 2, .slice k0a 0 k0c] HGC.out)
  have H4 := hid (setRow_heap Z2 _ _ #[.int .i64 14, .string ⟨#[122]⟩, .int .i64 2, .slice k0a 0 k0c] _ _ HC2.out)
  have H5 := hid (show (Z2.setRow p4 #[.int .i64 14, .string ⟨#[122]⟩, .int .i64 2, .slice k0a 0 k0c]).heap[p5]? = some (.cells #[.int .i64 0, .string ⟨#[]⟩, .int .i64 0, .slice none 0 0] 46 (0, 0)) from (setRow_other _ _ _ _ (Ne.symm (HN.out.symm))).trans HA2.out)
  refine hK.out _ _ ?_ (fun hHeld => ?_)
  · exact MS.out _ HB3.out
  clear hK K hHeld
  try simp only [Act.put, List.setIfInBounds_toArray, List.set_cons_zero, List.set_cons_succ]
  generalize Z2.setRow p4 #[.int .i64 14, .string ⟨#[122]⟩, .int .i64 2, .slice k0a 0 k0c] = Z3 at *
  have hHeld := MS.out Z3 HB3.out
  refine wpAnyH_ready (rs := [11]) (by kernel_rfl) (by simp) ?_
  refine AllReadyH.cons (o := { dst := none, op := Op.store 46 (Operand.tmp 5) (Operand.tmp 35), type := 0, pos := "law.go:32", after := #[{ on := 9, ground := Ground.data }, { on := 7, ground := Ground.data }, { on := 10, ground := Ground.chain }, { on := 0, ground := Ground.phase }, { on := 1, ground := Ground.phase }, { on := 2, ground := Ground.phase }, { on := 3, ground := Ground.phase }, { on := 4, ground := Ground.phase }, { on := 5, ground := Ground.phase }, { on := 6, ground := Ground.phase }, { on := 7, ground := Ground.phase }, { on := 8, ground := Ground.phase }, { on := 9, ground := Ground.phase }, { on := 10, ground := Ground.phase }], guard := none }) rfl (fun K hK => ?_) AllReadyH.nil
  rw [if_pos (by rfl)]
  refine wp_store_row 46 _ _ rfl p5 #[.int .i64 6, .string ⟨#[]⟩, .int .i64 1, .slice k2a 2 k2c] rfl rfl 46 _ H5.out infoP4 rfl (by kernel_rfl) ?_
  have HB4 := hid (below_row HB3.out p5 #[.int .i64 6, .string ⟨#[]⟩, .int .i64 1, .slice k2a 2 k2c] HGA.out)
  have H54 := hid (setRow_heap Z3 _ _ #[.int .i64 6, .string ⟨#[]⟩, .int .i64 1, .slice k2a 2 k2c] _ _ H5.out)
  have H44 := hid (show (Z3.setRow p5 #[.int .i64 6, .string ⟨#[]⟩, .int .i64 1, .slice k2a 2 k2c]).heap[p4]? = some (.cells #[.int .i64 14, .string ⟨#[122]⟩, .int .i64 2, .slice k0a 0 k0c] 46 (0, 0)) from (setRow_other _ _ _ _ (HN.out.symm)).trans H4.out)
  refine hK.out _ _ ?_ (fun hHeld => ?_)
  · exact MS.out _ HB4.out
  clear hK K hHeld
  try simp only [Act.put, List.setIfInBounds_toArray, List.set_cons_zero, List.set_cons_succ]
  generalize Z3.setRow p5 #[.int .i64 6, .string ⟨#[]⟩, .int .i64 1, .slice k2a 2 k2c] = W4 at *
  refine wpAnyH_done (by kernel_rfl) ?_ _
  clear HA HB1 HA2 HC2 HB2 HB3 H4 H5 HN hHeld
  have HV4 := hid ((HV.out.low HL3.out).low HB4.out)
  have HT4 := hid ((HB4.out.block _ (lt_blk HT3.out)).trans HT3.out)
  have HRK4 := hid (HRK3.out.low HB4.out (Nat.le_refl _))
  have HL4 := hid (HL3.out.trans (HB4.out.mono HL3.out.size))
  have d12 := (HB4.out.cell (p := ⟨g, 12, none⟩) HG3.out).trans c12
  have HG4 := hid (Nat.lt_of_lt_of_le HG3.out HB4.out.size)
  clear c0 c1 c2 c3 c8 c9 c10 c11 c12 ct3 MS HD HSZ HT3 HRK3 HL3 HG3 HB4
  go_wp2_with fail
  refine (parse_any wn W4 HV4.out).mono ?_
  rintro e W5 ⟨hp, l5⟩
  unfold PaR at hp
  rw [par_wn] at hp
  obtain ⟨N, rfl, hf⟩ := hp
  have H4 := hid ((l5.block _ (lt_blk H44.out)).trans H44.out)
  have H5 := hid ((l5.block _ (lt_blk H54.out)).trans H54.out)
  have HT5 := hid ((l5.block _ (lt_blk HT4.out)).trans HT4.out)
  have HRK5 := hid (HRK4.out.low l5 (Nat.le_refl _))
  have HL5 := hid (HL4.out.trans (l5.mono HL4.out.size))
  have e12 := (l5.cell (p := ⟨g, 12, none⟩) HG4.out).trans d12
  have HG5 := hid (Nat.lt_of_lt_of_le HG4.out l5.size)
  have HF5 := hid hf
  clear l5 hf d12 H44 H54 HT4 HRK4 HL4 HG4
  go_upto_region 6 with fail
  have l6 := belowA W5 (.cells #[.slice none 0 0] 25)
  have H46 := hid ((l6.block _ (lt_blk H4.out)).trans H4.out)
  have H56 := hid ((l6.block _ (lt_blk H5.out)).trans H5.out)
  have HT6 := hid ((l6.block _ (lt_blk HT5.out)).trans HT5.out)
  have HRK6 := hid (HRK5.out.low l6 (Nat.le_refl _))
  have HL6 := hid (HL5.out.trans (l6.mono HL5.out.size))
  have f12 := (l6.cell (p := ⟨g, 12, none⟩) HG5.out).trans e12
  have HG6 := hid (Nat.lt_of_lt_of_le HG5.out l6.size)
  have HF6 := hid (show Fli (W5.alloc (.cells #[.slice none 0 0] 25)) N 120 5 from (l6.block _ (lt_blk HF5.out)).trans HF5.out)
  clear e12 l6 H4 H5 HT5 HRK5 HL5 HG5 HF5
  generalize W5.alloc (.cells #[.slice none 0 0] 25) = W6 at *
  have q0 : W6.cell? ⟨p4, 0, none⟩ = some (.int .i64 14) := cell_of_row _ _ 0 _ _ _ H46.out
  have q1 : W6.cell? ⟨p4, 1, none⟩ = some (.string ⟨#[122]⟩) := cell_of_row _ _ 1 _ _ _ H46.out
  have q2 : W6.cell? ⟨p4, 2, none⟩ = some (.int .i64 2) := cell_of_row _ _ 2 _ _ _ H46.out
  have r0 : W6.cell? ⟨p5, 0, none⟩ = some (.int .i64 6) := cell_of_row _ _ 0 _ _ _ H56.out
  have r2 : W6.cell? ⟨p5, 2, none⟩ = some (.int .i64 1) := cell_of_row _ _ 2 _ _ _ H56.out
  have r3 : W6.cell? ⟨p5, 3, none⟩ = some (.slice k2a 2 k2c) := cell_of_row _ _ 3 _ _ _ H56.out
  have HX6 := hid (belowA W6 (.cells #[.int .i64 0, .int .i64 1] 3))
  have HSI := hid (sints_yes k2a (some ⟨W6.heap.size, 0, none⟩) [0, 1] k2c 2 (W6.alloc (.cells #[.int .i64 0, .int .i64 1] 3)) (HRK6.out.low HX6.out (Nat.le_refl _)) (Or.inr ⟨W6.heap.size, 0, rfl, by simp, fun j hj => (by rw [cell_of_row _ _ _ _ _ _ (heap_alloc_new W6 (.cells #[.int .i64 0, .int .i64 1] 3))]; have : j = 0 ∨ j = 1 := (by simp at hj; omega); rcases this with rfl | rfl <;> rfl)⟩) (by simp))
  simp only [List.length_cons, List.length_nil, Nat.zero_add, Nat.reduceAdd] at HSI
  go_wp2_with fail
  refine HSI.out.mono ?_
  rintro e W7 ⟨rfl, l⟩
  have l7 := HX6.out.trans (l.mono HX6.out.size)
  have HT7 := hid ((l7.block _ (lt_blk HT6.out)).trans HT6.out)
  have HL7 := hid (HL6.out.trans (l7.mono HL6.out.size))
  have g12 := (l7.cell (p := ⟨g, 12, none⟩) HG6.out).trans f12
  have HF7 := hid (show Fli W7 N 120 5 from (l7.block _ (lt_blk HF6.out)).trans HF6.out)
  clear l l7 HSI HX6 f12 q0 q1 q2 r0 r2 r3 HT6 HL6 HF6 HRK6 H46 H56 HG6
  have u0 : W7.cell? ⟨t1, 0, none⟩ = some (.slice (some ⟨g, 0, none⟩) 4 cv) := cell_of_row _ _ 0 _ _ _ HT7.out
  have HEQ := run_eq53 120 5
  go_wp2_with fail
  refine (read_yes N 120 5 W7 HF7.out (by decide)).mono ?_
  rintro e W8 ⟨rfl, l⟩
  have HL8 := hid (HL7.out.trans (l.mono HL7.out.size))
  clear l
  go_wp2_with fail
  go_ret
  exact ⟨rfl, HL8.out⟩
end Go.Proofs.YtcldglilhhhdoaaGreatDoor.L
