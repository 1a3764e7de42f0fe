import Derived.Test.YtimmjikpcekffaaGreatDoorMgBE
namespace Go.Proofs.YtimmjikpcekffaaGreatDoor.L
open Go.RowKit Go.Shelf
set_option linter.unusedVariables false
set_option linter.unusedSimpArgs false
theorem infoMk : (Tryz.prog.info? 79).map (·.size) = some 3 := by kernel_rfl
theorem makeP (w : World) : (Instr.makeSlice 72 (.int .i64 4) (.int .i64 4)).run Tryz.prog w = .ok (.slice (some ⟨w.heap.size, 0, none⟩) 4 4) (w.alloc (.cells #[.pointer none, .pointer none, .pointer none, .pointer none] 55)) := by
  obtain ⟨i, hi, hz, hs, hb⟩ := info_parts (show (Tryz.prog.info? 55).map (fun i => (i.zero, i.size, i.bytes)) = some (some (.pointer none), 1, 8) by kernel_rfl)
  have h := run_makeSlice (P := Tryz.prog) w 72 55 i (.pointer none) Tryz.underlying72 hi hz .i64 .i64 4 4 (by omega) (by omega) (by rw [hs]; omega) (by rw [hb]; omega) (by omega)
  rw [hs] at h
  simp only [Value.cells] at h
  rw [show madeCells #[Value.pointer none] (Int.toNat 4 * 1) = #[.pointer none, .pointer none, .pointer none, .pointer none] from by kernel_rfl] at h
  exact h
/-- What the region leaves. -/
def WhQ (X : World) (gp : Nat) (e : Exit) (a : Act) (V : World) : Prop := e = .normal ∧ ∃ gs gq bm, a = { tmps := #[.slice (some ⟨gp, 0, none⟩) 4 4, undef, .pointer none, .pointer (some ⟨bm, 0, none⟩), undef, undef, .slice (some ⟨gp, 0, none⟩) 4 4, .slice (some ⟨gp, 0, none⟩) 4 4, .slice (some ⟨gs, 0, none⟩) 4 4, .slice (some ⟨gp, 0, none⟩) 4 4, .int .i64 4, .slice (some ⟨gq, 0, none⟩) 4 4, .agg #[.slice (some ⟨gp, 0, none⟩) 4 4, .slice (some ⟨gs, 0, none⟩) 4 4, .slice (some ⟨gq, 0, none⟩) 4 4], undef, undef, undef, undef, undef, undef, undef, undef, undef, undef, undef, undef, undef, undef, undef, undef, undef, undef, undef, undef, undef, undef, undef, undef, undef, undef, undef], defers := [] } ∧ V.heap[bm]? = some (.cells #[.slice (some ⟨gp, 0, none⟩) 4 4, .slice (some ⟨gs, 0, none⟩) 4 4, .slice (some ⟨gq, 0, none⟩) 4 4] 79 (0, 0)) ∧ Sg V gs 1 1 1 0 ∧ V.heap[gq]? = some (.cells #[.pointer none, .pointer none, .pointer none, .pointer none] 55 (0, 0)) ∧ (X.heap.size ≤ gs ∧ X.heap.size ≤ gq ∧ X.heap.size ≤ bm ∧ gs ≠ gq ∧ gq ≠ bm ∧ gs ≠ bm) ∧ Below X.heap.size X V
set_option maxHeartbeats 16000000 in
set_option maxRecDepth 100000 in
theorem whole_reg (X : World) (gp k1 k2 : Nat) (hF : Fy X gp k1 k2) :
    Code.wp Tryz.prog (hdC (rtC (Option.getD Tryz.f16.body Code.skip))) (WhQ X gp) { tmps := #[.slice (some ⟨gp, 0, none⟩) 4 4, undef, .pointer none, undef, undef, undef, undef, undef, undef, undef, undef, undef, undef, undef, undef, undef, undef, undef, undef, undef, undef, undef, undef, undef, undef, undef, undef, undef, undef, undef, undef, undef, undef, undef, undef, undef, undef, undef, undef, undef], defers := [] } X := by
  have HF := hid hF
  have MKP := makeP
  have HB0 := hid (show Below X.heap.size X X.drew from (Below.refl _ _).drew)
  clear hF
  simp only [hdC, rtC, Option.getD, Tryz.f16]
  refine wp_region_held_drew (S := (fun Y => Hid (Below X.heap.size X Y))) (by kernel_rfl) ?_ (fun hHeld => ?_)
  · exact hid HB0.out
  generalize X.drew = W0 at *
  refine wpAnyH_take (i := 0) (oi := { dst := some 6, op := Op.move (Operand.tmp 0), type := 33, pos := "conditions.go:14", after := #[], guard := none }) (v := ?_) rfl (by kernel_rfl) (by kernel_rfl) (by kernel_rfl) (fun _ _ _ h => absurd h.1 (fun h => (by cases h))) (Or.inl ⟨by rfl, ?_⟩) (by assumption) ?_
  rotate_left
  · (intro w hSw; clear hSw; go_simp; try with_reducible rfl)
  try simp only [Act.put, List.setIfInBounds_toArray, List.set_cons_zero, List.set_cons_succ]
  refine wpAnyH_take (i := 1) (oi := { dst := some 7, op := Op.move (Operand.tmp 0), type := 33, pos := "conditions.go:14", after := #[], guard := none }) (v := ?_) rfl (by kernel_rfl) (by kernel_rfl) (by kernel_rfl) (fun _ _ _ h => absurd h.1 (fun h => (by cases h))) (Or.inl ⟨by rfl, ?_⟩) (by assumption) ?_
  rotate_left
  · (intro w hSw; clear hSw; go_simp; try with_reducible rfl)
  try simp only [Act.put, List.setIfInBounds_toArray, List.set_cons_zero, List.set_cons_succ]
  refine wpAnyH_take (i := 3) (oi := { dst := some 9, op := Op.move (Operand.tmp 0), type := 33, pos := "conditions.go:14", after := #[], guard := none }) (v := ?_) rfl (by kernel_rfl) (by kernel_rfl) (by kernel_rfl) (fun _ _ _ h => absurd h.1 (fun h => (by cases h))) (Or.inl ⟨by rfl, ?_⟩) (by assumption) ?_
  rotate_left
  · (intro w hSw; clear hSw; go_simp; try with_reducible rfl)
  try simp only [Act.put, List.setIfInBounds_toArray, List.set_cons_zero, List.set_cons_succ]
  refine wpAnyH_take (i := 4) (oi := { dst := some 10, op := Op.call { callee := Callee.builtin Builtin.len, args := #[Operand.tmp 9], argTypes := #[33] }, type := 3, pos := "conditions.go:14", after := #[{ on := 3, ground := Ground.data }], guard := none }) (v := ?_) rfl (by kernel_rfl) (by kernel_rfl) (by kernel_rfl) (fun _ _ _ h => absurd h.1 (fun h => (by cases h))) (Or.inl ⟨by rfl, ?_⟩) (by assumption) ?_
  rotate_left
  · (intro w hSw; clear hSw; go_simp; try with_reducible rfl)
  try simp only [Act.put, List.setIfInBounds_toArray, List.set_cons_zero, List.set_cons_succ]
  refine wpAnyH_ready (rs := [2, 5, 7]) (by kernel_rfl) (by simp) ?_
  refine AllReadyH.cons (o := { dst := some 8, op := Op.call { callee := Callee.value (Operand.func 27), args := #[Operand.tmp 7], argTypes := #[33] }, type := 76, pos := "conditions.go:14", after := #[{ on := 1, ground := Ground.data }], guard := none }) rfl (fun K hK => ?_) ?_
  · go_simp
    refine (signs9 gp k1 k2 W0 (HF.out.low HB0.out)).mono ?_
    rintro e v1 ⟨rfl, hs, l⟩
    have Fs_1 := hid hs
    have BB1 := hid (HB0.out.trans (l.mono HB0.out.size))
    have Gs_1 : X.heap.size ≤ W0.heap.size := HB0.out.size
    clear l hs
    refine hK.out _ _ ?_ (fun hHeld => ?_)
    · exact hid BB1.out
    clear hK K hHeld
    try simp only [Act.put, List.setIfInBounds_toArray, List.set_cons_zero, List.set_cons_succ]
    generalize W0.heap.size = cs_1 at *
    have hHeld := hid BB1.out
    refine wpAnyH_ready (rs := [5, 7]) (by kernel_rfl) (by simp) ?_
    refine AllReadyH.cons (o := { dst := some 11, op := Op.makeSlice 72 (Operand.tmp 10) (Operand.tmp 10), type := 72, pos := "conditions.go:14", after := #[{ on := 4, ground := Ground.data }, { on := 4, ground := Ground.data }], guard := none }) rfl (fun K hK => ?_) ?_
    · go_simp
      have Fq_2 := hid (heap_alloc_new v1 (.cells #[.pointer none, .pointer none, .pointer none, .pointer none] 55))
      have BB2 := hid (BB1.out.alloc BB1.out.size (.cells #[.pointer none, .pointer none, .pointer none, .pointer none] 55))
      have Gq_2 : X.heap.size ≤ v1.heap.size := BB1.out.size
      have Ns_2 := lt_blk Fs_1.out
      have Fs_2 := hid (((belowA v1 (.cells #[.pointer none, .pointer none, .pointer none, .pointer none] 55)).block _ (lt_blk Fs_1.out)).trans Fs_1.out)
      refine hK.out _ _ ?_ (fun hHeld => ?_)
      · exact hid BB2.out
      clear hK K hHeld
      try simp only [Act.put, List.setIfInBounds_toArray, List.set_cons_zero, List.set_cons_succ]
      generalize v1.alloc (.cells #[.pointer none, .pointer none, .pointer none, .pointer none] 55) = v2 at *
      generalize v1.heap.size = cq_2 at *
      have hHeld := hid BB2.out
      refine wpAnyH_take (i := 6) (oi := { dst := some 12, op := Op.build 79 #[(0, Operand.tmp 6), (1, Operand.tmp 8), (2, Operand.tmp 11)], type := 79, pos := "conditions.go:14", after := #[{ on := 0, ground := Ground.data }, { on := 2, ground := Ground.data }, { on := 5, ground := Ground.data }], guard := none }) (v := ?_) rfl (by kernel_rfl) (by kernel_rfl) (by kernel_rfl) (fun _ _ _ h => absurd h.1 (fun h => (by cases h))) (Or.inl ⟨by rfl, ?_⟩) (by assumption) ?_
      rotate_left
      · (intro w hSw; clear hSw; go_simp; try with_reducible rfl)
      try simp only [Act.put, List.setIfInBounds_toArray, List.set_cons_zero, List.set_cons_succ]
      refine wpAnyH_ready (rs := [7]) (by kernel_rfl) (by simp) ?_
      refine AllReadyH.cons (o := { dst := some 3, op := Op.alloc 79, type := 0, pos := "conditions.go:14", after := #[], guard := none }) rfl (fun K hK => ?_) AllReadyH.nil
      go_simp
      have Fm_3 := hid (heap_alloc_new v2 (.cells #[.slice none 0 0, .slice none 0 0, .slice none 0 0] 79))
      have BB3 := hid (BB2.out.alloc BB2.out.size (.cells #[.slice none 0 0, .slice none 0 0, .slice none 0 0] 79))
      have Gm_3 : X.heap.size ≤ v2.heap.size := BB2.out.size
      have Ns_3 := lt_blk Fs_2.out
      have Fs_3 := hid (((belowA v2 (.cells #[.slice none 0 0, .slice none 0 0, .slice none 0 0] 79)).block _ (lt_blk Fs_2.out)).trans Fs_2.out)
      have Nq_3 := lt_blk Fq_2.out
      have Fq_3 := hid (((belowA v2 (.cells #[.slice none 0 0, .slice none 0 0, .slice none 0 0] 79)).block _ (lt_blk Fq_2.out)).trans Fq_2.out)
      refine hK.out _ _ ?_ (fun hHeld => ?_)
      · exact hid BB3.out
      clear hK K hHeld
      try simp only [Act.put, List.setIfInBounds_toArray, List.set_cons_zero, List.set_cons_succ]
      generalize v2.alloc (.cells #[.slice none 0 0, .slice none 0 0, .slice none 0 0] 79) = v3 at *
      generalize v2.heap.size = cm_3 at *
      have hHeld := hid BB3.out
      refine wpAnyH_ready (rs := [8]) (by kernel_rfl) (by simp) ?_
      refine AllReadyH.cons (o := { dst := none, op := Op.store 79 (Operand.tmp 3) (Operand.tmp 12), type := 0, pos := "conditions.go:14", after := #[{ on := 7, ground := Ground.data }, { on := 6, ground := Ground.data }, { on := 2, ground := Ground.chain }, { on := 0, ground := Ground.phase }, { on := 1, ground := Ground.phase }, { on := 2, ground := Ground.phase }, { on := 3, ground := Ground.phase }, { on := 4, ground := Ground.phase }, { on := 5, ground := Ground.phase }, { on := 6, ground := Ground.phase }, { on := 7, ground := Ground.phase }], guard := none }) rfl (fun K hK => ?_) AllReadyH.nil
      rw [if_pos (by rfl)]
      refine wp_store_row 79 _ _ rfl cm_3 #[.slice (some ⟨gp, 0, none⟩) 4 4, .slice (some ⟨cs_1, 0, none⟩) 4 4, .slice (some ⟨cq_2, 0, none⟩) 4 4] rfl rfl 79 _ Fm_3.out infoMk rfl (by kernel_rfl) ?_
      refine hK.out _ _ ?_ (fun hHeld => ?_)
      · exact hid (below_row BB3.out Gm_3 _)
      clear hK K hHeld
      try simp only [Act.put, List.setIfInBounds_toArray, List.set_cons_zero, List.set_cons_succ]
      refine wpAnyH_done (by kernel_rfl) ?_ _
      exact ⟨rfl, cs_1, cq_2, cm_3, rfl, setRow_heap v3 cm_3 _ #[.slice (some ⟨gp, 0, none⟩) 4 4, .slice (some ⟨cs_1, 0, none⟩) 4 4, .slice (some ⟨cq_2, 0, none⟩) 4 4] _ _ Fm_3.out, (setRow_other _ _ _ _ (by omega)).trans Fs_3.out, (setRow_other _ _ _ _ (by omega)).trans Fq_3.out, by omega, below_row BB3.out Gm_3 _⟩
    refine AllReadyH.cons (o := { dst := some 3, op := Op.alloc 79, type := 0, pos := "conditions.go:14", after := #[], guard := none }) rfl (fun K hK => ?_) AllReadyH.nil
    go_simp
    have Fm_4 := hid (heap_alloc_new v1 (.cells #[.slice none 0 0, .slice none 0 0, .slice none 0 0] 79))
    have BB4 := hid (BB1.out.alloc BB1.out.size (.cells #[.slice none 0 0, .slice none 0 0, .slice none 0 0] 79))
    have Gm_4 : X.heap.size ≤ v1.heap.size := BB1.out.size
    have Ns_4 := lt_blk Fs_1.out
    have Fs_4 := hid (((belowA v1 (.cells #[.slice none 0 0, .slice none 0 0, .slice none 0 0] 79)).block _ (lt_blk Fs_1.out)).trans Fs_1.out)
    refine hK.out _ _ ?_ (fun hHeld => ?_)
    · exact hid BB4.out
    clear hK K hHeld
    try simp only [Act.put, List.setIfInBounds_toArray, List.set_cons_zero, List.set_cons_succ]
    generalize v1.alloc (.cells #[.slice none 0 0, .slice none 0 0, .slice none 0 0] 79) = v4 at *
    generalize v1.heap.size = cm_4 at *
    have hHeld := hid BB4.out
    refine wpAnyH_ready (rs := [5]) (by kernel_rfl) (by simp) ?_
    refine AllReadyH.cons (o := { dst := some 11, op := Op.makeSlice 72 (Operand.tmp 10) (Operand.tmp 10), type := 72, pos := "conditions.go:14", after := #[{ on := 4, ground := Ground.data }, { on := 4, ground := Ground.data }], guard := none }) rfl (fun K hK => ?_) AllReadyH.nil
    go_simp
    have Fq_5 := hid (heap_alloc_new v4 (.cells #[.pointer none, .pointer none, .pointer none, .pointer none] 55))
    have BB5 := hid (BB4.out.alloc BB4.out.size (.cells #[.pointer none, .pointer none, .pointer none, .pointer none] 55))
    have Gq_5 : X.heap.size ≤ v4.heap.size := BB4.out.size
    have Ns_5 := lt_blk Fs_4.out
    have Fs_5 := hid (((belowA v4 (.cells #[.pointer none, .pointer none, .pointer none, .pointer none] 55)).block _ (lt_blk Fs_4.out)).trans Fs_4.out)
    have Nm_5 := lt_blk Fm_4.out
    have Fm_5 := hid (((belowA v4 (.cells #[.pointer none, .pointer none, .pointer none, .pointer none] 55)).block _ (lt_blk Fm_4.out)).trans Fm_4.out)
    refine hK.out _ _ ?_ (fun hHeld => ?_)
    · exact hid BB5.out
    clear hK K hHeld
    try simp only [Act.put, List.setIfInBounds_toArray, List.set_cons_zero, List.set_cons_succ]
    generalize v4.alloc (.cells #[.pointer none, .pointer none, .pointer none, .pointer none] 55) = v5 at *
    generalize v4.heap.size = cq_5 at *
    have hHeld := hid BB5.out
    refine wpAnyH_take (i := 6) (oi := { dst := some 12, op := Op.build 79 #[(0, Operand.tmp 6), (1, Operand.tmp 8), (2, Operand.tmp 11)], type := 79, pos := "conditions.go:14", after := #[{ on := 0, ground := Ground.data }, { on := 2, ground := Ground.data }, { on := 5, ground := Ground.data }], guard := none }) (v := ?_) rfl (by kernel_rfl) (by kernel_rfl) (by kernel_rfl) (fun _ _ _ h => absurd h.1 (fun h => (by cases h))) (Or.inl ⟨by rfl, ?_⟩) (by assumption) ?_
    rotate_left
    · (intro w hSw; clear hSw; go_simp; try with_reducible rfl)
    try simp only [Act.put, List.setIfInBounds_toArray, List.set_cons_zero, List.set_cons_succ]
    refine wpAnyH_ready (rs := [8]) (by kernel_rfl) (by simp) ?_
    refine AllReadyH.cons (o := { dst := none, op := Op.store 79 (Operand.tmp 3) (Operand.tmp 12), type := 0, pos := "conditions.go:14", after := #[{ on := 7, ground := Ground.data }, { on := 6, ground := Ground.data }, { on := 2, ground := Ground.chain }, { on := 0, ground := Ground.phase }, { on := 1, ground := Ground.phase }, { on := 2, ground := Ground.phase }, { on := 3, ground := Ground.phase }, { on := 4, ground := Ground.phase }, { on := 5, ground := Ground.phase }, { on := 6, ground := Ground.phase }, { on := 7, ground := Ground.phase }], guard := none }) rfl (fun K hK => ?_) AllReadyH.nil
    rw [if_pos (by rfl)]
    refine wp_store_row 79 _ _ rfl cm_4 #[.slice (some ⟨gp, 0, none⟩) 4 4, .slice (some ⟨cs_1, 0, none⟩) 4 4, .slice (some ⟨cq_5, 0, none⟩) 4 4] rfl rfl 79 _ Fm_5.out infoMk rfl (by kernel_rfl) ?_
    refine hK.out _ _ ?_ (fun hHeld => ?_)
    · exact hid (below_row BB5.out Gm_4 _)
    clear hK K hHeld
    try simp only [Act.put, List.setIfInBounds_toArray, List.set_cons_zero, List.set_cons_succ]
    refine wpAnyH_done (by kernel_rfl) ?_ _
    exact ⟨rfl, cs_1, cq_5, cm_4, rfl, setRow_heap v5 cm_4 _ #[.slice (some ⟨gp, 0, none⟩) 4 4, .slice (some ⟨cs_1, 0, none⟩) 4 4, .slice (some ⟨cq_5, 0, none⟩) 4 4] _ _ Fm_5.out, (setRow_other _ _ _ _ (by omega)).trans Fs_5.out, (setRow_other _ _ _ _ (by omega)).trans Fq_5.out, by omega, below_row BB5.out Gm_4 _⟩
  refine AllReadyH.cons (o := { dst := some 11, op := Op.makeSlice 72 (Operand.tmp 10) (Operand.tmp 10), type := 72, pos := "conditions.go:14", after := #[{ on := 4, ground := Ground.data }, { on := 4, ground := Ground.data }], guard := none }) rfl (fun K hK => ?_) ?_
  · go_simp
    have Fq_6 := hid (heap_alloc_new W0 (.cells #[.pointer none, .pointer none, .pointer none, .pointer none] 55))
    have BB6 := hid (HB0.out.alloc HB0.out.size (.cells #[.pointer none, .pointer none, .pointer none, .pointer none] 55))
    have Gq_6 : X.heap.size ≤ W0.heap.size := HB0.out.size
    refine hK.out _ _ ?_ (fun hHeld => ?_)
    · exact hid BB6.out
    clear hK K hHeld
    try simp only [Act.put, List.setIfInBounds_toArray, List.set_cons_zero, List.set_cons_succ]
    generalize W0.alloc (.cells #[.pointer none, .pointer none, .pointer none, .pointer none] 55) = v6 at *
    generalize W0.heap.size = cq_6 at *
    have hHeld := hid BB6.out
    refine wpAnyH_ready (rs := [2, 7]) (by kernel_rfl) (by simp) ?_
    refine AllReadyH.cons (o := { dst := some 8, op := Op.call { callee := Callee.value (Operand.func 27), args := #[Operand.tmp 7], argTypes := #[33] }, type := 76, pos := "conditions.go:14", after := #[{ on := 1, ground := Ground.data }], guard := none }) rfl (fun K hK => ?_) ?_
    · go_simp
      refine (signs9 gp k1 k2 v6 (HF.out.low BB6.out)).mono ?_
      rintro e v7 ⟨rfl, hs, l⟩
      have Fs_7 := hid hs
      have BB7 := hid (BB6.out.trans (l.mono BB6.out.size))
      have Gs_7 : X.heap.size ≤ v6.heap.size := BB6.out.size
      have Nq_7 := lt_blk Fq_6.out
      have Fq_7 := hid ((l.block _ (lt_blk Fq_6.out)).trans Fq_6.out)
      clear l hs
      refine hK.out _ _ ?_ (fun hHeld => ?_)
      · exact hid BB7.out
      clear hK K hHeld
      try simp only [Act.put, List.setIfInBounds_toArray, List.set_cons_zero, List.set_cons_succ]
      generalize v6.heap.size = cs_7 at *
      have hHeld := hid BB7.out
      refine wpAnyH_take (i := 6) (oi := { dst := some 12, op := Op.build 79 #[(0, Operand.tmp 6), (1, Operand.tmp 8), (2, Operand.tmp 11)], type := 79, pos := "conditions.go:14", after := #[{ on := 0, ground := Ground.data }, { on := 2, ground := Ground.data }, { on := 5, ground := Ground.data }], guard := none }) (v := ?_) rfl (by kernel_rfl) (by kernel_rfl) (by kernel_rfl) (fun _ _ _ h => absurd h.1 (fun h => (by cases h))) (Or.inl ⟨by rfl, ?_⟩) (by assumption) ?_
      rotate_left
      · (intro w hSw; clear hSw; go_simp; try with_reducible rfl)
      try simp only [Act.put, List.setIfInBounds_toArray, List.set_cons_zero, List.set_cons_succ]
      refine wpAnyH_ready (rs := [7]) (by kernel_rfl) (by simp) ?_
      refine AllReadyH.cons (o := { dst := some 3, op := Op.alloc 79, type := 0, pos := "conditions.go:14", after := #[], guard := none }) rfl (fun K hK => ?_) AllReadyH.nil
      go_simp
      have Fm_8 := hid (heap_alloc_new v7 (.cells #[.slice none 0 0, .slice none 0 0, .slice none 0 0] 79))
      have BB8 := hid (BB7.out.alloc BB7.out.size (.cells #[.slice none 0 0, .slice none 0 0, .slice none 0 0] 79))
      have Gm_8 : X.heap.size ≤ v7.heap.size := BB7.out.size
      have Nq_8 := lt_blk Fq_7.out
      have Fq_8 := hid (((belowA v7 (.cells #[.slice none 0 0, .slice none 0 0, .slice none 0 0] 79)).block _ (lt_blk Fq_7.out)).trans Fq_7.out)
      have Ns_8 := lt_blk Fs_7.out
      have Fs_8 := hid (((belowA v7 (.cells #[.slice none 0 0, .slice none 0 0, .slice none 0 0] 79)).block _ (lt_blk Fs_7.out)).trans Fs_7.out)
      refine hK.out _ _ ?_ (fun hHeld => ?_)
      · exact hid BB8.out
      clear hK K hHeld
      try simp only [Act.put, List.setIfInBounds_toArray, List.set_cons_zero, List.set_cons_succ]
      generalize v7.alloc (.cells #[.slice none 0 0, .slice none 0 0, .slice none 0 0] 79) = v8 at *
      generalize v7.heap.size = cm_8 at *
      have hHeld := hid BB8.out
      refine wpAnyH_ready (rs := [8]) (by kernel_rfl) (by simp) ?_
      refine AllReadyH.cons (o := { dst := none, op := Op.store 79 (Operand.tmp 3) (Operand.tmp 12), type := 0, pos := "conditions.go:14", after := #[{ on := 7, ground := Ground.data }, { on := 6, ground := Ground.data }, { on := 2, ground := Ground.chain }, { on := 0, ground := Ground.phase }, { on := 1, ground := Ground.phase }, { on := 2, ground := Ground.phase }, { on := 3, ground := Ground.phase }, { on := 4, ground := Ground.phase }, { on := 5, ground := Ground.phase }, { on := 6, ground := Ground.phase }, { on := 7, ground := Ground.phase }], guard := none }) rfl (fun K hK => ?_) AllReadyH.nil
      rw [if_pos (by rfl)]
      refine wp_store_row 79 _ _ rfl cm_8 #[.slice (some ⟨gp, 0, none⟩) 4 4, .slice (some ⟨cs_7, 0, none⟩) 4 4, .slice (some ⟨cq_6, 0, none⟩) 4 4] rfl rfl 79 _ Fm_8.out infoMk rfl (by kernel_rfl) ?_
      refine hK.out _ _ ?_ (fun hHeld => ?_)
      · exact hid (below_row BB8.out Gm_8 _)
      clear hK K hHeld
      try simp only [Act.put, List.setIfInBounds_toArray, List.set_cons_zero, List.set_cons_succ]
      refine wpAnyH_done (by kernel_rfl) ?_ _
      exact ⟨rfl, cs_7, cq_6, cm_8, rfl, setRow_heap v8 cm_8 _ #[.slice (some ⟨gp, 0, none⟩) 4 4, .slice (some ⟨cs_7, 0, none⟩) 4 4, .slice (some ⟨cq_6, 0, none⟩) 4 4] _ _ Fm_8.out, (setRow_other _ _ _ _ (by omega)).trans Fs_8.out, (setRow_other _ _ _ _ (by omega)).trans Fq_8.out, by omega, below_row BB8.out Gm_8 _⟩
    refine AllReadyH.cons (o := { dst := some 3, op := Op.alloc 79, type := 0, pos := "conditions.go:14", after := #[], guard := none }) rfl (fun K hK => ?_) AllReadyH.nil
    go_simp
    have Fm_9 := hid (heap_alloc_new v6 (.cells #[.slice none 0 0, .slice none 0 0, .slice none 0 0] 79))
    have BB9 := hid (BB6.out.alloc BB6.out.size (.cells #[.slice none 0 0, .slice none 0 0, .slice none 0 0] 79))
    have Gm_9 : X.heap.size ≤ v6.heap.size := BB6.out.size
    have Nq_9 := lt_blk Fq_6.out
    have Fq_9 := hid (((belowA v6 (.cells #[.slice none 0 0, .slice none 0 0, .slice none 0 0] 79)).block _ (lt_blk Fq_6.out)).trans Fq_6.out)
    refine hK.out _ _ ?_ (fun hHeld => ?_)
    · exact hid BB9.out
    clear hK K hHeld
    try simp only [Act.put, List.setIfInBounds_toArray, List.set_cons_zero, List.set_cons_succ]
    generalize v6.alloc (.cells #[.slice none 0 0, .slice none 0 0, .slice none 0 0] 79) = v9 at *
    generalize v6.heap.size = cm_9 at *
    have hHeld := hid BB9.out
    refine wpAnyH_ready (rs := [2]) (by kernel_rfl) (by simp) ?_
    refine AllReadyH.cons (o := { dst := some 8, op := Op.call { callee := Callee.value (Operand.func 27), args := #[Operand.tmp 7], argTypes := #[33] }, type := 76, pos := "conditions.go:14", after := #[{ on := 1, ground := Ground.data }], guard := none }) rfl (fun K hK => ?_) AllReadyH.nil
    go_simp
    refine (signs9 gp k1 k2 v9 (HF.out.low BB9.out)).mono ?_
    rintro e v10 ⟨rfl, hs, l⟩
    have Fs_10 := hid hs
    have BB10 := hid (BB9.out.trans (l.mono BB9.out.size))
    have Gs_10 : X.heap.size ≤ v9.heap.size := BB9.out.size
    have Nq_10 := lt_blk Fq_9.out
    have Fq_10 := hid ((l.block _ (lt_blk Fq_9.out)).trans Fq_9.out)
    have Nm_10 := lt_blk Fm_9.out
    have Fm_10 := hid ((l.block _ (lt_blk Fm_9.out)).trans Fm_9.out)
    clear l hs
    refine hK.out _ _ ?_ (fun hHeld => ?_)
    · exact hid BB10.out
    clear hK K hHeld
    try simp only [Act.put, List.setIfInBounds_toArray, List.set_cons_zero, List.set_cons_succ]
    generalize v9.heap.size = cs_10 at *
    have hHeld := hid BB10.out
    refine wpAnyH_take (i := 6) (oi := { dst := some 12, op := Op.build 79 #[(0, Operand.tmp 6), (1, Operand.tmp 8), (2, Operand.tmp 11)], type := 79, pos := "conditions.go:14", after := #[{ on := 0, ground := Ground.data }, { on := 2, ground := Ground.data }, { on := 5, ground := Ground.data }], guard := none }) (v := ?_) rfl (by kernel_rfl) (by kernel_rfl) (by kernel_rfl) (fun _ _ _ h => absurd h.1 (fun h => (by cases h))) (Or.inl ⟨by rfl, ?_⟩) (by assumption) ?_
    rotate_left
    · (intro w hSw; clear hSw; go_simp; try with_reducible rfl)
    try simp only [Act.put, List.setIfInBounds_toArray, List.set_cons_zero, List.set_cons_succ]
    refine wpAnyH_ready (rs := [8]) (by kernel_rfl) (by simp) ?_
    refine AllReadyH.cons (o := { dst := none, op := Op.store 79 (Operand.tmp 3) (Operand.tmp 12), type := 0, pos := "conditions.go:14", after := #[{ on := 7, ground := Ground.data }, { on := 6, ground := Ground.data }, { on := 2, ground := Ground.chain }, { on := 0, ground := Ground.phase }, { on := 1, ground := Ground.phase }, { on := 2, ground := Ground.phase }, { on := 3, ground := Ground.phase }, { on := 4, ground := Ground.phase }, { on := 5, ground := Ground.phase }, { on := 6, ground := Ground.phase }, { on := 7, ground := Ground.phase }], guard := none }) rfl (fun K hK => ?_) AllReadyH.nil
    rw [if_pos (by rfl)]
    refine wp_store_row 79 _ _ rfl cm_9 #[.slice (some ⟨gp, 0, none⟩) 4 4, .slice (some ⟨cs_10, 0, none⟩) 4 4, .slice (some ⟨cq_6, 0, none⟩) 4 4] rfl rfl 79 _ Fm_10.out infoMk rfl (by kernel_rfl) ?_
    refine hK.out _ _ ?_ (fun hHeld => ?_)
    · exact hid (below_row BB10.out Gm_9 _)
    clear hK K hHeld
    try simp only [Act.put, List.setIfInBounds_toArray, List.set_cons_zero, List.set_cons_succ]
    refine wpAnyH_done (by kernel_rfl) ?_ _
    exact ⟨rfl, cs_10, cq_6, cm_9, rfl, setRow_heap v10 cm_9 _ #[.slice (some ⟨gp, 0, none⟩) 4 4, .slice (some ⟨cs_10, 0, none⟩) 4 4, .slice (some ⟨cq_6, 0, none⟩) 4 4] _ _ Fm_10.out, (setRow_other _ _ _ _ (by omega)).trans Fs_10.out, (setRow_other _ _ _ _ (by omega)).trans Fq_10.out, by omega, below_row BB10.out Gm_9 _⟩
  refine AllReadyH.cons (o := { dst := some 3, op := Op.alloc 79, type := 0, pos := "conditions.go:14", after := #[], guard := none }) rfl (fun K hK => ?_) AllReadyH.nil
  go_simp
  have Fm_11 := hid (heap_alloc_new W0 (.cells #[.slice none 0 0, .slice none 0 0, .slice none 0 0] 79))
  have BB11 := hid (HB0.out.alloc HB0.out.size (.cells #[.slice none 0 0, .slice none 0 0, .slice none 0 0] 79))
  have Gm_11 : X.heap.size ≤ W0.heap.size := HB0.out.size
  refine hK.out _ _ ?_ (fun hHeld => ?_)
  · exact hid BB11.out
  clear hK K hHeld
  try simp only [Act.put, List.setIfInBounds_toArray, List.set_cons_zero, List.set_cons_succ]
  generalize W0.alloc (.cells #[.slice none 0 0, .slice none 0 0, .slice none 0 0] 79) = v11 at *
  generalize W0.heap.size = cm_11 at *
  have hHeld := hid BB11.out
  refine wpAnyH_ready (rs := [2, 5]) (by kernel_rfl) (by simp) ?_
  refine AllReadyH.cons (o := { dst := some 8, op := Op.call { callee := Callee.value (Operand.func 27), args := #[Operand.tmp 7], argTypes := #[33] }, type := 76, pos := "conditions.go:14", after := #[{ on := 1, ground := Ground.data }], guard := none }) rfl (fun K hK => ?_) ?_
  · go_simp
    refine (signs9 gp k1 k2 v11 (HF.out.low BB11.out)).mono ?_
    rintro e v12 ⟨rfl, hs, l⟩
    have Fs_12 := hid hs
    have BB12 := hid (BB11.out.trans (l.mono BB11.out.size))
    have Gs_12 : X.heap.size ≤ v11.heap.size := BB11.out.size
    have Nm_12 := lt_blk Fm_11.out
    have Fm_12 := hid ((l.block _ (lt_blk Fm_11.out)).trans Fm_11.out)
    clear l hs
    refine hK.out _ _ ?_ (fun hHeld => ?_)
    · exact hid BB12.out
    clear hK K hHeld
    try simp only [Act.put, List.setIfInBounds_toArray, List.set_cons_zero, List.set_cons_succ]
    generalize v11.heap.size = cs_12 at *
    have hHeld := hid BB12.out
    refine wpAnyH_ready (rs := [5]) (by kernel_rfl) (by simp) ?_
    refine AllReadyH.cons (o := { dst := some 11, op := Op.makeSlice 72 (Operand.tmp 10) (Operand.tmp 10), type := 72, pos := "conditions.go:14", after := #[{ on := 4, ground := Ground.data }, { on := 4, ground := Ground.data }], guard := none }) rfl (fun K hK => ?_) AllReadyH.nil
    go_simp
    have Fq_13 := hid (heap_alloc_new v12 (.cells #[.pointer none, .pointer none, .pointer none, .pointer none] 55))
    have BB13 := hid (BB12.out.alloc BB12.out.size (.cells #[.pointer none, .pointer none, .pointer none, .pointer none] 55))
    have Gq_13 : X.heap.size ≤ v12.heap.size := BB12.out.size
    have Nm_13 := lt_blk Fm_12.out
    have Fm_13 := hid (((belowA v12 (.cells #[.pointer none, .pointer none, .pointer none, .pointer none] 55)).block _ (lt_blk Fm_12.out)).trans Fm_12.out)
    have Ns_13 := lt_blk Fs_12.out
    have Fs_13 := hid (((belowA v12 (.cells #[.pointer none, .pointer none, .pointer none, .pointer none] 55)).block _ (lt_blk Fs_12.out)).trans Fs_12.out)
    refine hK.out _ _ ?_ (fun hHeld => ?_)
    · exact hid BB13.out
    clear hK K hHeld
    try simp only [Act.put, List.setIfInBounds_toArray, List.set_cons_zero, List.set_cons_succ]
    generalize v12.alloc (.cells #[.pointer none, .pointer none, .pointer none, .pointer none] 55) = v13 at *
    generalize v12.heap.size = cq_13 at *
    have hHeld := hid BB13.out
    refine wpAnyH_take (i := 6) (oi := { dst := some 12, op := Op.build 79 #[(0, Operand.tmp 6), (1, Operand.tmp 8), (2, Operand.tmp 11)], type := 79, pos := "conditions.go:14", after := #[{ on := 0, ground := Ground.data }, { on := 2, ground := Ground.data }, { on := 5, ground := Ground.data }], guard := none }) (v := ?_) rfl (by kernel_rfl) (by kernel_rfl) (by kernel_rfl) (fun _ _ _ h => absurd h.1 (fun h => (by cases h))) (Or.inl ⟨by rfl, ?_⟩) (by assumption) ?_
    rotate_left
    · (intro w hSw; clear hSw; go_simp; try with_reducible rfl)
    try simp only [Act.put, List.setIfInBounds_toArray, List.set_cons_zero, List.set_cons_succ]
    refine wpAnyH_ready (rs := [8]) (by kernel_rfl) (by simp) ?_
    refine AllReadyH.cons (o := { dst := none, op := Op.store 79 (Operand.tmp 3) (Operand.tmp 12), type := 0, pos := "conditions.go:14", after := #[{ on := 7, ground := Ground.data }, { on := 6, ground := Ground.data }, { on := 2, ground := Ground.chain }, { on := 0, ground := Ground.phase }, { on := 1, ground := Ground.phase }, { on := 2, ground := Ground.phase }, { on := 3, ground := Ground.phase }, { on := 4, ground := Ground.phase }, { on := 5, ground := Ground.phase }, { on := 6, ground := Ground.phase }, { on := 7, ground := Ground.phase }], guard := none }) rfl (fun K hK => ?_) AllReadyH.nil
    rw [if_pos (by rfl)]
    refine wp_store_row 79 _ _ rfl cm_11 #[.slice (some ⟨gp, 0, none⟩) 4 4, .slice (some ⟨cs_12, 0, none⟩) 4 4, .slice (some ⟨cq_13, 0, none⟩) 4 4] rfl rfl 79 _ Fm_13.out infoMk rfl (by kernel_rfl) ?_
    refine hK.out _ _ ?_ (fun hHeld => ?_)
    · exact hid (below_row BB13.out Gm_11 _)
    clear hK K hHeld
    try simp only [Act.put, List.setIfInBounds_toArray, List.set_cons_zero, List.set_cons_succ]
    refine wpAnyH_done (by kernel_rfl) ?_ _
    exact ⟨rfl, cs_12, cq_13, cm_11, rfl, setRow_heap v13 cm_11 _ #[.slice (some ⟨gp, 0, none⟩) 4 4, .slice (some ⟨cs_12, 0, none⟩) 4 4, .slice (some ⟨cq_13, 0, none⟩) 4 4] _ _ Fm_13.out, (setRow_other _ _ _ _ (by omega)).trans Fs_13.out, (setRow_other _ _ _ _ (by omega)).trans Fq_13.out, by omega, below_row BB13.out Gm_11 _⟩
  refine AllReadyH.cons (o := { dst := some 11, op := Op.makeSlice 72 (Operand.tmp 10) (Operand.tmp 10), type := 72, pos := "conditions.go:14", after := #[{ on := 4, ground := Ground.data }, { on := 4, ground := Ground.data }], guard := none }) rfl (fun K hK => ?_) AllReadyH.nil
  go_simp
  have Fq_14 := hid (heap_alloc_new v11 (.cells #[.pointer none, .pointer none, .pointer none, .pointer none] 55))
  have BB14 := hid (BB11.out.alloc BB11.out.size (.cells #[.pointer none, .pointer none, .pointer none, .pointer none] 55))
  have Gq_14 : X.heap.size ≤ v11.heap.size := BB11.out.size
  have Nm_14 := lt_blk Fm_11.out
  have Fm_14 := hid (((belowA v11 (.cells #[.pointer none, .pointer none, .pointer none, .pointer none] 55)).block _ (lt_blk Fm_11.out)).trans Fm_11.out)
  refine hK.out _ _ ?_ (fun hHeld => ?_)
  · exact hid BB14.out
  clear hK K hHeld
  try simp only [Act.put, List.setIfInBounds_toArray, List.set_cons_zero, List.set_cons_succ]
  generalize v11.alloc (.cells #[.pointer none, .pointer none, .pointer none, .pointer none] 55) = v14 at *
  generalize v11.heap.size = cq_14 at *
  have hHeld := hid BB14.out
  refine wpAnyH_ready (rs := [2]) (by kernel_rfl) (by simp) ?_
  refine AllReadyH.cons (o := { dst := some 8, op := Op.call { callee := Callee.value (Operand.func 27), args := #[Operand.tmp 7], argTypes := #[33] }, type := 76, pos := "conditions.go:14", after := #[{ on := 1, ground := Ground.data }], guard := none }) rfl (fun K hK => ?_) AllReadyH.nil
  go_simp
  refine (signs9 gp k1 k2 v14 (HF.out.low BB14.out)).mono ?_
  rintro e v15 ⟨rfl, hs, l⟩
  have Fs_15 := hid hs
  have BB15 := hid (BB14.out.trans (l.mono BB14.out.size))
  have Gs_15 : X.heap.size ≤ v14.heap.size := BB14.out.size
  have Nm_15 := lt_blk Fm_14.out
  have Fm_15 := hid ((l.block _ (lt_blk Fm_14.out)).trans Fm_14.out)
  have Nq_15 := lt_blk Fq_14.out
  have Fq_15 := hid ((l.block _ (lt_blk Fq_14.out)).trans Fq_14.out)
  clear l hs
  refine hK.out _ _ ?_ (fun hHeld => ?_)
  · exact hid BB15.out
  clear hK K hHeld
  try simp only [Act.put, List.setIfInBounds_toArray, List.set_cons_zero, List.set_cons_succ]
  generalize v14.heap.size = cs_15 at *
  have hHeld := hid BB15.out
  refine wpAnyH_take (i := 6) (oi := { dst := some 12, op := Op.build 79 #[(0, Operand.tmp 6), (1, Operand.tmp 8), (2, Operand.tmp 11)], type := 79, pos := "conditions.go:14", after := #[{ on := 0, ground := Ground.data }, { on := 2, ground := Ground.data }, { on := 5, ground := Ground.data }], guard := none }) (v := ?_) rfl (by kernel_rfl) (by kernel_rfl) (by kernel_rfl) (fun _ _ _ h => absurd h.1 (fun h => (by cases h))) (Or.inl ⟨by rfl, ?_⟩) (by assumption) ?_
  rotate_left
  · (intro w hSw; clear hSw; go_simp; try with_reducible rfl)
  try simp only [Act.put, List.setIfInBounds_toArray, List.set_cons_zero, List.set_cons_succ]
  refine wpAnyH_ready (rs := [8]) (by kernel_rfl) (by simp) ?_
  refine AllReadyH.cons (o := { dst := none, op := Op.store 79 (Operand.tmp 3) (Operand.tmp 12), type := 0, pos := "conditions.go:14", after := #[{ on := 7, ground := Ground.data }, { on := 6, ground := Ground.data }, { on := 2, ground := Ground.chain }, { on := 0, ground := Ground.phase }, { on := 1, ground := Ground.phase }, { on := 2, ground := Ground.phase }, { on := 3, ground := Ground.phase }, { on := 4, ground := Ground.phase }, { on := 5, ground := Ground.phase }, { on := 6, ground := Ground.phase }, { on := 7, ground := Ground.phase }], guard := none }) rfl (fun K hK => ?_) AllReadyH.nil
  rw [if_pos (by rfl)]
  refine wp_store_row 79 _ _ rfl cm_11 #[.slice (some ⟨gp, 0, none⟩) 4 4, .slice (some ⟨cs_15, 0, none⟩) 4 4, .slice (some ⟨cq_14, 0, none⟩) 4 4] rfl rfl 79 _ Fm_15.out infoMk rfl (by kernel_rfl) ?_
  refine hK.out _ _ ?_ (fun hHeld => ?_)
  · exact hid (below_row BB15.out Gm_11 _)
  clear hK K hHeld
  try simp only [Act.put, List.setIfInBounds_toArray, List.set_cons_zero, List.set_cons_succ]
  refine wpAnyH_done (by kernel_rfl) ?_ _
  exact ⟨rfl, cs_15, cq_14, cm_11, rfl, setRow_heap v15 cm_11 _ #[.slice (some ⟨gp, 0, none⟩) 4 4, .slice (some ⟨cs_15, 0, none⟩) 4 4, .slice (some ⟨cq_14, 0, none⟩) 4 4] _ _ Fm_15.out, (setRow_other _ _ _ _ (by omega)).trans Fs_15.out, (setRow_other _ _ _ _ (by omega)).trans Fq_15.out, by omega, below_row BB15.out Gm_11 _⟩
end Go.Proofs.YtimmjikpcekffaaGreatDoor.L
