import Derived.Test.YtcldglilhhhdoaaGreatDoorPfE
namespace Go.Proofs.YtcldglilhhhdoaaGreatDoor.L
open Go.RowKit
set_option linter.unusedVariables false
set_option linter.unusedSimpArgs false
theorem infoW : (Tryz.prog.info? 74).map (fun i => (i.zero, i.size, i.bytes)) = some (some (.agg #[.int .i64 0, .int .i64 0, .int .i64 0, .string ByteArray.empty, .int .i64 0, .int .i64 0]), 6, 56) := by kernel_rfl
theorem six_one {a0 a1 a2 a4 a5 : Int} {a3 : ByteArray} {u : Value} (h : u ∈ ([.int .i64 a0, .int .i64 a1, .int .i64 a2, .string a3, .int .i64 a4, .int .i64 a5] : List Value)) : u.oneCell' = true := by
 simp only [List.mem_cons, List.not_mem_nil, or_false] at h
 rcases h with rfl | rfl | rfl | rfl | rfl | rfl <;> rfl
theorem mc2 (tv : Value) (nx : Nat) (wv v o f : Value) (ns : Nat) (fl : Array Value) : (mc tv nx wv v o f ns fl)[2]? = some wv := by
 unfold mc
 rw [Array.getElem?_append_left (by simp)]
 rfl
/-- One thing more is awaited. -/
theorem MM.morew {mb B : Nat} {tv : Value} {T : List Tok} {W : World} {s : PS} {ws : List Wn} {fr : List Int} {fl : Array Value} {wv v o f : Value} {ks : Nat → Value} {W' : World} {w : Wn} {wv' : Value} (h : MM mb B tv T W s ws fr fl wv v o f ks) (hb : W'.heap[mb]? = some (.cells (mc tv s.nx wv' v o f s.ns fl) 71 (0, 0))) (hk : ∀ k, k < W.heap.size → k ≠ mb → wv.ownBlock ≠ some k → W'.heap[k]? = W.heap[k]?) (hp : W'.ownsRow B 74 6 wv' (w :: ws).length (cellsW (w :: ws).reverse)) : MM mb B tv T W' s (w :: ws) fr fl wv' v o f ks := by
 have key : ∀ {e : TypeId} {base size n : Nat} {u : Value} {xs : List Value}, e ≠ 71 → e ≠ 74 → W.ownsRow base e size u n xs → W'.ownsRow base e size u n xs := fun he h2 hr => row_kept hr (fun k hkk => hk k (row_at hr hkk).2.1 (type_box hr h.box he hkk) (type_ne hr h.wants h2 hkk))
 exact ⟨hb, h.fl19, key (by decide) (by decide) h.tok, hp, ⟨key (by decide) (by decide) h.parts.row, fun j hj => key (by decide) (by decide) (h.parts.kids j hj)⟩, key (by decide) (by decide) h.offs, key (by decide) (by decide) h.free, h.mbB, h.nx, h.ns, h.tl, h.fin, h.ko, h.kf, h.of⟩
set_option maxHeartbeats 16000000 in
set_option maxRecDepth 100000 in
theorem mpush_any {mb B : Nat} {tv : Value} {T : List Tok} {W : World} {s : PS} {ws : List Wn} {fr : List Int} {fl : Array Value} {wv v o f : Value} {ks : Nat → Value} (h : MM mb B tv T W s ws fr fl wv v o f ks) (w : Wn) (hl : ws.length ≤ 100000) : Calls Tryz.prog 27 #[.pointer (some ⟨mb, 0, none⟩), .agg #[.int .i64 w.w, .int .i64 w.kd, .int .i64 w.pos, .string w.text, .int .i64 w.num, .int .i64 (w.base : Int)]] W fun e W' => e = .returned (.tuple #[]) ∧ (∃ wv', MM mb B tv T W' s (w :: ws) fr fl wv' v o f ks) ∧ Fmm B W W' := by
 obtain ⟨i6, hi, hz0, hz1, hz2⟩ := info_parts infoW
 obtain ⟨a0, a1, a2, a3, a4, a5⟩ := w
 dsimp only
 have HB0 := hid (belowA W (.cells #[.int .i64 a0, .int .i64 a1, .int .i64 a2, .string a3, .int .i64 a4, .int .i64 (a5 : Int)] 74))
 have HX0 := hid (heap_alloc_new W (.cells #[.int .i64 a0, .int .i64 a1, .int .i64 a2, .string a3, .int .i64 a4, .int .i64 (a5 : Int)] 74))
 have HP := hid (h.low HB0.out)
 have HPW := hid h
 have HF0 := hid (Fmm.of HB0.out h.size)
 have HEQ := hid (show cellsW ((⟨a0, a1, a2, a3, a4, a5⟩ : Wn) :: ws).reverse = cellsW ws.reverse ++ [.int .i64 a0, .int .i64 a1, .int .i64 a2, .string a3, .int .i64 a4, .int .i64 (a5 : Int)] by simp [cellsW])
 obtain ⟨w, hw⟩ : ∃ w : Wn, w = ⟨a0, a1, a2, a3, a4, a5⟩ := ⟨_, rfl⟩
 rw [← hw] at HEQ ⊢
 clear h hw
 go_enter Tryz.func27, Tryz.ntmps27
 go_upto_region 1 with (fail)
 generalize W.alloc (.cells #[.int .i64 a0, .int .i64 a1, .int .i64 a2, .string a3, .int .i64 a4, .int .i64 (a5 : Int)] 74) = X at *
 have HBP := hid (show W.heap.size ≠ mb from fun e => (by have h1 := HPW.out.box; rw [← e] at h1; have := lt_blk h1; omega))
 have HBV := hid (show wv.ownBlock ≠ some W.heap.size from fun e => (by have := (row_at HPW.out.wants e).2.1; omega))
 generalize hbp : W.heap.size = bp at *
 have MB := hid (show ∀ Z, But1 mb wv X Z → (fun Z => Z.cell? ⟨bp, 0, none⟩ = some (.int .i64 a0) ∧ Z.cell? ⟨bp, 1, none⟩ = some (.int .i64 a1) ∧ Z.cell? ⟨bp, 2, none⟩ = some (.int .i64 a2) ∧ Z.cell? ⟨bp, 3, none⟩ = some (.string a3) ∧ Z.cell? ⟨bp, 4, none⟩ = some (.int .i64 a4) ∧ Z.cell? ⟨bp, 5, none⟩ = some (.int .i64 (a5 : Int))) Z from fun Z hb => ⟨(World.cell?_of_block (a := ⟨bp, 0, none⟩) (hb bp (lt_blk HX0.out) HBP.out HBV.out)).trans (cell_of_row _ _ 0 _ _ _ HX0.out), (World.cell?_of_block (a := ⟨bp, 1, none⟩) (hb bp (lt_blk HX0.out) HBP.out HBV.out)).trans (cell_of_row _ _ 1 _ _ _ HX0.out), (World.cell?_of_block (a := ⟨bp, 2, none⟩) (hb bp (lt_blk HX0.out) HBP.out HBV.out)).trans (cell_of_row _ _ 2 _ _ _ HX0.out), (World.cell?_of_block (a := ⟨bp, 3, none⟩) (hb bp (lt_blk HX0.out) HBP.out HBV.out)).trans (cell_of_row _ _ 3 _ _ _ HX0.out), (World.cell?_of_block (a := ⟨bp, 4, none⟩) (hb bp (lt_blk HX0.out) HBP.out HBV.out)).trans (cell_of_row _ _ 4 _ _ _ HX0.out), (World.cell?_of_block (a := ⟨bp, 5, none⟩) (hb bp (lt_blk HX0.out) HBP.out HBV.out)).trans (cell_of_row _ _ 5 _ _ _ HX0.out)⟩)
 have HV0 := hid (show Below X.heap.size X X.drew from (Below.refl _ _).drew)
 have MBB := hid (show ∀ Z, Below X.heap.size X Z → (fun Z => Z.cell? ⟨bp, 0, none⟩ = some (.int .i64 a0) ∧ Z.cell? ⟨bp, 1, none⟩ = some (.int .i64 a1) ∧ Z.cell? ⟨bp, 2, none⟩ = some (.int .i64 a2) ∧ Z.cell? ⟨bp, 3, none⟩ = some (.string a3) ∧ Z.cell? ⟨bp, 4, none⟩ = some (.int .i64 a4) ∧ Z.cell? ⟨bp, 5, none⟩ = some (.int .i64 (a5 : Int))) Z from fun Z hb => MB.out Z (fun k hk _ _ => hb.block k hk))
 refine wp_region_held_drew (S := (fun Z => Z.cell? ⟨bp, 0, none⟩ = some (.int .i64 a0) ∧ Z.cell? ⟨bp, 1, none⟩ = some (.int .i64 a1) ∧ Z.cell? ⟨bp, 2, none⟩ = some (.int .i64 a2) ∧ Z.cell? ⟨bp, 3, none⟩ = some (.string a3) ∧ Z.cell? ⟨bp, 4, none⟩ = some (.int .i64 a4) ∧ Z.cell? ⟨bp, 5, none⟩ = some (.int .i64 (a5 : Int)))) (by kernel_rfl) ?_ (fun hHeld => ?_)
 ·exact MBB.out _ HV0.out
 generalize X.drew = Z0 at *
 refine wpAnyH_take (i := 0) (v := ?_) rfl (by kernel_rfl) (by kernel_rfl) (by kernel_rfl) (fun _ _ _ h => h) (Or.inl ⟨by rfl, ?_⟩) (by assumption) ?_
 rotate_left
 ·(intro w hSw; (try dsimp only at hSw); go_simp; try with_reducible rfl)
 try simp only [Act.put, List.setIfInBounds_toArray, List.set_cons_zero, List.set_cons_succ]
 refine wpAnyH_take (i := 1) (v := ?_) rfl (by kernel_rfl) (by kernel_rfl) (by kernel_rfl) (fun _ _ _ h => h) (Or.inl ⟨by rfl, ?_⟩) (by assumption) ?_
 rotate_left
 ·(intro w hSw; (try dsimp only at hSw); go_simp; try with_reducible rfl)
 try simp only [Act.put, List.setIfInBounds_toArray, List.set_cons_zero, List.set_cons_succ]
 refine wpAnyH_take (i := 2) (v := ?_) rfl (by kernel_rfl) (by kernel_rfl) (by kernel_rfl) (fun _ _ _ h => h) (Or.inl ⟨by rfl, ?_⟩) (by assumption) ?_
 rotate_left
 ·(intro w hSw; (try dsimp only at hSw); go_simp; try with_reducible rfl)
 try simp only [Act.put, List.setIfInBounds_toArray, List.set_cons_zero, List.set_cons_succ]
 refine wpAnyH_take (i := 3) (v := ?_) rfl (by kernel_rfl) (by kernel_rfl) (by kernel_rfl) (fun _ _ _ h => h) (Or.inl ⟨by rfl, ?_⟩) (by assumption) ?_
 rotate_left
 ·(intro w hSw; (try dsimp only at hSw); go_simp; try with_reducible rfl)
 try simp only [Act.put, List.setIfInBounds_toArray, List.set_cons_zero, List.set_cons_succ]
 refine wpAnyH_take (i := 5) (v := ?_) rfl (by kernel_rfl) (by kernel_rfl) (by kernel_rfl) (fun _ _ _ h => h) (Or.inl ⟨by rfl, ?_⟩) (by assumption) ?_
 rotate_left
 ·(intro w hSw; (try dsimp only at hSw); go_simp; try with_reducible rfl)
 try simp only [Act.put, List.setIfInBounds_toArray, List.set_cons_zero, List.set_cons_succ]
 refine wpAnyH_ready (rs := [4, 6]) (by kernel_rfl) (by simp) ?_
 refine AllReadyH.cons rfl (fun K hK => ?_) ?_
 ·have wc : Z0.cell? ⟨mb, 2, none⟩ = some wv := (HP.out.low HV0.out).cell 2 (by decide)
  go_simp
  clear wc
  refine hK.out _ _ ?_ (fun hHeld => ?_)
  ·exact MBB.out _ HV0.out
  clear hK K hHeld
  try simp only [Act.put, List.setIfInBounds_toArray, List.set_cons_zero, List.set_cons_succ]
  have hHeld := MBB.out Z0 HV0.out
  refine wpAnyH_ready (rs := [6]) (by kernel_rfl) (by simp) ?_
  refine AllReadyH.cons rfl (fun K hK => ?_) AllReadyH.nil
  go_simp
  refine hK.out _ _ ?_ (fun hHeld => ?_)
  ·exact MBB.out _ (HV0.out.alloc HV0.out.size _)
  clear hK K hHeld
  try simp only [Act.put, List.setIfInBounds_toArray, List.set_cons_zero, List.set_cons_succ]
  have HR := hid (heap_alloc_new Z0 (.cells #[.int .i64 a0, .int .i64 a1, .int .i64 a2, .string a3, .int .i64 a4, .int .i64 (a5 : Int)] 74))
  have HB9 := hid (HV0.out.alloc HV0.out.size (.cells #[.int .i64 a0, .int .i64 a1, .int .i64 a2, .string a3, .int .i64 a4, .int .i64 (a5 : Int)] 74))
  generalize Z0.alloc (.cells #[.int .i64 a0, .int .i64 a1, .int .i64 a2, .string a3, .int .i64 a4, .int .i64 (a5 : Int)] 74) = Z1 at *
  generalize Z0.heap.size = rb at *
  have hHeld := MBB.out Z1 HB9.out
  refine wpAnyH_ready (rs := [7]) (by kernel_rfl) (by simp) ?_
  refine AllReadyH.cons rfl (fun K hK => ?_) AllReadyH.nil
  rw [if_pos (by rfl)]
  have HP1 := hid (HP.out.low HB9.out)
  refine wp_append_stays _ _ 69 rfl B 74 i6 (.agg #[.int .i64 0, .int .i64 0, .int .i64 0, .string ByteArray.empty, .int .i64 0, .int .i64 0]) 6 56 Tryz.underlying69 hi hz0 hz1 hz2 rfl (by decide) wv ws.length (cellsW ws.reverse) rfl HP1.out.wants ⟨rb, 0, none⟩ 1 1 [.int .i64 a0, .int .i64 a1, .int .i64 a2, .string a3, .int .i64 a4, .int .i64 (a5 : Int)] rfl rfl ?_ ?_ (by unfold maxLen; omega) (by omega) ?_ (by decide) ?_
  ·intro j u hu
   rw [Go.WideShapes.add_plain]
   show Z1.cell? ⟨rb, 0 + j, none⟩ = _
   rw [Nat.zero_add, cell_of_row _ _ j _ _ _ HR.out, List.getElem?_toArray]
   exact hu
  ·intro u hu
   exact six_one hu
  ·have h1 := HP1.out.mbB
   have h2 := lt_blk HP1.out.box
   omega
  intro v' w' ho hg hvb
  obtain ⟨va, vc, rfl⟩ : ∃ va vc, v' = .slice va (ws.length + 1) vc := (by rcases ho.2 with ⟨_, h0⟩ | ⟨r, cap, cur, e, _⟩; (exact absurd h0 (by omega)); (exact ⟨_, _, e⟩))
  have HOW := hid ho
  have HG := hid hg
  have HBU := hid (show But1 mb wv X w' from fun k hk _ hv => (hg.block k (Nat.lt_of_lt_of_le hk HB9.out.size) (fun e => hv e.symm)).trans (HB9.out.block k hk))
  have HWW := hid ((hg.block mb (lt_blk HP1.out.box) (fun e => type_box HP1.out.wants HP1.out.box (by decide) e.symm rfl)).trans HP1.out.box)
  clear ho hg hvb
  refine hK.out _ _ ?_ (fun hHeld => ?_)
  ·exact MB.out _ HBU.out
  clear hK K hHeld
  try simp only [Act.put, List.setIfInBounds_toArray, List.set_cons_zero, List.set_cons_succ]
  have hHeld := MB.out w' HBU.out
  refine wpAnyH_take (i := 8) (v := ?_) rfl (by kernel_rfl) (by kernel_rfl) (by kernel_rfl) (fun _ _ _ h => h) (Or.inl ⟨by rfl, ?_⟩) (by assumption) ?_
  rotate_left
  ·(intro w hSw; (try dsimp only at hSw); go_simp; try with_reducible rfl)
  try simp only [Act.put, List.setIfInBounds_toArray, List.set_cons_zero, List.set_cons_succ]
  refine wpAnyH_take (i := 9) (v := ?_) rfl (by kernel_rfl) (by kernel_rfl) (by kernel_rfl) (fun _ _ _ h => h) (Or.inl ⟨by rfl, ?_⟩) (by assumption) ?_
  rotate_left
  ·(intro w hSw; (try dsimp only at hSw); go_simp; try with_reducible rfl)
  try simp only [Act.put, List.setIfInBounds_toArray, List.set_cons_zero, List.set_cons_succ]
  refine wpAnyH_ready (rs := [10]) (by kernel_rfl) (by simp) ?_
  refine AllReadyH.cons rfl (fun K hK => ?_) AllReadyH.nil
  have wc : w'.cell? ⟨mb, 2, none⟩ = some wv := (cell_of_row _ _ 2 _ _ _ HWW.out).trans (mc2 _ _ _ _ _ _ _ _)
  have wf : w'.frozen? ⟨mb, 2, none⟩ = false := frz_row HWW.out 2
  go_simp
  have HBT := hid (show But1 mb wv X (w'.setCell ⟨mb, 2, none⟩ (.slice va (ws.length + 1) vc)) from fun k hk hne hv => (set_oth HWW.out 2 (.slice va (ws.length + 1) vc) hne).trans (HBU.out k hk hne hv))
  refine hK.out _ _ ?_ (fun hHeld => ?_)
  ·exact MB.out _ HBT.out
  clear hK K hHeld wc wf
  try simp only [Act.put, List.setIfInBounds_toArray, List.set_cons_zero, List.set_cons_succ]
  refine wpAnyH_done (by kernel_rfl) ?_ _
  clear hHeld
  have HPU := hid (HP.out.morew (w := w) (wv' := (.slice va (ws.length + 1) vc)) (by rw [heap_setCell_same _ _ _ _ _ _ HWW.out]; cases fl; simp [mc]) (fun k h1 h2 h3 => HBT.out k h1 h2 h3) (row_kept (by rw [HEQ.out]; exact HOW.out) (fun k hk => set_oth HWW.out 2 (.slice va (ws.length + 1) vc) (type_box HOW.out HWW.out (by decide) hk))))
  have HFU := hid (show Fmm B X (w'.setCell ⟨mb, 2, none⟩ (.slice va (ws.length + 1) vc)) from ⟨⟨HG.out.os.trans HB9.out.os, HG.out.tape.trans HB9.out.tape, HG.out.output.trans HB9.out.output, by simpa using Nat.le_trans HB9.out.size HG.out.size, fun k hk => HBT.out k (Nat.lt_of_lt_of_le hk HP.out.size) (by have := HP.out.mbB; omega) (fun e => by have := (row_at HP.out.wants e).1; omega)⟩, fun k cs fr hk => HBT.out k (lt_blk hk) (fun e => by rw [e, HP.out.box] at hk; injection hk with hk; injection hk with _ h5; exact absurd h5 (by decide)) (fun e => by obtain ⟨_, _, cur, h3⟩ := row_at HP.out.wants e; rw [h3] at hk; injection hk with hk; injection hk with _ h5; exact absurd h5 (by decide))⟩)
  generalize w'.setCell ⟨mb, 2, none⟩ (.slice va (ws.length + 1) vc) = U at *
  go_wp2_with fail
  exact ⟨rfl, .tuple #[], by first | rfl | kernel_rfl, rfl, ⟨_, HPU.out⟩, HF0.out.trans HFU.out⟩
 refine AllReadyH.cons rfl (fun K hK => ?_) AllReadyH.nil
 go_simp
 refine hK.out _ _ ?_ (fun hHeld => ?_)
 ·exact MBB.out _ (HV0.out.alloc HV0.out.size _)
 clear hK K hHeld
 try simp only [Act.put, List.setIfInBounds_toArray, List.set_cons_zero, List.set_cons_succ]
 have HR := hid (heap_alloc_new Z0 (.cells #[.int .i64 a0, .int .i64 a1, .int .i64 a2, .string a3, .int .i64 a4, .int .i64 (a5 : Int)] 74))
 have HB9 := hid (HV0.out.alloc HV0.out.size (.cells #[.int .i64 a0, .int .i64 a1, .int .i64 a2, .string a3, .int .i64 a4, .int .i64 (a5 : Int)] 74))
 generalize Z0.alloc (.cells #[.int .i64 a0, .int .i64 a1, .int .i64 a2, .string a3, .int .i64 a4, .int .i64 (a5 : Int)] 74) = Z1 at *
 generalize Z0.heap.size = rb at *
 have hHeld := MBB.out Z1 HB9.out
 refine wpAnyH_ready (rs := [4]) (by kernel_rfl) (by simp) ?_
 refine AllReadyH.cons rfl (fun K hK => ?_) AllReadyH.nil
 have wc : Z1.cell? ⟨mb, 2, none⟩ = some wv := (HP.out.low HB9.out).cell 2 (by decide)
 go_simp
 clear wc
 refine hK.out _ _ ?_ (fun hHeld => ?_)
 ·exact MBB.out _ HB9.out
 clear hK K hHeld
 try simp only [Act.put, List.setIfInBounds_toArray, List.set_cons_zero, List.set_cons_succ]
 have hHeld := MBB.out Z1 HB9.out
 refine wpAnyH_ready (rs := [7]) (by kernel_rfl) (by simp) ?_
 refine AllReadyH.cons rfl (fun K hK => ?_) AllReadyH.nil
 rw [if_pos (by rfl)]
 have HP1 := hid (HP.out.low HB9.out)
 refine wp_append_stays _ _ 69 rfl B 74 i6 (.agg #[.int .i64 0, .int .i64 0, .int .i64 0, .string ByteArray.empty, .int .i64 0, .int .i64 0]) 6 56 Tryz.underlying69 hi hz0 hz1 hz2 rfl (by decide) wv ws.length (cellsW ws.reverse) rfl HP1.out.wants ⟨rb, 0, none⟩ 1 1 [.int .i64 a0, .int .i64 a1, .int .i64 a2, .string a3, .int .i64 a4, .int .i64 (a5 : Int)] rfl rfl ?_ ?_ (by unfold maxLen; omega) (by omega) ?_ (by decide) ?_
 ·intro j u hu
  rw [Go.WideShapes.add_plain]
  show Z1.cell? ⟨rb, 0 + j, none⟩ = _
  rw [Nat.zero_add, cell_of_row _ _ j _ _ _ HR.out, List.getElem?_toArray]
  exact hu
 ·intro u hu
  exact six_one hu
 ·have h1 := HP1.out.mbB
  have h2 := lt_blk HP1.out.box
  omega
 intro v' w' ho hg hvb
 obtain ⟨va, vc, rfl⟩ : ∃ va vc, v' = .slice va (ws.length + 1) vc := (by rcases ho.2 with ⟨_, h0⟩ | ⟨r, cap, cur, e, _⟩; (exact absurd h0 (by omega)); (exact ⟨_, _, e⟩))
 have HOW := hid ho
 have HG := hid hg
 have HBU := hid (show But1 mb wv X w' from fun k hk _ hv => (hg.block k (Nat.lt_of_lt_of_le hk HB9.out.size) (fun e => hv e.symm)).trans (HB9.out.block k hk))
 have HWW := hid ((hg.block mb (lt_blk HP1.out.box) (fun e => type_box HP1.out.wants HP1.out.box (by decide) e.symm rfl)).trans HP1.out.box)
 clear ho hg hvb
 refine hK.out _ _ ?_ (fun hHeld => ?_)
 ·exact MB.out _ HBU.out
 clear hK K hHeld
 try simp only [Act.put, List.setIfInBounds_toArray, List.set_cons_zero, List.set_cons_succ]
 have hHeld := MB.out w' HBU.out
 refine wpAnyH_take (i := 8) (v := ?_) rfl (by kernel_rfl) (by kernel_rfl) (by kernel_rfl) (fun _ _ _ h => h) (Or.inl ⟨by rfl, ?_⟩) (by assumption) ?_
 rotate_left
 ·(intro w hSw; (try dsimp only at hSw); go_simp; try with_reducible rfl)
 try simp only [Act.put, List.setIfInBounds_toArray, List.set_cons_zero, List.set_cons_succ]
 refine wpAnyH_take (i := 9) (v := ?_) rfl (by kernel_rfl) (by kernel_rfl) (by kernel_rfl) (fun _ _ _ h => h) (Or.inl ⟨by rfl, ?_⟩) (by assumption) ?_
 rotate_left
 ·(intro w hSw; (try dsimp only at hSw); go_simp; try with_reducible rfl)
 try simp only [Act.put, List.setIfInBounds_toArray, List.set_cons_zero, List.set_cons_succ]
 refine wpAnyH_ready (rs := [10]) (by kernel_rfl) (by simp) ?_
 refine AllReadyH.cons rfl (fun K hK => ?_) AllReadyH.nil
 have wc : w'.cell? ⟨mb, 2, none⟩ = some wv := (cell_of_row _ _ 2 _ _ _ HWW.out).trans (mc2 _ _ _ _ _ _ _ _)
 have wf : w'.frozen? ⟨mb, 2, none⟩ = false := frz_row HWW.out 2
 go_simp
 have HBT := hid (show But1 mb wv X (w'.setCell ⟨mb, 2, none⟩ (.slice va (ws.length + 1) vc)) from fun k hk hne hv => (set_oth HWW.out 2 (.slice va (ws.length + 1) vc) hne).trans (HBU.out k hk hne hv))
 refine hK.out _ _ ?_ (fun hHeld => ?_)
 ·exact MB.out _ HBT.out
 clear hK K hHeld wc wf
 try simp only [Act.put, List.setIfInBounds_toArray, List.set_cons_zero, List.set_cons_succ]
 refine wpAnyH_done (by kernel_rfl) ?_ _
 clear hHeld
 have HPU := hid (HP.out.morew (w := w) (wv' := (.slice va (ws.length + 1) vc)) (by rw [heap_setCell_same _ _ _ _ _ _ HWW.out]; cases fl; simp [mc]) (fun k h1 h2 h3 => HBT.out k h1 h2 h3) (row_kept (by rw [HEQ.out]; exact HOW.out) (fun k hk => set_oth HWW.out 2 (.slice va (ws.length + 1) vc) (type_box HOW.out HWW.out (by decide) hk))))
 have HFU := hid (show Fmm B X (w'.setCell ⟨mb, 2, none⟩ (.slice va (ws.length + 1) vc)) from ⟨⟨HG.out.os.trans HB9.out.os, HG.out.tape.trans HB9.out.tape, HG.out.output.trans HB9.out.output, by simpa using Nat.le_trans HB9.out.size HG.out.size, fun k hk => HBT.out k (Nat.lt_of_lt_of_le hk HP.out.size) (by have := HP.out.mbB; omega) (fun e => by have := (row_at HP.out.wants e).1; omega)⟩, fun k cs fr hk => HBT.out k (lt_blk hk) (fun e => by rw [e, HP.out.box] at hk; injection hk with hk; injection hk with _ h5; exact absurd h5 (by decide)) (fun e => by obtain ⟨_, _, cur, h3⟩ := row_at HP.out.wants e; rw [h3] at hk; injection hk with hk; injection hk with _ h5; exact absurd h5 (by decide))⟩)
 generalize w'.setCell ⟨mb, 2, none⟩ (.slice va (ws.length + 1) vc) = U at *
 go_wp2_with fail
 exact ⟨rfl, .tuple #[], by first | rfl | kernel_rfl, rfl, ⟨_, HPU.out⟩, HF0.out.trans HFU.out⟩
end Go.Proofs.YtcldglilhhhdoaaGreatDoor.L
