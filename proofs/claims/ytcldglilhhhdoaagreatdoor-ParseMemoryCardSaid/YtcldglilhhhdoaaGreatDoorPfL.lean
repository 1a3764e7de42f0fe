import Derived.Test.YtcldglilhhhdoaaGreatDoorMgAU
namespace Go.Proofs.YtcldglilhhhdoaaGreatDoor.L
open Go.RowKit
set_option linter.unusedVariables false
set_option linter.unusedSimpArgs false
theorem bx6 {V : World} {b : Nat} {a0 a1 a2 a4 a5 : Int} {a3 : ByteArray} (h : V.heap[b]? = some (.cells #[.int .i64 a0, .int .i64 a1, .int .i64 a2, .string a3, .int .i64 a4, .int .i64 a5] 74 (0, 0))) : V.cell? ⟨b, 0, none⟩ = some (.int .i64 a0) ∧ V.cell? ⟨b, 1, none⟩ = some (.int .i64 a1) ∧ V.cell? ⟨b, 2, none⟩ = some (.int .i64 a2) ∧ V.cell? ⟨b, 3, none⟩ = some (.string a3) ∧ V.cell? ⟨b, 4, none⟩ = some (.int .i64 a4) ∧ V.cell? ⟨b, 5, none⟩ = some (.int .i64 a5) :=
 ⟨cell_of_row _ _ 0 _ _ _ h, cell_of_row _ _ 1 _ _ _ h, cell_of_row _ _ 2 _ _ _ h, cell_of_row _ _ 3 _ _ _ h, cell_of_row _ _ 4 _ _ _ h, cell_of_row _ _ 5 _ _ _ h⟩
/-- A box of one want is written: the machine stays. -/
theorem MM.wbx {mb B : Nat} {tv : Value} {T : List Tok} {W : World} {s : PS} {ws : List Wn} {fr : List Int} {fl : Array Value} {wv v o f : Value} {ks : Nat → Value} {b i : Nat} {cs : Array Value} (h : MM mb B tv T W s ws fr fl wv v o f ks) (hb : W.heap[b]? = some (.cells cs 74 (0, 0))) (hw : wv.ownBlock ≠ some b) (x : Value) (hm : b ≠ mb) : MM mb B tv T (W.setCell ⟨b, i, none⟩ x) s ws fr fl wv v o f ks := by
 have hk : ∀ k, k ≠ b → (W.setCell ⟨b, i, none⟩ x).heap[k]? = W.heap[k]? := fun k hk => set_oth hb i x hk
 have key : ∀ {e : TypeId} {base size n : Nat} {u : Value} {xs : List Value}, e ≠ 74 → W.ownsRow base e size u n xs → (W.setCell ⟨b, i, none⟩ x).ownsRow base e size u n xs := fun he hr => row_kept hr (fun k hkk => hk k (type_box hr hb he hkk))
 exact ⟨(hk mb (fun e => hm e.symm)).trans h.box, h.fl19, key (by decide) h.tok, row_kept h.wants (fun k hkk => hk k (fun e => hw (e ▸ hkk))), ⟨key (by decide) h.parts.row, fun j hj => key (by decide) (h.parts.kids j hj)⟩, key (by decide) h.offs, key (by decide) h.free, h.mbB, h.nx, h.ns, h.tl, h.fin, h.ko, h.kf, h.of⟩
theorem fmm_wbx {B b i : Nat} {W : World} {cs : Array Value} (hb : W.heap[b]? = some (.cells cs 74 (0, 0))) (hB : B ≤ b) (x : Value) : Fmm B W (W.setCell ⟨b, i, none⟩ x) :=
 ⟨⟨rfl, rfl, rfl, by rw [World.size_setCell]; exact Nat.le_refl _, fun k hk => set_oth hb i x (by omega)⟩, fun k cs fr hk => set_oth hb i x (fun e => by rw [e, hb] at hk; injection hk with hk; injection hk with _ h5; exact absurd h5 (by decide))⟩
set_option maxHeartbeats 16000000 in
set_option maxRecDepth 100000 in
theorem mlist_any {mb B : Nat} {tv : Value} {T : List Tok} {W : World} {s : PS} {ws : List Wn} {fr : List Int} {fl : Array Value} {wv v o f : Value} {ks : Nat → Value} (h : MM mb B tv T W s ws fr fl wv v o f ks) (w : Wn) (m : ByteArray) (nxt : Int) (hb1 : w.base ≤ fr.length) (hf1 : fr.length ≤ 100000) (hp1 : s.ps.length ≤ 100000) (ho1 : s.os.length ≤ 100000) (hl : ws.length ≤ 1000) : Calls Tryz.prog 39 #[.pointer (some ⟨mb, 0, none⟩), .agg #[.int .i64 w.w, .int .i64 w.kd, .int .i64 w.pos, .string w.text, .int .i64 w.num, .int .i64 (w.base : Int)], .string m, .int .i64 nxt] W fun e W' => e = .returned (.tuple #[]) ∧ Pst mb B tv T ws fl (listM T w m.toList nxt s fr) W' ∧ Fmm B W W' := by
 obtain ⟨a0, a1, a2, a3, a4, a5⟩ := w
 dsimp only at hb1 ⊢
 obtain ⟨g, cap, rfl, hgl, hc⟩ := h.tokc
 have hnx := h.nx
 have htl := h.tl
 have HP := hid h
 have HC := hid (fun r (hr : r < 5) => hc s.nx r hnx hr)
 have HGL := hid hgl
 have HC0 := hid (h.cell 0 (by decide))
 have HC1 := hid (h.cell 1 (by decide))
 have HML := hid (lt_blk h.box)
 clear hc h hgl
 obtain ⟨t, ht⟩ : ∃ t, t = tk T s.nx := ⟨_, rfl⟩
 have HT := hid ht
 rw [← ht] at HC
 obtain ⟨L, hL⟩ : ∃ L, L = T.length := ⟨_, rfl⟩
 have HLT := hid hL
 rw [← hL] at HC0 hnx htl
 obtain ⟨n, hn⟩ : ∃ n, n = s.nx := ⟨_, rfl⟩
 have HN := hid hn
 rw [← hn] at HC HC1 hnx
 clear hL hn
 have g1 : (n : Int) < (L : Int) := by omega
 have g0 : (0 : Int) ≤ (n : Int) := by omega
 have MS := hid (show ∀ Y, Below W.heap.size W Y → (fun Y => (Y.cell? ⟨mb, 0, none⟩ = some (.slice (some ⟨g, 0, none⟩) L cap) ∧ Y.cell? ⟨mb, 1, none⟩ = some (.int .i64 (n : Int))) ∧ Y.cell? ⟨g, n * 5, none⟩ = some (.int .i64 (t.kind : Int)) ∧ Y.cell? ⟨g, n * 5 + 1, none⟩ = some (.string t.text) ∧ Y.cell? ⟨g, n * 5 + 2, none⟩ = some (.int .i64 t.num) ∧ Y.cell? ⟨g, n * 5 + 3, none⟩ = some (.int .i64 (t.a : Int)) ∧ Y.cell? ⟨g, n * 5 + 4, none⟩ = some (.int .i64 (t.e : Int))) Y from fun Y hb => ⟨⟨(hb.cell (p := ⟨mb, 0, none⟩) HML.out).trans HC0.out, (hb.cell (p := ⟨mb, 1, none⟩) HML.out).trans HC1.out⟩, (hb.cell (p := ⟨g, n * 5, none⟩) HGL.out).trans (HC.out 0 (by decide)), (hb.cell (p := ⟨g, n * 5 + 1, none⟩) HGL.out).trans (HC.out 1 (by decide)), (hb.cell (p := ⟨g, n * 5 + 2, none⟩) HGL.out).trans (HC.out 2 (by decide)), (hb.cell (p := ⟨g, n * 5 + 3, none⟩) HGL.out).trans (HC.out 3 (by decide)), (hb.cell (p := ⟨g, n * 5 + 4, none⟩) HGL.out).trans (HC.out 4 (by decide))⟩)
 clear ht
 have hnl : (n : Int) + 1 ≤ 4098 := by omega
 have HWB := hid (show wv.ownBlock ≠ some W.heap.size from fun e => (by have := (row_at HP.out.wants e).2.1; omega))
 have HBB := hid HP.out.size
 unfold listM
 dsimp only
 by_cases hm : isM T s m.toList = true
 ·have HMK := hid (show (decide ((tk T s.nx).kind = 4) && decide ((tk T s.nx).text.toList = m.toList)) = true from hm)
  have HKD := hid (ism_k hm)
  rw [if_pos hm]
  clear hm
  by_cases hp : a2 < 0
  ·rw [if_pos hp, ← HT.out]
   have d1 : decide (a2 < 0) = true := by simp [hp]
   clear hp MS
   go_enter Tryz.func39, Tryz.ntmps39
   go_upto_region 1 with fail
   have HB0 := hid (belowA W (.cells #[.int .i64 a0, .int .i64 a1, .int .i64 a2, .string a3, .int .i64 a4, .int .i64 (a5 : Int)] 74))
   have HX0 := hid (heap_alloc_new W (.cells #[.int .i64 a0, .int .i64 a1, .int .i64 a2, .string a3, .int .i64 a4, .int .i64 (a5 : Int)] 74))
   generalize W.alloc (.cells #[.int .i64 a0, .int .i64 a1, .int .i64 a2, .string a3, .int .i64 a4, .int .i64 (a5 : Int)] 74) = X at *
   have HPX := hid (HP.out.low HB0.out)
   have HFX := hid (Fmm.of HB0.out HP.out.size)
   have HSZ := hid HP.out.size
   have HSX := hid HB0.out.size
   generalize W.heap.size = bp at *
   go_wp2_with fail
   refine (mmark_any HPX.out m).mono ?_
   rintro e W1 ⟨rfl, l⟩
   have HB1 := hid l
   have HP1 := hid (HPX.out.low l)
   have HF1 := hid (HFX.out.trans (Fmm.of l HPX.out.size))
   have HX1 := hid ((l.block _ (lt_blk HX0.out)).trans HX0.out)
   rw [HMK.out]
   clear l
   have ⟨y0, y1, y2, y3, y4, y5⟩ := bx6 HX1.out
   have HNE := hid (show bp ≠ mb from fun e => (by have h1 := HX1.out; rw [e, HP1.out.box] at h1; injection h1 with h1; injection h1 with _ h5; exact absurd h5 (by decide)))
   have HC0E := hid (show ([(.slice (some ⟨g, 0, none⟩) T.length cap : Value)] : List Value)[0]? = some (.slice (some ⟨g, 0, none⟩) L cap) by rw [HLT.out]; rfl)
   have HGN := hid (show g ≠ bp by have := HGL.out; omega)
   have HGX := hid (Nat.lt_of_lt_of_le HGL.out HSX.out)
   have HGL1 := hid (Nat.lt_of_lt_of_le HGX.out HB1.out.size)
   have HC3 := hid ((HB1.out.cell (p := ⟨g, n * 5 + 3, none⟩) HGX.out).trans ((HB0.out.cell (p := ⟨g, n * 5 + 3, none⟩) HGL.out).trans (HC.out 3 (by decide))))
   go_upto_region 4 with (fail)
   have MS := hid (show ∀ Y : World, (∀ k, k < W1.heap.size → k ≠ bp → Y.heap[k]? = W1.heap[k]?) → (fun Y => Y.cell? ⟨mb, 0, none⟩ = some (.slice (some ⟨g, 0, none⟩) L cap) ∧ Y.cell? ⟨mb, 1, none⟩ = some (.int .i64 (n : Int)) ∧ Y.cell? ⟨g, n * 5 + 3, none⟩ = some (.int .i64 (t.a : Int))) Y from fun Y hb => ⟨(World.cell?_of_block (a := ⟨mb, 0, none⟩) (hb mb (lt_blk HP1.out.box) (fun e => HNE.out e.symm))).trans ((HP1.out.cell 0 (by decide)).trans HC0E.out), (World.cell?_of_block (a := ⟨mb, 1, none⟩) (hb mb (lt_blk HP1.out.box) (fun e => HNE.out e.symm))).trans (by rw [HN.out]; exact HP1.out.cell 1 (by decide)), (World.cell?_of_block (a := ⟨g, n * 5 + 3, none⟩) (hb g HGL1.out HGN.out)).trans HC3.out⟩)
   refine wp_region_held_drew (S := (fun Y => Y.cell? ⟨mb, 0, none⟩ = some (.slice (some ⟨g, 0, none⟩) L cap) ∧ Y.cell? ⟨mb, 1, none⟩ = some (.int .i64 (n : Int)) ∧ Y.cell? ⟨g, n * 5 + 3, none⟩ = some (.int .i64 (t.a : Int)))) (by kernel_rfl) ?_ (fun hHeld => ?_)
   ·exact MS.out _ (fun _ _ _ => rfl)
   have HPZ := hid (HP1.out.low (show Below W1.heap.size W1 W1.drew from (Below.refl _ _).drew))
   have HFZ := hid (HF1.out.trans (Fmm.of (show Below W1.heap.size W1 W1.drew from (Below.refl _ _).drew) HP1.out.size))
   have HXZ := hid (show W1.drew.heap[bp]? = some (.cells #[.int .i64 a0, .int .i64 a1, .int .i64 a2, .string a3, .int .i64 a4, .int .i64 (a5 : Int)] 74 (0, 0)) from HX1.out)
   have HZZ := hid (show ∀ k, k < W1.heap.size → k ≠ bp → W1.drew.heap[k]? = W1.heap[k]? from fun _ _ _ => rfl)
   generalize W1.drew = Z at *
   clear y0 y1 y2 y3 y4 y5
   refine wpAnyH_take (i := 0) (v := ?_) rfl (by kernel_rfl) (by kernel_rfl) (by kernel_rfl) (fun _ _ _ h => h) (Or.inl ⟨by rfl, ?_⟩) (by assumption) ?_
   rotate_left
   ·(intro w hSw; (try dsimp only at hSw); go_simp; try with_reducible rfl)
   try simp only [Act.put, List.setIfInBounds_toArray, List.set_cons_zero, List.set_cons_succ]
   refine wpAnyH_take (i := 1) (v := ?_) rfl (by kernel_rfl) (by kernel_rfl) (by kernel_rfl) (fun _ _ _ h => h) (Or.inl ⟨by rfl, ?_⟩) (by assumption) ?_
   rotate_left
   ·(intro w hSw; (try dsimp only at hSw); go_simp; try with_reducible rfl)
   try simp only [Act.put, List.setIfInBounds_toArray, List.set_cons_zero, List.set_cons_succ]
   refine wpAnyH_take (i := 2) (v := ?_) rfl (by kernel_rfl) (by kernel_rfl) (by kernel_rfl) (fun _ _ _ h => h) (Or.inl ⟨by rfl, ?_⟩) (by assumption) ?_
   rotate_left
   ·(intro w hSw; (try dsimp only at hSw); go_simp; try with_reducible rfl)
   try simp only [Act.put, List.setIfInBounds_toArray, List.set_cons_zero, List.set_cons_succ]
   refine wpAnyH_take (i := 3) (v := ?_) rfl (by kernel_rfl) (by kernel_rfl) (by kernel_rfl) (fun _ _ _ h => h) (Or.inl ⟨by rfl, ?_⟩) (by assumption) ?_
   rotate_left
   ·(intro w hSw; (try dsimp only at hSw); go_simp; try with_reducible rfl)
   try simp only [Act.put, List.setIfInBounds_toArray, List.set_cons_zero, List.set_cons_succ]
   refine wpAnyH_take (i := 4) (v := ?_) rfl (by kernel_rfl) (by kernel_rfl) (by kernel_rfl) (fun _ _ _ h => h) (Or.inl ⟨by rfl, ?_⟩) (by assumption) ?_
   rotate_left
   ·(intro w hSw; (try dsimp only at hSw); go_simp; try with_reducible rfl)
   try simp only [Act.put, List.setIfInBounds_toArray, List.set_cons_zero, List.set_cons_succ]
   refine wpAnyH_take (i := 5) (v := ?_) rfl (by kernel_rfl) (by kernel_rfl) (by kernel_rfl) (fun _ _ _ h => h) (Or.inl ⟨by rfl, ?_⟩) (by assumption) ?_
   rotate_left
   ·(intro w hSw; (try dsimp only at hSw); go_simp; try with_reducible rfl)
   try simp only [Act.put, List.setIfInBounds_toArray, List.set_cons_zero, List.set_cons_succ]
   refine wpAnyH_take (i := 6) (v := ?_) rfl (by kernel_rfl) (by kernel_rfl) (by kernel_rfl) (fun _ _ _ h => h) (Or.inl ⟨by rfl, ?_⟩) (by assumption) ?_
   rotate_left
   ·(intro w hSw; (try dsimp only at hSw); go_simp; try with_reducible rfl)
   try simp only [Act.put, List.setIfInBounds_toArray, List.set_cons_zero, List.set_cons_succ]
   refine wpAnyH_take (i := 7) (v := ?_) rfl (by kernel_rfl) (by kernel_rfl) (by kernel_rfl) (fun _ _ _ h => h) (Or.inl ⟨by rfl, ?_⟩) (by assumption) ?_
   rotate_left
   ·(intro w hSw; (try dsimp only at hSw); go_simp; try with_reducible rfl)
   try simp only [Act.put, List.setIfInBounds_toArray, List.set_cons_zero, List.set_cons_succ]
   refine wpAnyH_take (i := 8) (v := ?_) rfl (by kernel_rfl) (by kernel_rfl) (by kernel_rfl) (fun _ _ _ h => h) (Or.inl ⟨by rfl, ?_⟩) (by assumption) ?_
   rotate_left
   ·(intro w hSw; (try dsimp only at hSw); go_simp; try with_reducible rfl)
   try simp only [Act.put, List.setIfInBounds_toArray, List.set_cons_zero, List.set_cons_succ]
   refine wpAnyH_take (i := 9) (v := ?_) rfl (by kernel_rfl) (by kernel_rfl) (by kernel_rfl) (fun _ _ _ h => h) (Or.inl ⟨by rfl, ?_⟩) (by assumption) ?_
   rotate_left
   ·(intro w hSw; (try dsimp only at hSw); go_simp; try with_reducible rfl)
   try simp only [Act.put, List.setIfInBounds_toArray, List.set_cons_zero, List.set_cons_succ]
   refine wpAnyH_take (i := 10) (v := ?_) rfl (by kernel_rfl) (by kernel_rfl) (by kernel_rfl) (fun _ _ _ h => h) (Or.inl ⟨by rfl, ?_⟩) (by assumption) ?_
   rotate_left
   ·(intro w hSw; (try dsimp only at hSw); go_simp; try with_reducible rfl)
   try simp only [Act.put, List.setIfInBounds_toArray, List.set_cons_zero, List.set_cons_succ]
   refine wpAnyH_take (i := 11) (v := ?_) rfl (by kernel_rfl) (by kernel_rfl) (by kernel_rfl) (fun _ _ _ h => h) (Or.inl ⟨by rfl, ?_⟩) (by assumption) ?_
   rotate_left
   ·(intro w hSw; (try dsimp only at hSw); go_simp; try with_reducible rfl)
   try simp only [Act.put, List.setIfInBounds_toArray, List.set_cons_zero, List.set_cons_succ]
   refine wpAnyH_ready (rs := [12]) (by kernel_rfl) (by simp) ?_
   refine AllReadyH.cons rfl (fun K hK => ?_) AllReadyH.nil
   have wc : Z.cell? ⟨bp, 2, none⟩ = some (.int .i64 a2) := cell_of_row _ _ 2 _ _ _ HXZ.out
   have wf : Z.frozen? ⟨bp, 2, none⟩ = false := frz_row HXZ.out 2
   go_simp
   refine hK.out _ _ ?_ (fun hHeld => ?_)
   ·exact MS.out _ (fun k h1 h2 => (set_oth HXZ.out 2 (.int .i64 (t.a : Int)) h2).trans (HZZ.out k h1 h2))
   clear hK K hHeld wc wf
   try simp only [Act.put, List.setIfInBounds_toArray, List.set_cons_zero, List.set_cons_succ]
   refine wpAnyH_done (by kernel_rfl) ?_ _
   clear hHeld MS
   have HXV := hid (show (Z.setCell ⟨bp, 2, none⟩ (.int .i64 (t.a : Int))).heap[bp]? = some (.cells #[.int .i64 a0, .int .i64 a1, .int .i64 (t.a : Int), .string a3, .int .i64 a4, .int .i64 (a5 : Int)] 74 (0, 0)) by rw [heap_setCell_same _ _ _ _ _ _ HXZ.out]; rfl)
   have HPV := hid (HPZ.out.wbx (i := 2) HXZ.out HWB.out (.int .i64 (t.a : Int)) HNE.out)
   have HFV := hid (HFZ.out.trans (fmm_wbx (B := B) (i := 2) HXZ.out HBB.out (.int .i64 (t.a : Int))))
   generalize Z.setCell ⟨bp, 2, none⟩ (.int .i64 (t.a : Int)) = V at *
   have ⟨y0, y1, y2, y3, y4, y5⟩ := bx6 HXV.out
   have c1 : V.cell? ⟨mb, 1, none⟩ = some (.int .i64 (n : Int)) := by rw [HN.out]; exact HPV.out.cell 1 (by decide)
   have f1 := frz_row HPV.out.box 1
   go_upto_region 6 with (fail)
   have HQ := hid (HPV.out.adv HKD.out)
   rw [← HN.out] at HQ
   have HFQ := hid (HFV.out.trans HQ.out.2)
   have HXQ := hid ((set_oth HPV.out.box 1 (.int .i64 ((n : Int) + 1)) HNE.out).trans HXV.out)
   generalize V.setCell ⟨mb, 1, none⟩ (.int .i64 ((n : Int) + 1)) = V2 at *
   clear c1 f1 y0 y1 y2 y3 y4 y5
   have ⟨y0, y1, y2, y3, y4, y5⟩ := bx6 HXQ.out
   have HQ1 := hid HQ.out.1
   go_wp2_with fail
   refine (mpush_any HQ1.out ⟨a0, a1, (t.a : Int), a3, a4, a5⟩ (by (try simp only [List.length_cons]); omega)).mono ?_
   rintro e Y3 ⟨rfl, ⟨wv3, h8⟩, h9⟩
   have HM3 := hid h8
   have HG3 := hid (HFQ.out.trans h9)
   clear h8 h9
   clear y0 y1 y2 y3 y4 y5
   go_wp2_with fail
   refine (mpush_any HM3.out ⟨nxt, 0, 0, ⟨#[]⟩, 0, 0⟩ (by (try simp only [List.length_cons]); omega)).mono ?_
   rintro e Y4 ⟨rfl, ⟨wv4, h8⟩, h9⟩
   have HM4 := hid h8
   have HG4 := hid (HG3.out.trans h9)
   clear h8 h9
   go_wp2_with fail
   exact ⟨rfl, .tuple #[], by first | rfl | kernel_rfl, rfl, ⟨_, _, _, _, _, HM4.out⟩, HG4.out⟩
  ·rw [if_neg hp]
   have d1 : decide (a2 < 0) = false := by simp; omega
   clear hp MS
   go_enter Tryz.func39, Tryz.ntmps39
   go_upto_region 1 with fail
   have HB0 := hid (belowA W (.cells #[.int .i64 a0, .int .i64 a1, .int .i64 a2, .string a3, .int .i64 a4, .int .i64 (a5 : Int)] 74))
   have HX0 := hid (heap_alloc_new W (.cells #[.int .i64 a0, .int .i64 a1, .int .i64 a2, .string a3, .int .i64 a4, .int .i64 (a5 : Int)] 74))
   generalize W.alloc (.cells #[.int .i64 a0, .int .i64 a1, .int .i64 a2, .string a3, .int .i64 a4, .int .i64 (a5 : Int)] 74) = X at *
   have HPX := hid (HP.out.low HB0.out)
   have HFX := hid (Fmm.of HB0.out HP.out.size)
   have HSZ := hid HP.out.size
   have HSX := hid HB0.out.size
   generalize W.heap.size = bp at *
   go_wp2_with fail
   refine (mmark_any HPX.out m).mono ?_
   rintro e W1 ⟨rfl, l⟩
   have HB1 := hid l
   have HP1 := hid (HPX.out.low l)
   have HF1 := hid (HFX.out.trans (Fmm.of l HPX.out.size))
   have HX1 := hid ((l.block _ (lt_blk HX0.out)).trans HX0.out)
   rw [HMK.out]
   clear l
   have ⟨y0, y1, y2, y3, y4, y5⟩ := bx6 HX1.out
   have HNE := hid (show bp ≠ mb from fun e => (by have h1 := HX1.out; rw [e, HP1.out.box] at h1; injection h1 with h1; injection h1 with _ h5; exact absurd h5 (by decide)))
   have HXV := HX1
   have HPV := HP1
   have HFV := HF1
   generalize W1 = V at *
   have c1 : V.cell? ⟨mb, 1, none⟩ = some (.int .i64 (n : Int)) := by rw [HN.out]; exact HPV.out.cell 1 (by decide)
   have f1 := frz_row HPV.out.box 1
   go_upto_region 6 with (fail)
   have HQ := hid (HPV.out.adv HKD.out)
   rw [← HN.out] at HQ
   have HFQ := hid (HFV.out.trans HQ.out.2)
   have HXQ := hid ((set_oth HPV.out.box 1 (.int .i64 ((n : Int) + 1)) HNE.out).trans HXV.out)
   generalize V.setCell ⟨mb, 1, none⟩ (.int .i64 ((n : Int) + 1)) = V2 at *
   clear c1 f1 y0 y1 y2 y3 y4 y5
   have ⟨y0, y1, y2, y3, y4, y5⟩ := bx6 HXQ.out
   have HQ1 := hid HQ.out.1
   go_wp2_with fail
   refine (mpush_any HQ1.out ⟨a0, a1, a2, a3, a4, a5⟩ (by (try simp only [List.length_cons]); omega)).mono ?_
   rintro e Y3 ⟨rfl, ⟨wv3, h8⟩, h9⟩
   have HM3 := hid h8
   have HG3 := hid (HFQ.out.trans h9)
   clear h8 h9
   clear y0 y1 y2 y3 y4 y5
   go_wp2_with fail
   refine (mpush_any HM3.out ⟨nxt, 0, 0, ⟨#[]⟩, 0, 0⟩ (by (try simp only [List.length_cons]); omega)).mono ?_
   rintro e Y4 ⟨rfl, ⟨wv4, h8⟩, h9⟩
   have HM4 := hid h8
   have HG4 := hid (HG3.out.trans h9)
   clear h8 h9
   go_wp2_with fail
   exact ⟨rfl, .tuple #[], by first | rfl | kernel_rfl, rfl, ⟨_, _, _, _, _, HM4.out⟩, HG4.out⟩
 ·have HMK := hid (show (decide ((tk T s.nx).kind = 4) && decide ((tk T s.nx).text.toList = m.toList)) = false from Bool.eq_false_iff.2 hm)
  rw [if_neg hm]
  clear hm
  by_cases hp : 0 ≤ a2
  ·rw [if_pos hp]
   have d1 : decide (0 ≤ a2) = true := by simp [hp]
   clear MS
   go_enter Tryz.func39, Tryz.ntmps39
   go_upto_region 1 with fail
   have HB0 := hid (belowA W (.cells #[.int .i64 a0, .int .i64 a1, .int .i64 a2, .string a3, .int .i64 a4, .int .i64 (a5 : Int)] 74))
   have HX0 := hid (heap_alloc_new W (.cells #[.int .i64 a0, .int .i64 a1, .int .i64 a2, .string a3, .int .i64 a4, .int .i64 (a5 : Int)] 74))
   generalize W.alloc (.cells #[.int .i64 a0, .int .i64 a1, .int .i64 a2, .string a3, .int .i64 a4, .int .i64 (a5 : Int)] 74) = X at *
   have HPX := hid (HP.out.low HB0.out)
   have HFX := hid (Fmm.of HB0.out HP.out.size)
   have HSZ := hid HP.out.size
   have HSX := hid HB0.out.size
   generalize W.heap.size = bp at *
   go_wp2_with fail
   refine (mmark_any HPX.out m).mono ?_
   rintro e W1 ⟨rfl, l⟩
   have HB1 := hid l
   have HP1 := hid (HPX.out.low l)
   have HF1 := hid (HFX.out.trans (Fmm.of l HPX.out.size))
   have HX1 := hid ((l.block _ (lt_blk HX0.out)).trans HX0.out)
   rw [HMK.out]
   clear l
   have ⟨y0, y1, y2, y3, y4, y5⟩ := bx6 HX1.out
   go_wp2_with fail
   refine (mlay_any HP1.out a1 0 a2 ⟨#[]⟩ a5 hb1 hf1 hp1 ho1).mono ?_
   rintro e Y6 ⟨rfl, ⟨v6, o6, f6, k6, h8⟩, h9⟩
   have HE := hid h8
   have HG6 := hid (HF1.out.trans h9)
   clear h8 h9
   go_wp2_with fail
   exact ⟨rfl, .tuple #[], by first | rfl | kernel_rfl, rfl, ⟨_, _, _, _, _, HE.out⟩, HG6.out⟩
  ·rw [if_neg hp]
   have d1 : decide (0 ≤ a2) = false := by simp; omega
   clear MS
   go_enter Tryz.func39, Tryz.ntmps39
   go_upto_region 1 with fail
   have HB0 := hid (belowA W (.cells #[.int .i64 a0, .int .i64 a1, .int .i64 a2, .string a3, .int .i64 a4, .int .i64 (a5 : Int)] 74))
   have HX0 := hid (heap_alloc_new W (.cells #[.int .i64 a0, .int .i64 a1, .int .i64 a2, .string a3, .int .i64 a4, .int .i64 (a5 : Int)] 74))
   generalize W.alloc (.cells #[.int .i64 a0, .int .i64 a1, .int .i64 a2, .string a3, .int .i64 a4, .int .i64 (a5 : Int)] 74) = X at *
   have HPX := hid (HP.out.low HB0.out)
   have HFX := hid (Fmm.of HB0.out HP.out.size)
   have HSZ := hid HP.out.size
   have HSX := hid HB0.out.size
   generalize W.heap.size = bp at *
   go_wp2_with fail
   refine (mmark_any HPX.out m).mono ?_
   rintro e W1 ⟨rfl, l⟩
   have HB1 := hid l
   have HP1 := hid (HPX.out.low l)
   have HF1 := hid (HFX.out.trans (Fmm.of l HPX.out.size))
   have HX1 := hid ((l.block _ (lt_blk HX0.out)).trans HX0.out)
   rw [HMK.out]
   clear l
   have ⟨y0, y1, y2, y3, y4, y5⟩ := bx6 HX1.out
   go_wp2_with fail
   exact ⟨rfl, .tuple #[], by first | rfl | kernel_rfl, rfl, ⟨_, _, _, _, _, HP1.out⟩, HF1.out⟩
end Go.Proofs.YtcldglilhhhdoaaGreatDoor.L
