import Derived.Test.YtcldglilhhhdoaaGreatDoorPfC
namespace Go.Proofs.YtcldglilhhhdoaaGreatDoor.L
open Go.RowKit
set_option linter.unusedVariables false
set_option linter.unusedSimpArgs false
/-- Only the machine's own blocks have changed. -/
structure Fmm (B : Nat) (W W' : World) : Prop where
 low : Below B W W'
 tk : ∀ (k : Nat) (cs : Array Value) (fr : Nat × Nat), W.heap[k]? = some (.cells cs 53 fr) → W'.heap[k]? = W.heap[k]?
theorem Fmm.refl (B : Nat) (W : World) : Fmm B W W := ⟨Below.refl _ _, fun _ _ _ _ => rfl⟩
theorem Fmm.trans {B : Nat} {W W1 W2 : World} (h : Fmm B W W1) (k : Fmm B W1 W2) : Fmm B W W2 := ⟨h.low.trans k.low, fun j cs fr hj => (k.tk j cs fr ((h.tk j cs fr hj).trans hj)).trans (h.tk j cs fr hj)⟩
theorem Fmm.of {B : Nat} {W W' : World} (hb : Below W.heap.size W W') (h : B ≤ W.heap.size) : Fmm B W W' := ⟨hb.mono h, fun j cs fr hj => hb.block j (lt_blk hj)⟩
theorem MM.size {mb B : Nat} {tv : Value} {T : List Tok} {W : World} {s : PS} {ws : List Wn} {fr : List Int} {fl : Array Value} {wv v o f : Value} {ks : Nat → Value} (h : MM mb B tv T W s ws fr fl wv v o f ks) : B ≤ W.heap.size := Nat.le_trans h.mbB (Nat.le_of_lt (lt_blk h.box))
theorem MM.chg {mb B : Nat} {tv : Value} {T : List Tok} {W : World} {s : PS} {ws : List Wn} {fr : List Int} {fl : Array Value} {wv v o f : Value} {ks : Nat → Value} {W' : World} {s' : PS} {fl' : Array Value} (h : MM mb B tv T W s ws fr fl wv v o f ks) (hb : W'.heap[mb]? = some (.cells (mc tv s'.nx wv v o f s'.ns fl') 71 (0, 0))) (hk : ∀ k, k < W.heap.size → k ≠ mb → W'.heap[k]? = W.heap[k]?) (hp : s'.ps = s.ps) (ho : s'.os = s.os) (hn : s'.nx < T.length) (hs : s'.ns ≤ 32) (h19 : fl'.size = 19) : MM mb B tv T W' s' ws fr fl' wv v o f ks := by
 have key : ∀ {e : TypeId} {base size n : Nat} {u : Value} {xs : List Value}, e ≠ 71 → W.ownsRow base e size u n xs → W'.ownsRow base e size u n xs := by
  intro e base size n u xs he hr
  refine row_kept hr (fun k hkk => ?_)
  obtain ⟨_, h2, cur, h3⟩ := row_at hr hkk
  refine hk k h2 (fun e2 => ?_)
  rw [e2, h.box] at h3
  injection h3 with h3
  injection h3 with _ h4
  exact he h4.symm
 refine ⟨hb, h19, key (by decide) h.tok, key (by decide) h.wants, ?_, ?_, key (by decide) h.free, h.mbB, hn, hs, h.tl, h.fin, by rw [hp]; exact h.ko, by rw [hp]; exact h.kf, h.of⟩
 ·rw [hp]
  exact ⟨key (by decide) h.parts.row, fun j hj => key (by decide) (h.parts.kids j hj)⟩
 ·rw [ho]
  exact key (by decide) h.offs
theorem Fmm.chg {mb B : Nat} {tv : Value} {T : List Tok} {W : World} {s : PS} {ws : List Wn} {fr : List Int} {fl : Array Value} {wv v o f : Value} {ks : Nat → Value} {W' : World} (h : MM mb B tv T W s ws fr fl wv v o f ks) (h1 : W'.os = W.os) (h2 : W'.tape = W.tape) (h3 : W'.output = W.output) (h4 : W.heap.size ≤ W'.heap.size) (hk : ∀ k, k < W.heap.size → k ≠ mb → W'.heap[k]? = W.heap[k]?) : Fmm B W W' :=
 ⟨⟨h1, h2, h3, h4, fun k hkb => hk k (Nat.lt_of_lt_of_le hkb h.size) (by have := h.mbB; omega)⟩, fun k cs fr hk1 => hk k (lt_blk hk1) (fun e => by rw [e, h.box] at hk1; injection hk1 with hk1; injection hk1 with _ h5; exact absurd h5 (by decide))⟩
theorem setCells_heap {b : Nat} {t : TypeId} : ∀ (vs old pre : List Value) (w : World), vs.length = old.length → w.heap[b]? = some (.cells (pre ++ old).toArray t (0, 0)) → (w.setCells b pre.length vs).heap[b]? = some (.cells (pre ++ vs).toArray t (0, 0))
 | [], old, pre, w, hl, h => by
  have : old = [] := List.eq_nil_of_length_eq_zero hl.symm
  subst this
  exact h
 | v :: r, old, pre, w, hl, h => by
  cases old with
  | nil => simp at hl
  | cons x old =>
   have h2 := heap_setCell_same w b pre.length _ t v h
   rw [show (pre ++ x :: old).toArray.setIfInBounds pre.length v = ((pre ++ [v]) ++ old).toArray by simp] at h2
   have h3 := setCells_heap r old (pre ++ [v]) _ (by simpa using hl) h2
   rw [List.length_append, List.append_assoc] at h3
   exact h3
theorem setCells_oth {b : Nat} : ∀ (vs : List Value) (i : Nat) (w : World), (w.setCells b i vs).os = w.os ∧ (w.setCells b i vs).tape = w.tape ∧ (w.setCells b i vs).output = w.output ∧ (w.setCells b i vs).heap.size = w.heap.size ∧ ∀ k, k ≠ b → (w.setCells b i vs).heap[k]? = w.heap[k]?
 | [], i, w => ⟨rfl, rfl, rfl, rfl, fun _ _ => rfl⟩
 | v :: r, i, w => by
  obtain ⟨h1, h2, h3, h4, h5⟩ := setCells_oth (b := b) r (i + 1) (w.setCell ⟨b, i, none⟩ v)
  exact ⟨h1, h2, h3, by rw [World.setCells, h4, World.size_setCell], fun k hk => by rw [World.setCells, h5 k hk]; exact heap_setCell_other _ _ _ _ hk⟩
theorem MM.there {mb B : Nat} {tv : Value} {T : List Tok} {W : World} {s : PS} {ws : List Wn} {fr : List Int} {fl : Array Value} {wv v o f : Value} {ks : Nat → Value} (h : MM mb B tv T W s ws fr fl wv v o f ks) : W.there mb 7 19 := fun j hj => by
 have e := cell_of_row _ _ (7 + j) _ _ _ h.box
 refine ⟨?_, frozen_of_row W mb _ _ _ h.box⟩
 rw [e]
 unfold mc
 rw [Array.getElem?_append_right (by simp), Array.getElem?_eq_getElem (by have := h.fl19; simp; omega)]
 rfl
theorem MM.flt {mb B : Nat} {tv : Value} {T : List Tok} {W : World} {s : PS} {ws : List Wn} {fr : List Int} {fl : Array Value} {wv v o f : Value} {ks : Nat → Value} (h : MM mb B tv T W s ws fr fl wv v o f ks) {FC : Array Value} (h9 : FC.size = 19) : MM mb B tv T (W.setCells mb 7 FC.toList) s ws fr FC wv v o f ks ∧ Fmm B W (W.setCells mb 7 FC.toList) := by
 obtain ⟨h1, h2, h3, h4, h5⟩ := setCells_oth (b := mb) FC.toList 7 W
 refine ⟨h.chg ?_ (fun k _ hk => h5 k hk) rfl rfl h.nx h.ns h9, Fmm.chg h h1 h2 h3 (Nat.le_of_eq h4.symm) (fun k _ hk => h5 k hk)⟩
 have := setCells_heap (b := mb) (t := 71) FC.toList fl.toList [tv, .int .i64 (s.nx : Int), wv, v, o, f, .int .i64 (s.ns : Int)] W (by simp [h9, h.fl19]) (by rw [h.box]; unfold mc; simp)
 rw [show ([tv, .int .i64 (s.nx : Int), wv, v, o, f, .int .i64 (s.ns : Int)] : List Value).length = 7 from rfl] at this
 rw [this]
 unfold mc
 simp
def fcd (T : List Tok) (s : PS) (c : Nat) : Nat := if c = 120 ∧ (tk T s.nx).kind = 0 then 121 else c
set_option maxHeartbeats 4000000 in
set_option maxRecDepth 100000 in
theorem mfail_any {mb B : Nat} {tv : Value} {T : List Tok} {W : World} {s : PS} {ws : List Wn} {fr : List Int} {fl : Array Value} {wv v o f : Value} {ks : Nat → Value} (h : MM mb B tv T W s ws fr fl wv v o f ks) (c : Nat) : Calls Tryz.prog 45 #[.pointer (some ⟨mb, 0, none⟩), .int .i64 (c : Int)] W fun e W' => e = .returned (.tuple #[]) ∧ MM mb B tv T W' s ws fr (f19 ((fcd T s c : Nat) : Int) ((tk T s.nx).a : Int)) wv v o f ks ∧ Fmm B W W' := by
 obtain ⟨g, cap, rfl, hgl, hc⟩ := h.tokc
 have hnx := h.nx
 have htl := h.tl
 have HP := hid h
 have HC := hid (fun r (hr : r < 5) => hc s.nx r hnx hr)
 have HGL := hid hgl
 have HC0 := hid (h.cell 0 (by decide))
 have HC1 := hid (h.cell 1 (by decide))
 have HML := hid (lt_blk h.box)
 clear hc h hgl
 obtain ⟨t, ht⟩ : ∃ t, t = tk T s.nx := ⟨_, rfl⟩
 have HT := hid ht
 rw [← ht] at HC
 obtain ⟨L, hL⟩ : ∃ L, L = T.length := ⟨_, rfl⟩
 have HLT := hid hL
 rw [← hL] at HC0 hnx htl
 obtain ⟨n, hn⟩ : ∃ n, n = s.nx := ⟨_, rfl⟩
 have HN := hid hn
 rw [← hn] at HC HC1 hnx
 clear hL hn
 have g1 : (n : Int) < (L : Int) := by omega
 have g0 : (0 : Int) ≤ (n : Int) := by omega
 have MS := hid (show ∀ Y, Below W.heap.size W Y → (fun Y => (Y.cell? ⟨mb, 0, none⟩ = some (.slice (some ⟨g, 0, none⟩) L cap) ∧ Y.cell? ⟨mb, 1, none⟩ = some (.int .i64 (n : Int))) ∧ Y.cell? ⟨g, n * 5, none⟩ = some (.int .i64 (t.kind : Int)) ∧ Y.cell? ⟨g, n * 5 + 1, none⟩ = some (.string t.text) ∧ Y.cell? ⟨g, n * 5 + 2, none⟩ = some (.int .i64 t.num) ∧ Y.cell? ⟨g, n * 5 + 3, none⟩ = some (.int .i64 (t.a : Int)) ∧ Y.cell? ⟨g, n * 5 + 4, none⟩ = some (.int .i64 (t.e : Int))) Y from fun Y hb => ⟨⟨(hb.cell (p := ⟨mb, 0, none⟩) HML.out).trans HC0.out, (hb.cell (p := ⟨mb, 1, none⟩) HML.out).trans HC1.out⟩, (hb.cell (p := ⟨g, n * 5, none⟩) HGL.out).trans (HC.out 0 (by decide)), (hb.cell (p := ⟨g, n * 5 + 1, none⟩) HGL.out).trans (HC.out 1 (by decide)), (hb.cell (p := ⟨g, n * 5 + 2, none⟩) HGL.out).trans (HC.out 2 (by decide)), (hb.cell (p := ⟨g, n * 5 + 3, none⟩) HGL.out).trans (HC.out 3 (by decide)), (hb.cell (p := ⟨g, n * 5 + 4, none⟩) HGL.out).trans (HC.out 4 (by decide))⟩)
 clear ht
 obtain ⟨FC, hfc⟩ : ∃ FC, FC = f19 ((fcd T s c : Nat) : Int) (t.a : Int) := ⟨_, rfl⟩
 rw [show f19 ((fcd T s c : Nat) : Int) ((tk T s.nx).a : Int) = FC by rw [hfc, HT.out]]
 have HF9 := hid (show FC.size = 19 by rw [hfc]; rfl)
 unfold fcd at hfc
 rw [← HT.out] at hfc
 go_enter Tryz.func45, Tryz.ntmps45
 go_upto_region 0 with fail
 have HD := hid (show Below W.heap.size W W.drew from (Below.refl _ W).drew)
 refine wp_region_held_drew (S := (fun Y => (Y.cell? ⟨mb, 0, none⟩ = some (.slice (some ⟨g, 0, none⟩) L cap) ∧ Y.cell? ⟨mb, 1, none⟩ = some (.int .i64 (n : Int))) ∧ Y.cell? ⟨g, n * 5, none⟩ = some (.int .i64 (t.kind : Int)) ∧ Y.cell? ⟨g, n * 5 + 1, none⟩ = some (.string t.text) ∧ Y.cell? ⟨g, n * 5 + 2, none⟩ = some (.int .i64 t.num) ∧ Y.cell? ⟨g, n * 5 + 3, none⟩ = some (.int .i64 (t.a : Int)) ∧ Y.cell? ⟨g, n * 5 + 4, none⟩ = some (.int .i64 (t.e : Int)))) (by kernel_rfl) ?_ (fun hHeld => ?_)
 ·exact MS.out _ HD.out
 generalize W.drew = Z at *
 refine wpAnyH_take (i := 0) (v := ?_) rfl (by kernel_rfl) (by kernel_rfl) (by kernel_rfl) (fun _ _ _ h => h) (Or.inl ⟨by rfl, ?_⟩) (by assumption) ?_
 rotate_left
 ·(intro w hSw; (try dsimp only at hSw); go_simp; try with_reducible rfl)
 try simp only [Act.put, List.setIfInBounds_toArray, List.set_cons_zero, List.set_cons_succ]
 refine wpAnyH_take (i := 1) (v := ?_) rfl (by kernel_rfl) (by kernel_rfl) (by kernel_rfl) (fun _ _ _ h => h) (Or.inl ⟨by rfl, ?_⟩) (by assumption) ?_
 rotate_left
 ·(intro w hSw; (try dsimp only at hSw); go_simp; try with_reducible rfl)
 try simp only [Act.put, List.setIfInBounds_toArray, List.set_cons_zero, List.set_cons_succ]
 refine wpAnyH_take (i := 2) (v := ?_) rfl (by kernel_rfl) (by kernel_rfl) (by kernel_rfl) (fun _ _ _ h => h) (Or.inl ⟨by rfl, ?_⟩) (by assumption) ?_
 rotate_left
 ·(intro w hSw; (try dsimp only at hSw); go_simp; try with_reducible rfl)
 try simp only [Act.put, List.setIfInBounds_toArray, List.set_cons_zero, List.set_cons_succ]
 refine wpAnyH_take (i := 3) (v := ?_) rfl (by kernel_rfl) (by kernel_rfl) (by kernel_rfl) (fun _ _ _ h => h) (Or.inl ⟨by rfl, ?_⟩) (by assumption) ?_
 rotate_left
 ·(intro w hSw; (try dsimp only at hSw); go_simp; try with_reducible rfl)
 try simp only [Act.put, List.setIfInBounds_toArray, List.set_cons_zero, List.set_cons_succ]
 refine wpAnyH_take (i := 4) (v := ?_) rfl (by kernel_rfl) (by kernel_rfl) (by kernel_rfl) (fun _ _ _ h => h) (Or.inl ⟨by rfl, ?_⟩) (by assumption) ?_
 rotate_left
 ·(intro w hSw; (try dsimp only at hSw); go_simp; try with_reducible rfl)
 try simp only [Act.put, List.setIfInBounds_toArray, List.set_cons_zero, List.set_cons_succ]
 refine wpAnyH_take (i := 5) (v := ?_) rfl (by kernel_rfl) (by kernel_rfl) (by kernel_rfl) (fun _ _ _ h => h) (Or.inl ⟨by rfl, ?_⟩) (by assumption) ?_
 rotate_left
 ·(intro w hSw; (try dsimp only at hSw); go_simp; try with_reducible rfl)
 try simp only [Act.put, List.setIfInBounds_toArray, List.set_cons_zero, List.set_cons_succ]
 refine wpAnyH_take (i := 6) (v := ?_) rfl (by kernel_rfl) (by kernel_rfl) (by kernel_rfl) (fun _ _ _ h => h) (Or.inl ⟨by rfl, ?_⟩) (by assumption) ?_
 rotate_left
 ·(intro w hSw; (try dsimp only at hSw); go_simp; try with_reducible rfl)
 try simp only [Act.put, List.setIfInBounds_toArray, List.set_cons_zero, List.set_cons_succ]
 refine wpAnyH_take (i := 7) (v := ?_) rfl (by kernel_rfl) (by kernel_rfl) (by kernel_rfl) (fun _ _ _ h => h) (Or.inl ⟨by rfl, ?_⟩) (by assumption) ?_
 rotate_left
 ·(intro w hSw; (try dsimp only at hSw); go_simp; try with_reducible rfl)
 try simp only [Act.put, List.setIfInBounds_toArray, List.set_cons_zero, List.set_cons_succ]
 refine wpAnyH_take (i := 8) (v := ?_) rfl (by kernel_rfl) (by kernel_rfl) (by kernel_rfl) (fun _ _ _ h => h) (Or.inl ⟨by rfl, ?_⟩) (by assumption) ?_
 rotate_left
 ·(intro w hSw; (try dsimp only at hSw); go_simp; try with_reducible rfl)
 try simp only [Act.put, List.setIfInBounds_toArray, List.set_cons_zero, List.set_cons_succ]
 refine wpAnyH_take (i := 9) (v := ?_) rfl (by kernel_rfl) (by kernel_rfl) (by kernel_rfl) (fun _ _ _ h => h) (Or.inl ⟨by rfl, ?_⟩) (by assumption) ?_
 rotate_left
 ·(intro w hSw; (try dsimp only at hSw); go_simp; try with_reducible rfl)
 try simp only [Act.put, List.setIfInBounds_toArray, List.set_cons_zero, List.set_cons_succ]
 refine wpAnyH_ready (rs := [10]) (by kernel_rfl) (by simp) ?_
 refine AllReadyH.cons rfl (fun K hK => ?_) AllReadyH.nil
 go_simp
 refine hK.out _ _ ?_ (fun hHeld => ?_)
 ·exact MS.out _ (HD.out.trans ((belowA Z (.cells #[.int .i64 0, .string ⟨#[]⟩, .int .i64 0, .int .i64 0, .int .i64 0] 53)).mono HD.out.size))
 clear hK K
 try simp only [Act.put, List.setIfInBounds_toArray, List.set_cons_zero, List.set_cons_succ]
 have HXN := hid (heap_alloc_new Z (.cells #[.int .i64 0, .string ⟨#[]⟩, .int .i64 0, .int .i64 0, .int .i64 0] 53))
 have HBN := hid (HD.out.trans ((belowA Z (.cells #[.int .i64 0, .string ⟨#[]⟩, .int .i64 0, .int .i64 0, .int .i64 0] 53)).mono HD.out.size))
 have HGE := hid HD.out.size
 generalize Z.alloc (.cells #[.int .i64 0, .string ⟨#[]⟩, .int .i64 0, .int .i64 0, .int .i64 0] 53) = X at *
 clear HD
 generalize Z.heap.size = b at *
 refine wpAnyH_ready (rs := [11]) (by kernel_rfl) (by simp) ?_
 refine AllReadyH.cons rfl (fun K hK => ?_) AllReadyH.nil
 rw [if_pos (by rfl)]
 refine wp_store_row 53 _ _ rfl b #[.int .i64 (t.kind : Int), .string t.text, .int .i64 t.num, .int .i64 (t.a : Int), .int .i64 (t.e : Int)] rfl rfl 53 _ HXN.out infoTk rfl (by kernel_rfl) ?_
 refine hK.out _ _ ?_ (fun hHeld => ?_)
 ·exact MS.out _ (below_row HBN.out _ _ HGE.out)
 clear hK K hHeld
 try simp only [Act.put, List.setIfInBounds_toArray, List.set_cons_zero, List.set_cons_succ]
 refine wpAnyH_done (by kernel_rfl) ?_ _
 have HV := hid (setRow_heap X _ _ #[.int .i64 (t.kind : Int), .string t.text, .int .i64 t.num, .int .i64 (t.a : Int), .int .i64 (t.e : Int)] _ _ HXN.out)
 have HBV := hid (below_row HBN.out b #[.int .i64 (t.kind : Int), .string t.text, .int .i64 t.num, .int .i64 (t.a : Int), .int .i64 (t.e : Int)] HGE.out)
 generalize X.setRow b #[.int .i64 (t.kind : Int), .string t.text, .int .i64 t.num, .int .i64 (t.a : Int), .int .i64 (t.e : Int)] = V at *
 clear HXN HBN MS
 have ⟨x0, x1, x2, x3, x4⟩ := tk5 HV.out
 by_cases h1 : c = 120
 ·subst h1
  by_cases hk : t.kind = 0
  ·rw [if_pos ⟨rfl, hk⟩] at hfc
   have HFC := hid hfc
   have e0 : ((t.kind : Int) == 0) = true := by simp [hk]
   clear hfc hk
   go_upto_region 3 with fail
   have e1 : (#[.int .i64 (121 : Int), .int .i64 (t.a : Int), .string ⟨#[]⟩, .int .i64 0, .int .i64 0, .int .i64 0, .string ⟨#[]⟩, .int .i64 0, .int .i64 0, .int .i64 0, .string ⟨#[]⟩, .int .i64 0, .int .i64 0, .int .i64 0, .string ⟨#[]⟩, .int .i64 0, .int .i64 0, .int .i64 0, .string ⟨#[]⟩] : Array Value) = FC := by rw [HFC.out]; rfl
   have HPV := hid (HP.out.low HBV.out)
   refine wp_region_lit ?_
   refine wpList_plain rfl fun K hK => ?_
   have HK := hid hK
   clear hK
   go_simp
   (try rw [e1])
   refine HK.out _ _ ?_
   clear HK
   try simp only [Act.put, List.setIfInBounds_toArray, List.set_cons_zero, List.set_cons_succ]
   refine wpList_plain rfl fun K hK => ?_
   have HK := hid hK
   clear hK
   go_simp
   (try rw [e1])
   refine HK.out _ _ ?_
   clear HK
   try simp only [Act.put, List.setIfInBounds_toArray, List.set_cons_zero, List.set_cons_succ]
   refine wpList_plain rfl fun K hK => ?_
   have HK := hid hK
   clear hK
   go_simp
   (try rw [e1])
   refine HK.out _ _ ?_
   clear HK
   try simp only [Act.put, List.setIfInBounds_toArray, List.set_cons_zero, List.set_cons_succ]
   refine wpList_plain rfl fun K hK => ?_
   have HK := hid hK
   clear hK
   go_simp
   (try rw [e1])
   refine HK.out _ _ ?_
   clear HK
   try simp only [Act.put, List.setIfInBounds_toArray, List.set_cons_zero, List.set_cons_succ]
   refine wpList_plain rfl fun K hK => ?_
   have HK := hid hK
   clear hK
   go_simp
   (try rw [e1])
   refine HK.out _ _ ?_
   clear HK
   try simp only [Act.put, List.setIfInBounds_toArray, List.set_cons_zero, List.set_cons_succ]
   refine wpList_plain rfl fun K hK => ?_
   have HK := hid hK
   clear hK
   go_simp
   (try rw [e1])
   refine HK.out _ _ ?_
   clear HK
   try simp only [Act.put, List.setIfInBounds_toArray, List.set_cons_zero, List.set_cons_succ]
   refine wpList_plain rfl fun K hK => ?_
   have HK := hid hK
   clear hK
   go_simp
   (try rw [e1])
   refine HK.out _ _ ?_
   clear HK
   try simp only [Act.put, List.setIfInBounds_toArray, List.set_cons_zero, List.set_cons_succ]
   refine wpList_store_mid rfl 35 _ _ rfl mb 7 FC rfl rfl (by rw [HF9.out]; exact HPV.out.there) (by rw [HF9.out]; exact info53) (by rw [HFC.out]; kernel_rfl) ?_
   try simp only [Act.put, List.setIfInBounds_toArray, List.set_cons_zero, List.set_cons_succ]
   have HR := hid (HPV.out.flt HF9.out)
   have HFV := hid (Fmm.of HBV.out HP.out.size)
   generalize V.setCells mb 7 FC.toList = V2 at *
   go_wp2_with fail
   exact ⟨rfl, .tuple #[], by first | rfl | kernel_rfl, rfl, HR.out.1, HFV.out.trans HR.out.2⟩
  ·rw [if_neg (fun h => hk h.2)] at hfc
   have HFC := hid hfc
   have e0 : ((t.kind : Int) == 0) = false := by simp; omega
   clear hfc hk
   go_upto_region 3 with fail
   have e1 : (#[.int .i64 (120 : Int), .int .i64 (t.a : Int), .string ⟨#[]⟩, .int .i64 0, .int .i64 0, .int .i64 0, .string ⟨#[]⟩, .int .i64 0, .int .i64 0, .int .i64 0, .string ⟨#[]⟩, .int .i64 0, .int .i64 0, .int .i64 0, .string ⟨#[]⟩, .int .i64 0, .int .i64 0, .int .i64 0, .string ⟨#[]⟩] : Array Value) = FC := by rw [HFC.out]; rfl
   have HPV := hid (HP.out.low HBV.out)
   refine wp_region_lit ?_
   refine wpList_plain rfl fun K hK => ?_
   have HK := hid hK
   clear hK
   go_simp
   (try rw [e1])
   refine HK.out _ _ ?_
   clear HK
   try simp only [Act.put, List.setIfInBounds_toArray, List.set_cons_zero, List.set_cons_succ]
   refine wpList_plain rfl fun K hK => ?_
   have HK := hid hK
   clear hK
   go_simp
   (try rw [e1])
   refine HK.out _ _ ?_
   clear HK
   try simp only [Act.put, List.setIfInBounds_toArray, List.set_cons_zero, List.set_cons_succ]
   refine wpList_plain rfl fun K hK => ?_
   have HK := hid hK
   clear hK
   go_simp
   (try rw [e1])
   refine HK.out _ _ ?_
   clear HK
   try simp only [Act.put, List.setIfInBounds_toArray, List.set_cons_zero, List.set_cons_succ]
   refine wpList_plain rfl fun K hK => ?_
   have HK := hid hK
   clear hK
   go_simp
   (try rw [e1])
   refine HK.out _ _ ?_
   clear HK
   try simp only [Act.put, List.setIfInBounds_toArray, List.set_cons_zero, List.set_cons_succ]
   refine wpList_plain rfl fun K hK => ?_
   have HK := hid hK
   clear hK
   go_simp
   (try rw [e1])
   refine HK.out _ _ ?_
   clear HK
   try simp only [Act.put, List.setIfInBounds_toArray, List.set_cons_zero, List.set_cons_succ]
   refine wpList_plain rfl fun K hK => ?_
   have HK := hid hK
   clear hK
   go_simp
   (try rw [e1])
   refine HK.out _ _ ?_
   clear HK
   try simp only [Act.put, List.setIfInBounds_toArray, List.set_cons_zero, List.set_cons_succ]
   refine wpList_plain rfl fun K hK => ?_
   have HK := hid hK
   clear hK
   go_simp
   (try rw [e1])
   refine HK.out _ _ ?_
   clear HK
   try simp only [Act.put, List.setIfInBounds_toArray, List.set_cons_zero, List.set_cons_succ]
   refine wpList_store_mid rfl 35 _ _ rfl mb 7 FC rfl rfl (by rw [HF9.out]; exact HPV.out.there) (by rw [HF9.out]; exact info53) (by rw [HFC.out]; kernel_rfl) ?_
   try simp only [Act.put, List.setIfInBounds_toArray, List.set_cons_zero, List.set_cons_succ]
   have HR := hid (HPV.out.flt HF9.out)
   have HFV := hid (Fmm.of HBV.out HP.out.size)
   generalize V.setCells mb 7 FC.toList = V2 at *
   go_wp2_with fail
   exact ⟨rfl, .tuple #[], by first | rfl | kernel_rfl, rfl, HR.out.1, HFV.out.trans HR.out.2⟩
 ·rw [if_neg (fun h => h1 h.1)] at hfc
  have HFC := hid hfc
  have e0 : ((c : Int) == 120) = false := by simp; omega
  clear hfc h1
  go_upto_region 3 with fail
  have e1 : (#[.int .i64 (c : Int), .int .i64 (t.a : Int), .string ⟨#[]⟩, .int .i64 0, .int .i64 0, .int .i64 0, .string ⟨#[]⟩, .int .i64 0, .int .i64 0, .int .i64 0, .string ⟨#[]⟩, .int .i64 0, .int .i64 0, .int .i64 0, .string ⟨#[]⟩, .int .i64 0, .int .i64 0, .int .i64 0, .string ⟨#[]⟩] : Array Value) = FC := by rw [HFC.out]; rfl
  have HPV := hid (HP.out.low HBV.out)
  refine wp_region_lit ?_
  refine wpList_plain rfl fun K hK => ?_
  have HK := hid hK
  clear hK
  go_simp
  (try rw [e1])
  refine HK.out _ _ ?_
  clear HK
  try simp only [Act.put, List.setIfInBounds_toArray, List.set_cons_zero, List.set_cons_succ]
  refine wpList_plain rfl fun K hK => ?_
  have HK := hid hK
  clear hK
  go_simp
  (try rw [e1])
  refine HK.out _ _ ?_
  clear HK
  try simp only [Act.put, List.setIfInBounds_toArray, List.set_cons_zero, List.set_cons_succ]
  refine wpList_plain rfl fun K hK => ?_
  have HK := hid hK
  clear hK
  go_simp
  (try rw [e1])
  refine HK.out _ _ ?_
  clear HK
  try simp only [Act.put, List.setIfInBounds_toArray, List.set_cons_zero, List.set_cons_succ]
  refine wpList_plain rfl fun K hK => ?_
  have HK := hid hK
  clear hK
  go_simp
  (try rw [e1])
  refine HK.out _ _ ?_
  clear HK
  try simp only [Act.put, List.setIfInBounds_toArray, List.set_cons_zero, List.set_cons_succ]
  refine wpList_plain rfl fun K hK => ?_
  have HK := hid hK
  clear hK
  go_simp
  (try rw [e1])
  refine HK.out _ _ ?_
  clear HK
  try simp only [Act.put, List.setIfInBounds_toArray, List.set_cons_zero, List.set_cons_succ]
  refine wpList_plain rfl fun K hK => ?_
  have HK := hid hK
  clear hK
  go_simp
  (try rw [e1])
  refine HK.out _ _ ?_
  clear HK
  try simp only [Act.put, List.setIfInBounds_toArray, List.set_cons_zero, List.set_cons_succ]
  refine wpList_plain rfl fun K hK => ?_
  have HK := hid hK
  clear hK
  go_simp
  (try rw [e1])
  refine HK.out _ _ ?_
  clear HK
  try simp only [Act.put, List.setIfInBounds_toArray, List.set_cons_zero, List.set_cons_succ]
  refine wpList_store_mid rfl 35 _ _ rfl mb 7 FC rfl rfl (by rw [HF9.out]; exact HPV.out.there) (by rw [HF9.out]; exact info53) (by rw [HFC.out]; kernel_rfl) ?_
  try simp only [Act.put, List.setIfInBounds_toArray, List.set_cons_zero, List.set_cons_succ]
  have HR := hid (HPV.out.flt HF9.out)
  have HFV := hid (Fmm.of HBV.out HP.out.size)
  generalize V.setCells mb 7 FC.toList = V2 at *
  go_wp2_with fail
  exact ⟨rfl, .tuple #[], by first | rfl | kernel_rfl, rfl, HR.out.1, HFV.out.trans HR.out.2⟩
end Go.Proofs.YtcldglilhhhdoaaGreatDoor.L
