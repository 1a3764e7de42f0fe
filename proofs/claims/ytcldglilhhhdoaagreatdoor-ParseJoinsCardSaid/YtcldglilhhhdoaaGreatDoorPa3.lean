import Derived.Test.YtcldglilhhhdoaaGreatDoorPa2
namespace Go.Proofs.YtcldglilhhhdoaaGreatDoor.L
open Go.RowKit
set_option linter.unusedVariables false
set_option linter.unusedSimpArgs false
theorem PM.chg {pb B : Nat} {Nb : Nat → Prop} {tv : Value} {T : List Tok} {W : World} {s : PS} {v o : Value} {ks : Nat → Value} {W' : World} {s' : PS} (h : PM pb B Nb tv T W s v o ks) (hb : W'.heap[pb]? = some (.cells #[tv, .int .i64 (s'.nx : Int), .int .i64 (s'.ns : Int), v, o] 65 (0, 0))) (hk : ∀ k, k < W.heap.size → k ≠ pb → W'.heap[k]? = W.heap[k]?) (hp : s'.ps = s.ps) (ho : s'.os = s.os) (hn : s'.nx < T.length) (hs : s'.ns ≤ 32) : PM pb B Nb tv T W' s' v o ks := by
  have key : ∀ {e : TypeId} {base size n : Nat} {u : Value} {xs : List Value}, e ≠ 65 → W.ownsRow base e size u n xs → W'.ownsRow base e size u n xs := by
    intro e base size n u xs he hr
    refine row_kept hr (fun k hkk => ?_)
    obtain ⟨_, h2, cur, h3⟩ := row_at hr hkk
    refine hk k h2 (fun e2 => ?_)
    rw [e2, h.box] at h3
    injection h3 with h3
    injection h3 with _ h4
    exact he h4.symm
  refine ⟨hb, key (by decide) h.tok, h.tlt, ?_, ?_, h.pbB, hn, hs, h.tl, h.fin, by rw [hp]; exact h.apart, by rw [hp]; exact h.apx.size (fun k h1 => by by_cases e : k = pb; (rw [e]; exact lt_blk hb); have h2 := hk k h1 e; rw [Array.getElem?_eq_getElem h1] at h2; exact lt_blk h2)⟩
  · rw [hp]
    exact ⟨key (by decide) h.parts.row, fun j hj => key (by decide) (h.parts.kids j hj)⟩
  · rw [ho]
    exact key (by decide) h.offs
theorem Fp.chg {pb : Nat} {W W' : World} (v o : Value) (h1 : W'.os = W.os) (h2 : W'.tape = W.tape) (h3 : W'.output = W.output) (h4 : W.heap.size ≤ W'.heap.size) (hk : ∀ k, k < W.heap.size → k ≠ pb → W'.heap[k]? = W.heap[k]?) : Fp pb W v o W' v o :=
  ⟨h1, h2, h3, h4, fun k hk1 hk2 _ _ => hk k hk1 hk2, fun k h => Or.inl h, fun k h => Or.inl h⟩
theorem set_oth {W : World} {g k : Nat} {cs : Array Value} {t : TypeId} (h : W.heap[g]? = some (.cells cs t (0, 0))) (j : Nat) (v : Value) (hk : k ≠ g) : (W.setCell ⟨g, j, none⟩ v).heap[k]? = W.heap[k]? := by
  rw [setCell_eq_setRow _ _ _ _ _ _ _ h]
  exact setRow_other _ _ _ _ hk
theorem frz_row {W : World} {g : Nat} {cs : Array Value} {t : TypeId} (h : W.heap[g]? = some (.cells cs t (0, 0))) (j : Nat) : W.frozen? ⟨g, j, none⟩ = false := by
  simp [World.frozen?, h]
set_option maxHeartbeats 4000000 in
set_option maxRecDepth 100000 in
theorem take_any {pb B : Nat} {Nb : Nat → Prop} {tv : Value} {T : List Tok} {W : World} {s : PS} {v o : Value} {ks : Nat → Value} (h : PM pb B Nb tv T W s v o ks) (hk : (tk T s.nx).kind ≠ 0) :
    Calls Tryz.prog 73 #[.pointer (some ⟨pb, 0, none⟩)] W fun e W' => e = .returned (L.tv (tk T s.nx)) ∧ PM pb B Nb tv T W' (adv s) v o ks ∧ Fp pb W v o W' v o := by
  have HB0 := hid (belowA W (.cells #[.int .i64 0, .string ⟨#[]⟩, .int .i64 0, .int .i64 0, .int .i64 0] 53))
  have HX0 := hid (heap_alloc_new W (.cells #[.int .i64 0, .string ⟨#[]⟩, .int .i64 0, .int .i64 0, .int .i64 0] 53))
  have hnx := h.nx
  have htl := h.tl
  have HFIN := hid (h.fin _ hnx hk)
  have HP := hid h
  clear h hk
  obtain ⟨t, ht⟩ : ∃ t, t = tk T s.nx := ⟨_, rfl⟩
  have HT := hid ht
  rw [← ht]
  clear ht
  have hnL : (s.nx : Int) + 1 ≤ 4098 := by omega
  go_enter Tryz.func73, Tryz.ntmps73
  go_upto_region 1 with (fail)
  generalize W.alloc (.cells #[.int .i64 0, .string ⟨#[]⟩, .int .i64 0, .int .i64 0, .int .i64 0] 53) = X at *
  have HTK := hid (token_any (HP.out.low HB0.out))
  rw [← HT.out] at HTK
  unfold L.tv at HTK
  go_upto_region 2 with (go_at_call 35; refine HTK.out.mono ?_; rintro e Y ⟨rfl, l⟩; have L1 := hid (HB0.out.trans (l.mono HB0.out.size)); have X1 := hid ((l.block _ (lt_blk HX0.out)).trans HX0.out); clear l)
  have HB2 := hid (belowA Y (.cells #[.int .i64 (t.kind : Int), .string t.text, .int .i64 t.num, .int .i64 (t.a : Int), .int .i64 (t.e : Int)] 53))
  have HX2 := hid (heap_alloc_new Y (.cells #[.int .i64 (t.kind : Int), .string t.text, .int .i64 t.num, .int .i64 (t.a : Int), .int .i64 (t.e : Int)] 53))
  have L2 := hid (L1.out.trans (HB2.out.mono L1.out.size))
  have X2 := hid ((HB2.out.block _ (lt_blk X1.out)).trans X1.out)
  clear HTK
  generalize Y.alloc (.cells #[.int .i64 (t.kind : Int), .string t.text, .int .i64 t.num, .int .i64 (t.a : Int), .int .i64 (t.e : Int)] 53) = Z at *
  generalize Y.heap.size = b1 at *
  have HPZ := hid (HP.out.low L2.out)
  have c1 : Z.cell? ⟨pb, 1, none⟩ = some (.int .i64 (s.nx : Int)) := cell_of_row _ _ 1 _ _ _ HPZ.out.box
  have f1 := frz_row HPZ.out.box 1
  go_upto_region 3 with (fail)
  have HV1 := hid (show (Z.setCell ⟨pb, 1, none⟩ (.int .i64 ((s.nx : Int) + 1))).heap[pb]? = some (.cells #[tv, .int .i64 ((s.nx : Int) + 1), .int .i64 (s.ns : Int), v, o] 65 (0, 0)) by rw [setCell_eq_setRow _ _ _ _ _ _ _ HPZ.out.box, setRow_heap _ _ _ _ _ _ HPZ.out.box]; rfl)
  have HVO := hid (fun k (hk : k ≠ pb) => set_oth (k := k) HPZ.out.box 1 (.int .i64 ((s.nx : Int) + 1)) hk)
  have HVS := hid (show (Z.setCell ⟨pb, 1, none⟩ (.int .i64 ((s.nx : Int) + 1))).os = Z.os ∧ (Z.setCell ⟨pb, 1, none⟩ (.int .i64 ((s.nx : Int) + 1))).tape = Z.tape ∧ (Z.setCell ⟨pb, 1, none⟩ (.int .i64 ((s.nx : Int) + 1))).output = Z.output ∧ (Z.setCell ⟨pb, 1, none⟩ (.int .i64 ((s.nx : Int) + 1))).heap.size = Z.heap.size from ⟨rfl, rfl, rfl, by simp⟩)
  clear c1 f1
  generalize Z.setCell ⟨pb, 1, none⟩ (.int .i64 ((s.nx : Int) + 1)) = V at *
  have HNB := hid (show b1 ≠ pb from fun e => (by have h1 := HX2.out; rw [e, HPZ.out.box] at h1; cases h1))
  have HNW := hid (show W.heap.size ≠ pb from fun e => (by have h1 := X2.out; rw [e, HPZ.out.box] at h1; cases h1))
  have HB1 := hid ((HVO.out _ HNB.out).trans HX2.out)
  have HW1 := hid ((HVO.out _ HNW.out).trans X2.out)
  have ⟨d0, d1, d2, d3, d4⟩ : V.cell? ⟨b1, 0, none⟩ = some (.int .i64 (t.kind : Int)) ∧ V.cell? ⟨b1, 1, none⟩ = some (.string t.text) ∧ V.cell? ⟨b1, 2, none⟩ = some (.int .i64 t.num) ∧ V.cell? ⟨b1, 3, none⟩ = some (.int .i64 (t.a : Int)) ∧ V.cell? ⟨b1, 4, none⟩ = some (.int .i64 (t.e : Int)) := ⟨cell_of_row _ _ 0 _ _ _ HB1.out, cell_of_row _ _ 1 _ _ _ HB1.out, cell_of_row _ _ 2 _ _ _ HB1.out, cell_of_row _ _ 3 _ _ _ HB1.out, cell_of_row _ _ 4 _ _ _ HB1.out⟩
  refine wp_region_lit ?_
  refine wpList_plain rfl fun K hK => ?_
  have HK := hid hK
  clear hK
  go_simp
  refine HK.out _ _ ?_
  clear HK
  try simp only [Act.put, List.setIfInBounds_toArray, List.set_cons_zero, List.set_cons_succ]
  refine wpList_store_row rfl 53 _ _ rfl W.heap.size #[.int .i64 (t.kind : Int), .string t.text, .int .i64 t.num, .int .i64 (t.a : Int), .int .i64 (t.e : Int)] rfl rfl 53 _ HW1.out infoTk rfl (by kernel_rfl) ?_
  try simp only [Act.put, List.setIfInBounds_toArray, List.set_cons_zero, List.set_cons_succ]
  have HV := hid (setRow_heap V _ _ #[.int .i64 (t.kind : Int), .string t.text, .int .i64 t.num, .int .i64 (t.a : Int), .int .i64 (t.e : Int)] _ _ HW1.out)
  have HU1 := hid (show (V.setRow W.heap.size #[.int .i64 (t.kind : Int), .string t.text, .int .i64 t.num, .int .i64 (t.a : Int), .int .i64 (t.e : Int)]).heap[pb]? = _ from (setRow_other _ _ _ _ (Ne.symm HNW.out)).trans HV1.out)
  have HUK := hid (show ∀ k, k < W.heap.size → k ≠ pb → (V.setRow W.heap.size #[.int .i64 (t.kind : Int), .string t.text, .int .i64 t.num, .int .i64 (t.a : Int), .int .i64 (t.e : Int)]).heap[k]? = W.heap[k]? from fun k h1 h2 => ((setRow_other _ _ _ _ (by omega)).trans (HVO.out k h2)).trans (L2.out.block k h1))
  have HUS := hid (show W.heap.size ≤ (V.setRow W.heap.size #[.int .i64 (t.kind : Int), .string t.text, .int .i64 t.num, .int .i64 (t.a : Int), .int .i64 (t.e : Int)]).heap.size by rw [setRow_size, HVS.out.2.2.2]; exact L2.out.size)
  have HUX := hid (show (V.setRow W.heap.size #[.int .i64 (t.kind : Int), .string t.text, .int .i64 t.num, .int .i64 (t.a : Int), .int .i64 (t.e : Int)]).os = W.os ∧ (V.setRow W.heap.size #[.int .i64 (t.kind : Int), .string t.text, .int .i64 t.num, .int .i64 (t.a : Int), .int .i64 (t.e : Int)]).tape = W.tape ∧ (V.setRow W.heap.size #[.int .i64 (t.kind : Int), .string t.text, .int .i64 t.num, .int .i64 (t.a : Int), .int .i64 (t.e : Int)]).output = W.output from ⟨HVS.out.1.trans L2.out.os, HVS.out.2.1.trans L2.out.tape, HVS.out.2.2.1.trans L2.out.output⟩)
  clear d0 d1 d2 d3 d4
  generalize V.setRow W.heap.size #[.int .i64 (t.kind : Int), .string t.text, .int .i64 t.num, .int .i64 (t.a : Int), .int .i64 (t.e : Int)] = U at *
  go_wp2_with fail
  exact ⟨rfl, .agg #[.int .i64 (t.kind : Int), .string t.text, .int .i64 t.num, .int .i64 (t.a : Int), .int .i64 (t.e : Int)], results_cell_row Tryz.results73 _ U W.heap.size 53 #[.int .i64 (t.kind : Int), .string t.text, .int .i64 t.num, .int .i64 (t.a : Int), .int .i64 (t.e : Int)] (0, 0) _ rfl HV.out Tryz.underlying53 rfl infoTk, rfl, HP.out.chg (s' := adv s) (show U.heap[pb]? = some (.cells #[tv, .int .i64 ((s.nx + 1 : Nat) : Int), .int .i64 (s.ns : Int), v, o] 65 (0, 0)) by rw [Int.natCast_add]; exact HU1.out) HUK.out rfl rfl HFIN.out HP.out.ns, Fp.chg v o HUX.out.1 HUX.out.2.1 HUX.out.2.2 HUS.out HUK.out⟩
end Go.Proofs.YtcldglilhhhdoaaGreatDoor.L
