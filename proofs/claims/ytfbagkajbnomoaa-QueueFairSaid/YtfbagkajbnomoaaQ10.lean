import Derived.Laws.ResultCell
import Derived.Great.BuildSlice
import Derived.Test.YtfbagkajbnomoaaQ9
namespace Go.Proofs.Ytfbagkajbnomoaa.L
open Go.RowKit Rg Qu
set_option linter.unusedVariables false
set_option linter.unusedSimpArgs false
/-- Take: the code, the pod, the queue behind it. -/
def tkeE (l : List Wt) (s : ByteArray) : Int := if fnd s l < l.length then 0 else 252
def tkeX (l : List Wt) (s : ByteArray) : Wt := if h : fnd s l < l.length then l[fnd s l] else default
def tkeL (l : List Wt) (s : ByteArray) : List Wt := if fnd s l < l.length then l.eraseIdx (fnd s l) else l
theorem okq_tke {l : List Wt} {nx : Int} (h : Okq l nx) (s : ByteArray) : Okq (tkeL l s) nx := by
  unfold tkeL
  split
  · exact h.erase _
  · exact h
theorem infoW6 : (Try.prog.info? 40).map (·.size) = some 6 := by kernel_rfl
theorem res_w {fn : Func} {p u : Tmp} (h : fn.results = #[.cell p 40, .tmp u]) (tmps : Array Value) (w : World) (g : Nat) (cs : Array Value) (hp : tmps.getD p undef = .pointer (some ⟨g, 0, none⟩)) (hg : w.heap[g]? = some (.cells cs 40 (0, 0))) (hs : cs.size = 6) : (results fn tmps).run Try.prog w = .ok (.tuple #[.agg cs, tmps.getD u undef]) w := by
  rw [results_cell_tmp h, hp]
  simp only [asAddr, Sem.run_pure, Result.andThen_ok, run_loadVar_row (P := Try.prog) w g 40 40 cs (0, 0) _ hg Try.underlying40 rfl (by rw [hs]; exact infoW6)]
theorem take_nil (w : World) (s : ByteArray) : Calls Try.prog 22 #[.pointer none, .string s] w fun e w' => e = .returned (.tuple #[.agg (wtV default), .int .i64 1]) ∧ Below w.heap.size w w' := by
  go_enter Try.func22, Try.ntmps22
  go_wp2
  (try simp only [Exit.inBlock, Exit.then])
  refine bodyPost_ret (v := .tuple #[.agg (wtV default), .int .i64 1]) ?_ rfl ⟨rfl, belowA _ _⟩
  exact res_w (p := 4) (u := 5) rfl _ _ w.heap.size #[.string ⟨#[]⟩, .int .i64 0, .int .i64 0, .int .i64 0, .int .i64 0, .bool false] rfl (heap_alloc_new w _) rfl
/-- A block beside the queue is written. -/
theorem qr_other {W W5 : World} {B qb tb : Nat} {v : Value} {l : List Wt} {nx : Int} {cs cs' : Array Value} {t : TypeId} (h : Qr W B qb v l nx W5) (ht : W5.heap[tb]? = some (.cells cs t (0, 0))) (h1 : t ≠ 61) (h2 : t ≠ 63) (hge : W.heap.size ≤ tb) : Qr W B qb v l nx (W5.setRow tb cs') := by
  obtain ⟨v1, m, f, b⟩ := h
  have n1 : qb ≠ tb := fun e => by
    rw [← e, m.box] at ht
    injection ht with ht
    injection ht with _ ht
    exact h1 ht.symm
  refine ⟨v1, ⟨(setRow_other _ _ _ _ n1).trans m.box, row_kept m.row (fun k hk => setRow_other _ _ _ _ (fun e => ?_)), m.lo⟩, ⟨f.os, f.tape, f.output, Nat.le_trans f.size (by simp), fun j hj a1 a2 => (setRow_other _ _ _ _ (by omega)).trans (f.block j hj a1 a2)⟩, b⟩
  obtain ⟨_, _, cs, hc⟩ := row_at m.row hk
  rw [e, ht] at hc
  injection hc with hc
  injection hc with _ hc
  exact h2 hc
set_option maxHeartbeats 4000000 in
set_option maxRecDepth 100000 in
theorem take_any {w : World} {B qb : Nat} {v : Value} {l : List Wt} {nx : Int} (h : Qm w B qb v l nx) (hl : l.length ≤ 2048) (s : ByteArray) (hB : B ≤ w.heap.size) :
    Calls Try.prog 22 #[.pointer (some ⟨qb, 0, none⟩), .string s] w fun e w' => e = .returned (.tuple #[.agg (wtV (tkeX l s)), .int .i64 (tkeE l s)]) ∧ Qr w B qb v (tkeL l s) nx w' := by
  have HB1 := hid (belowA w (.cells (wtV default) 40))
  have HX1 := hid (heap_alloc_new w (.cells (wtV default) 40))
  have HF := hid (find_any (h.low HB1.out) hl s)
  have HQ := hid h
  obtain ⟨W1, hW1⟩ : ∃ W1, W1 = w.alloc (.cells (wtV default) 40) := ⟨_, rfl⟩
  have hW1' : w.alloc (.cells #[.string ⟨#[]⟩, .int .i64 0, .int .i64 0, .int .i64 0, .int .i64 0, .bool false] 40) = W1 := hW1.symm
  rw [← hW1] at HF HB1 HX1
  clear hW1
  by_cases h1 : fnd s l < l.length
  · have HE := hid (show tkeE l s = 0 from by unfold tkeE; rw [if_pos h1])
    have HL := hid (show tkeL l s = l.eraseIdx (fnd s l) from by unfold tkeL; rw [if_pos h1])
    have HT := hid (show tkeX l s = l[fnd s l] from by unfold tkeX; rw [dif_pos h1])
    have hz := fndI_yes h1
    rw [hz] at HF
    obtain ⟨k, hk⟩ : ∃ k, k = fnd s l := ⟨_, rfl⟩
    rw [← hk] at HF
    have HL2 := hid (show tkeL l s = l.eraseIdx k from by rw [HL.out, hk])
    have hkl : k < l.length := by rw [hk]; exact h1
    have HT2 := hid (show tkeX l s = l[k]'hkl from by rw [HT.out]; simp only [hk])
    clear hz HT HL h1 hk
    obtain ⟨y, hy⟩ : ∃ y, y = l[k] := ⟨_, rfl⟩
    rw [← hy] at HT2
    obtain ⟨_, a, c, rfl, hr⟩ := own_w h.row
    obtain ⟨g, off, rfl, hgb, _⟩ := cell_w hr hkl
    have hoff : off = 0 := by
      rcases h.row.2 with ⟨e, _⟩ | ⟨g', cap', cur, e, _⟩
      · cases e
      · injection e with e _ _
        injection e with e
        injection e with _ e _
    subst hoff
    obtain ⟨n, hn⟩ : ∃ n, n = l.length := ⟨_, rfl⟩
    have HN := hid hn
    have HY := hid hy
    have HKL := hid hkl
    have hc1 := (own_getD h.row).choose_spec.2.1
    rw [← hn] at hkl hl hc1 HQ ⊢
    have g1 : ¬ (k : Int) < 0 := by omega
    have g2 : (0 : Int) ≤ (k : Int) := by omega
    have g3 : (k : Int) < (n : Int) := by omega
    have gw : IntKind.i64.wrap ((k : Int) + 1) = (k : Int) + 1 := by rw [IntKind.wrap_i64]; omega
    clear h hr hgb hn hy
    go_enter Try.func22, Try.ntmps22
    go_upto_region 3 with fail
    clear hW1'
    obtain ⟨tb, htb⟩ : ∃ b, b = w.heap.size := ⟨_, rfl⟩
    rw [← htb] at HX1 ⊢
    have HTB := hid htb
    clear htb
    go_wp2_with fail
    refine HF.out.mono ?_
    rintro e w2 ⟨rfl, hb2⟩
    have HQ2 := hid ((HQ.out.low HB1.out).low hb2)
    have HX2 := hid ((hb2.block _ (lt_blk HX1.out)).trans HX1.out)
    have HB2 := hid (bch HB1.out hb2)
    clear hb2 HF HX1 HB1
    obtain ⟨_, a2, c2, e2, r2⟩ := own_w HQ2.out.row
    injection e2 with e2 e2n e3
    clear e2n
    subst e3
    rw [← e2] at r2
    obtain ⟨g', off', eg, hgb, c0, c1, c2', c3, c4, c5⟩ := cell_w r2 HKL.out
    injection eg with eg
    injection eg with eg1 eg2 _
    subst eg1 eg2
    rw [← HY.out] at c0 c1 c2' c3 c4 c5
    simp only [Nat.zero_add] at c0 c1 c2' c3 c4 c5
    have y0 : w2.cell? ⟨qb, 0, none⟩ = some (.slice (some ⟨g, 0, none⟩) n c) := cell_of_row w2 _ 0 _ _ _ HQ2.out.box
    clear e2 r2
    go_upto_region 7 with fail
    have HBV := hid (belowA w2 (.cells #[.string y.name, .int .i64 y.pr, .int .i64 y.seq, .int .i64 y.tries, .int .i64 y.til, .bool y.asl] 63))
    have HXV := hid (heap_alloc_new w2 (.cells #[.string y.name, .int .i64 y.pr, .int .i64 y.seq, .int .i64 y.tries, .int .i64 y.til, .bool y.asl] 63))
    generalize w2.alloc (.cells #[.string y.name, .int .i64 y.pr, .int .i64 y.seq, .int .i64 y.tries, .int .i64 y.til, .bool y.asl] 63) = V at *
    have HQV := hid (HQ2.out.low HBV.out)
    have HXT := hid ((HBV.out.block _ (lt_blk HX2.out)).trans HX2.out)
    obtain ⟨pb, hpb⟩ : ∃ b, b = w2.heap.size := ⟨_, rfl⟩
    rw [← hpb] at HXV ⊢
    have HGP := hid (show g < pb from by rw [hpb]; exact hgb)
    have HDL := hid (delete_lib (W := V) (B := B) (g := g) (cap := c) (l := l) (by rw [← HN.out]; have := HQV.out.row; rw [← HN.out] at this; exact this) k HKL.out (by have := HN.out; omega))
    rw [← HN.out] at HDL
    have v0 : V.cell? ⟨qb, 0, none⟩ = some (.slice (some ⟨g, 0, none⟩) n c) := cell_of_row V _ 0 _ _ _ HQV.out.box
    clear hpb hgb c0 c1 c2' c3 c4 c5 y0 HX2
    go_wp2_with fail
    refine HDL.out.mono ?_
    rintro e W4 ⟨rfl, o4, g4⟩
    have hq4 : W4.heap[qb]? = some (.cells #[.slice (some ⟨g, 0, none⟩) n c, .int .i64 nx] 61 (0, 0)) := box_grow HQV.out.row HQV.out.box (by decide) g4
    have f4 : W4.cell? ⟨qb, 0, none⟩ = some (.slice (some ⟨g, 0, none⟩) n c) := cell_of_row W4 _ 0 _ _ _ hq4
    have z4 : W4.frozen? ⟨qb, 0, none⟩ = false := by simp [World.frozen?, hq4]
    have HX4 := hid (show W4.heap[pb]? = some (.cells #[.string y.name, .int .i64 y.pr, .int .i64 y.seq, .int .i64 y.tries, .int .i64 y.til, .bool y.asl] 63 (0, 0)) from (g4.block pb (lt_blk HXV.out) (fun e => by injection e with e; have := HGP.out; omega)).trans HXV.out)
    have HT4 := hid (box_grow HQV.out.row HXT.out (by decide) g4)
    have HQ4 := hid hq4
    have HO4 := hid o4
    have HG4 := hid g4
    clear hq4 o4 g4 HDL
    go_upto_region 8 with fail
    have HQR := hid (show Qr w B qb (.slice (some ⟨g, 0, none⟩) n c) (l.eraseIdx k) nx (W4.setCell ⟨qb, 0, none⟩ (.slice (some ⟨g, 0, none⟩) (n - 1) c)) from qr_put HQ.out (bch HB2.out HBV.out) HG4.out (by
      rw [List.length_eraseIdx_of_lt HKL.out, ← HN.out]
      exact HO4.out) (fun j hj => Or.inl hj))
    have nq : ∀ {t : TypeId} {cs : Array Value} {b : Nat}, W4.heap[b]? = some (.cells cs t (0, 0)) → t ≠ 61 → b ≠ qb := fun h1 h2 e => by
      rw [e, HQ4.out] at h1
      injection h1 with h1
      injection h1 with _ h1
      exact h2 h1.symm
    have HP5 := hid (show (W4.setCell ⟨qb, 0, none⟩ (.slice (some ⟨g, 0, none⟩) (n - 1) c)).heap[pb]? = some (.cells #[.string y.name, .int .i64 y.pr, .int .i64 y.seq, .int .i64 y.tries, .int .i64 y.til, .bool y.asl] 63 (0, 0)) from by
      rw [setCell_eq_setRow _ _ _ _ _ _ _ HQ4.out, setRow_other _ _ _ _ (nq HX4.out (by decide))]; exact HX4.out)
    have HT5 := hid (show (W4.setCell ⟨qb, 0, none⟩ (.slice (some ⟨g, 0, none⟩) (n - 1) c)).heap[tb]? = some (.cells (wtV default) 40 (0, 0)) from by
      rw [setCell_eq_setRow _ _ _ _ _ _ _ HQ4.out, setRow_other _ _ _ _ (nq HT4.out (by decide))]; exact HT4.out)
    clear nq f4 z4 v0 HX4 HT4 HQ4 HO4 HG4
    generalize W4.setCell ⟨qb, 0, none⟩ (.slice (some ⟨g, 0, none⟩) (n - 1) c) = W5 at *
    refine wp_region_lit ?_
    refine wpList_load_row rfl 63 _ rfl pb rfl 63 #[.string y.name, .int .i64 y.pr, .int .i64 y.seq, .int .i64 y.tries, .int .i64 y.til, .bool y.asl] (0, 0) _ HP5.out Try.underlying63 rfl infoD6 ?_
    try simp only [Act.put, List.setIfInBounds_toArray, List.set_cons_zero, List.set_cons_succ]
    refine wpList_store_row rfl 40 _ _ rfl tb #[.string y.name, .int .i64 y.pr, .int .i64 y.seq, .int .i64 y.tries, .int .i64 y.til, .bool y.asl] rfl rfl 40 (wtV default) HT5.out infoW6 rfl (by kernel_rfl) ?_
    try simp only [Act.put, List.setIfInBounds_toArray, List.set_cons_zero, List.set_cons_succ]
    have HFN := hid (setRow_heap W5 tb _ #[.string y.name, .int .i64 y.pr, .int .i64 y.seq, .int .i64 y.tries, .int .i64 y.til, .bool y.asl] _ _ HT5.out)
    have HQE := hid (qr_other (cs' := #[.string y.name, .int .i64 y.pr, .int .i64 y.seq, .int .i64 y.tries, .int .i64 y.til, .bool y.asl]) HQR.out HT5.out (by decide) (by decide) (by rw [HTB.out]; exact Nat.le_refl _))
    generalize W5.setRow tb #[.string y.name, .int .i64 y.pr, .int .i64 y.seq, .int .i64 y.tries, .int .i64 y.til, .bool y.asl] = W6 at *
    go_wp2_with fail
    (try simp only [Exit.inBlock, Exit.then])
    refine bodyPost_ret (v := .tuple #[.agg #[.string y.name, .int .i64 y.pr, .int .i64 y.seq, .int .i64 y.tries, .int .i64 y.til, .bool y.asl], .int .i64 0]) ?_ rfl ⟨by rw [HT2.out, HE.out]; rfl, by rw [HL2.out]; exact HQE.out⟩
    exact res_w (p := 4) (u := 5) rfl _ _ tb _ rfl HFN.out rfl
  · have HE := hid (show tkeE l s = 252 from by unfold tkeE; rw [if_neg h1])
    have HL := hid (show tkeL l s = l from by unfold tkeL; rw [if_neg h1])
    have HT := hid (show tkeX l s = default from by unfold tkeX; rw [dif_neg h1])
    have hz := fndI_no h1
    rw [hz] at HF
    clear hz h1 h
    go_enter Try.func22, Try.ntmps22
    go_upto_region 3 with fail
    clear hW1'
    obtain ⟨tb, htb⟩ : ∃ b, b = w.heap.size := ⟨_, rfl⟩
    rw [← htb] at HX1 ⊢
    have HTB := hid htb
    clear htb
    go_wp2_with fail
    refine HF.out.mono ?_
    rintro e w2 ⟨rfl, hb2⟩
    have HX2 := hid ((hb2.block _ (lt_blk HX1.out)).trans HX1.out)
    have HQE := hid (qr_other (cs' := wtV default) (HQ.out.qr (bch HB1.out hb2)) HX2.out (by decide) (by decide) (by rw [HTB.out]; exact Nat.le_refl _))
    have HFN := hid (setRow_heap w2 tb _ (wtV default) _ _ HX2.out)
    clear hb2 HF HX1 HB1
    go_upto_region 5 with fail
    refine wp_region_lit ?_
    refine wpList_buildTo rfl 40 #[] rfl (some 16) rfl (wtV default) (by kernel_rfl) ?_
    try simp only [Act.put, List.setIfInBounds_toArray, List.set_cons_zero, List.set_cons_succ]
    refine wpList_store_row rfl 40 _ _ rfl tb (wtV default) rfl rfl 40 (wtV default) HX2.out infoW6 rfl (by kernel_rfl) ?_
    try simp only [Act.put, List.setIfInBounds_toArray, List.set_cons_zero, List.set_cons_succ]
    generalize w2.setRow tb (wtV default) = W6 at *
    go_wp2_with fail
    (try simp only [Exit.inBlock, Exit.then])
    refine bodyPost_ret (v := .tuple #[.agg (wtV default), .int .i64 252]) ?_ rfl ⟨by rw [HT.out, HE.out], by rw [HL.out]; exact HQE.out⟩
    exact res_w (p := 4) (u := 5) rfl _ _ tb _ rfl HFN.out rfl
end Go.Proofs.Ytfbagkajbnomoaa.L
