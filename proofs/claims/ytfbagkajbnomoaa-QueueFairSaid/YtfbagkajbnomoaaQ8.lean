import Derived.Deep.RegionWith
import Derived.Test.YtfbagkajbnomoaaQ7
namespace Go.Proofs.Ytfbagkajbnomoaa.L
open Go.RowKit Rg Qu
set_option linter.unusedVariables false
set_option linter.unusedSimpArgs false
theorem belowD (w : World) : Below w.heap.size w w.drew := (Below.refl _ _).drew
theorem cell_oth {W : World} {q b j i : Nat} {v : Value} (h : b ≠ q) : (W.setCell ⟨q, i, none⟩ v).cell? ⟨b, j, none⟩ = W.cell? ⟨b, j, none⟩ := World.cell?_setCell_other _ _ _ _ (by intro e; injection e with e; exact h e.symm)
theorem ixr_z {p : Wt → Bool} {l : List Wt} {e : Ending} (h : IxR p l e) : ∃ (k : Nat) (z : Int), Hid (k ≤ l.length ∧ (∀ (j : Nat) (h : j < l.length), j < k → p l[j] = false) ∧ (∀ h : k < l.length, p l[k] = true)) ∧ Hid (z = if k < l.length then (k : Int) else -1) ∧ e = .returned (.int .i64 z) := by
  obtain ⟨k, h0, h1, h2, rfl⟩ := h
  exact ⟨k, _, hid ⟨h0, h1, h2⟩, hid rfl, rfl⟩
/-- The place of the new one, found by the program's way. -/
theorem ins_prog {x : Wt} {l : List Wt} (h : l.Pairwise ahd) (hs : ∀ y, y ∈ l → y.seq ≠ x.seq) {k : Nat} (hk : k ≤ l.length) (h1 : ∀ (j : Nat) (h : j < l.length), j < k → decide (ahd x l[j]) = false) (h2 : ∀ h : k < l.length, decide (ahd x l[k]) = true) : ins x l = l.take k ++ x :: l.drop k := by
  refine ins_at hk (fun j hj => ?_) (fun hkl => ?_)
  · have a := h1 j (by omega) hj
    rcases ahd_tot (hs _ (List.getElem_mem (show j < l.length by omega))) with e | e
    · exact e
    · exact absurd e (by simpa using a)
  · have a := h2 hkl
    intro e
    exact ahd_irr _ (ahd_trans e (by simpa using a))
/-- A row that has changed is put back into the queue. -/
theorem qr_put {w V W4 : World} {B qb : Nat} {v v4 : Value} {l l' : List Wt} {nx : Int} (hq0 : Qm w B qb v l nx) (hb : Below w.heap.size w V) (hg : V.grownBy W4 v.ownBlock) (ho : W4.ownsRow B 63 6 v4 l'.length (rowX wtV l')) (hn : ∀ j, v4.ownBlock = some j → v.ownBlock = some j ∨ V.heap.size ≤ j) : Qr w B qb v l' nx (W4.setCell ⟨qb, 0, none⟩ v4) := by
  have hqV := hq0.low hb
  have b4 : W4.heap[qb]? = some (.cells #[v, .int .i64 nx] 61 (0, 0)) := box_grow hqV.row hqV.box (by decide) hg
  rw [setCell_eq_setRow _ _ _ _ _ _ _ b4]
  have hb4 := setRow_heap W4 qb _ ((#[v, .int .i64 nx] : Array Value).setIfInBounds 0 v4) _ _ b4
  refine ⟨v4, ⟨hb4, row_kept ho (fun k hk => ?_), hq0.lo⟩, ⟨hg.os.trans hb.os, hg.tape.trans hb.tape, hg.output.trans hb.output, Nat.le_trans hb.size (Nat.le_trans hg.size (by simp)), fun j hj h1 h2 => ?_⟩, fun j hj => ?_⟩
  · obtain ⟨_, _, cs, hc⟩ := row_at ho hk
    refine setRow_other _ _ _ _ (fun e => ?_)
    rw [e, b4] at hc
    injection hc with hc
    injection hc with _ hc
    exact absurd hc (by decide)
  · rw [setRow_other _ _ _ _ h1]
    exact (hg.block j (Nat.lt_of_lt_of_le hj hb.size) (fun e => h2 e.symm)).trans (hb.block j hj)
  · rcases hn j hj with e | e
    · exact Or.inl e
    · exact Or.inr (Nat.le_trans hb.size e)
set_option maxHeartbeats 4000000 in
set_option maxRecDepth 100000 in
theorem insert_any {w : World} {B qb : Nat} {v : Value} {l : List Wt} {nx : Int} (h : Qm w B qb v l nx) (hl : l.length < 2048) (x : Wt) (hB : B ≤ w.heap.size) (hsort : l.Pairwise ahd) (hseq : ∀ y, y ∈ l → y.seq ≠ x.seq) :
    Calls Try.prog 35 #[.pointer (some ⟨qb, 0, none⟩), .agg (wtV x)] w fun e w' => e = .returned (.tuple #[]) ∧ Qr w B qb v (ins x l) nx w' := by
  obtain ⟨_, a, c, rfl, hr⟩ := own_w h.row
  unfold wtV
  have HB1 := hid (belowA w (.cells #[.string x.name, .int .i64 x.pr, .int .i64 x.seq, .int .i64 x.tries, .int .i64 x.til, .bool x.asl] 63))
  have HX1 := hid (heap_alloc_new w (.cells #[.string x.name, .int .i64 x.pr, .int .i64 x.seq, .int .i64 x.tries, .int .i64 x.til, .bool x.asl] 63))
  have HQ1 := hid (h.low HB1.out)
  have HR1 := hid (hr.low HB1.out)
  have HS := hid (And.intro hsort hseq)
  have HQ0 := hid h
  obtain ⟨n, hn⟩ : ∃ n, n = l.length := ⟨_, rfl⟩
  have HN := hid hn
  rw [← hn] at hl HQ1 HQ0 ⊢
  clear hn h hr hsort hseq
  have hmax : n ≤ maxLen := by unfold maxLen; omega
  go_enter Try.func35, Try.ntmps35
  go_upto_region 1 with fail
  generalize w.alloc (.cells #[.string x.name, .int .i64 x.pr, .int .i64 x.seq, .int .i64 x.tries, .int .i64 x.til, .bool x.asl] 63) = W1 at *
  obtain ⟨xb, hxb⟩ : ∃ b, b = w.heap.size := ⟨_, rfl⟩
  rw [← hxb] at HX1 ⊢
  have HXB := hid hxb
  clear hxb
  have x0 : W1.drew.cell? ⟨xb, 0, none⟩ = some (.string x.name) := cell_of_row W1 _ 0 _ _ _ HX1.out
  have x1 : W1.drew.cell? ⟨xb, 1, none⟩ = some (.int .i64 x.pr) := cell_of_row W1 _ 1 _ _ _ HX1.out
  have x2 : W1.drew.cell? ⟨xb, 2, none⟩ = some (.int .i64 x.seq) := cell_of_row W1 _ 2 _ _ _ HX1.out
  have x3 : W1.drew.cell? ⟨xb, 3, none⟩ = some (.int .i64 x.tries) := cell_of_row W1 _ 3 _ _ _ HX1.out
  have x4 : W1.drew.cell? ⟨xb, 4, none⟩ = some (.int .i64 x.til) := cell_of_row W1 _ 4 _ _ _ HX1.out
  have x5 : W1.drew.cell? ⟨xb, 5, none⟩ = some (.bool x.asl) := cell_of_row W1 _ 5 _ _ _ HX1.out
  have y0 : W1.drew.cell? ⟨qb, 0, none⟩ = some (.slice a n c) := cell_of_row W1 _ 0 _ _ _ HQ1.out.box
  have HI := hid (idxa_any x (fun y => decide (ahd x y)) l a c W1.drew (HR1.out.low (belowD W1)) (by rw [← HN.out]; omega) (fun W y hb => ((ahead_any x y W).mono fun e w' h => h)))
  unfold wtV at HI
  rw [← HN.out] at HI
  go_region_held3 (fun Y => Y.cell? ⟨xb, 0, none⟩ = some (.string x.name) ∧ Y.cell? ⟨xb, 1, none⟩ = some (.int .i64 x.pr) ∧ Y.cell? ⟨xb, 2, none⟩ = some (.int .i64 x.seq) ∧ Y.cell? ⟨xb, 3, none⟩ = some (.int .i64 x.tries) ∧ Y.cell? ⟨xb, 4, none⟩ = some (.int .i64 x.til) ∧ Y.cell? ⟨xb, 5, none⟩ = some (.bool x.asl) ∧ Y.cell? ⟨qb, 0, none⟩ = some (.slice a n c))
    (first | exact ⟨x0, x1, x2, x3, x4, x5, y0⟩ | exact T2)
    (first
      | (go_at_call 46; refine HI.out.mono ?_; rintro e w2 ⟨hix, hb2⟩; obtain ⟨k, z, HK, HZ, rfl⟩ := ixr_z hix
         have T2 := And.intro ((hb2.cell (p := ⟨xb, 0, none⟩) (lt_blk HX1.out)).trans x0) (And.intro ((hb2.cell (p := ⟨xb, 1, none⟩) (lt_blk HX1.out)).trans x1) (And.intro ((hb2.cell (p := ⟨xb, 2, none⟩) (lt_blk HX1.out)).trans x2) (And.intro ((hb2.cell (p := ⟨xb, 3, none⟩) (lt_blk HX1.out)).trans x3) (And.intro ((hb2.cell (p := ⟨xb, 4, none⟩) (lt_blk HX1.out)).trans x4) (And.intro ((hb2.cell (p := ⟨xb, 5, none⟩) (lt_blk HX1.out)).trans x5) ((hb2.cell (p := ⟨qb, 0, none⟩) (lt_blk HQ1.out.box)).trans y0))))))
         have HB2 := hid hb2
         clear hix hb2))
  clear T2 x0 x1 x2 x3 x4 x5 y0 HI HR1
  have HZ2 := hid (show ∃ k', k' ≤ l.length ∧ ins x l = l.take k' ++ x :: l.drop k' ∧ ((z = (k' : Int) ∧ k' < n) ∨ (z = -1 ∧ k' = n)) from by
    obtain ⟨h0, h1, h2⟩ := HK.out
    obtain ⟨s1, s2⟩ := HS.out
    have hz := HZ.out
    have hn := HN.out
    refine ⟨k, h0, ins_prog s1 s2 h0 h1 h2, ?_⟩
    by_cases hk : k < l.length
    · rw [if_pos hk] at hz
      exact Or.inl ⟨hz, by omega⟩
    · rw [if_neg hk] at hz
      exact Or.inr ⟨hz, by omega⟩)
  clear HK HZ HS
  obtain ⟨m, hm, hins, hcase⟩ := HZ2.out
  have HIN := hid hins
  have HM := hid hm
  clear HZ2 hins hm
  have HX2 := hid ((HB2.out.block _ (lt_blk HX1.out)).trans HX1.out)
  have HQ2 := hid (HQ1.out.low (bch (belowD W1) HB2.out))
  have HBW := hid (bch HB1.out (bch (belowD W1) HB2.out))
  clear HB2 HX1 HQ1 HB1
  have u0 : w2.drew.cell? ⟨xb, 0, none⟩ = some (.string x.name) := cell_of_row w2 _ 0 _ _ _ HX2.out
  have u1 : w2.drew.cell? ⟨xb, 1, none⟩ = some (.int .i64 x.pr) := cell_of_row w2 _ 1 _ _ _ HX2.out
  have u2 : w2.drew.cell? ⟨xb, 2, none⟩ = some (.int .i64 x.seq) := cell_of_row w2 _ 2 _ _ _ HX2.out
  have u3 : w2.drew.cell? ⟨xb, 3, none⟩ = some (.int .i64 x.tries) := cell_of_row w2 _ 3 _ _ _ HX2.out
  have u4 : w2.drew.cell? ⟨xb, 4, none⟩ = some (.int .i64 x.til) := cell_of_row w2 _ 4 _ _ _ HX2.out
  have u5 : w2.drew.cell? ⟨xb, 5, none⟩ = some (.bool x.asl) := cell_of_row w2 _ 5 _ _ _ HX2.out
  have q0 : w2.drew.cell? ⟨qb, 0, none⟩ = some (.slice a n c) := cell_of_row w2 _ 0 _ _ _ HQ2.out.box
  obtain ⟨V, hV⟩ : ∃ V, V = w2.drew.alloc (.cells #[.string x.name, .int .i64 x.pr, .int .i64 x.seq, .int .i64 x.tries, .int .i64 x.til, .bool x.asl] 63) := ⟨_, rfl⟩
  have HBV := hid (show Below w2.drew.heap.size w2.drew V from by rw [hV]; exact belowA _ _)
  have HVB := hid (show V.heap[w2.heap.size]? = some (.cells (wtV x) 63 (0, 0)) from by rw [hV]; exact heap_alloc_new w2.drew _)
  have HQV := hid (HQ2.out.low (bch (belowD w2) HBV.out))
  have HXV := hid ((HBV.out.block _ (lt_blk HX2.out)).trans (show w2.drew.heap[xb]? = _ from HX2.out))
  have HIL := hid (insert_lib (W := V) (B := B) HQV.out.row m HM.out x w2.heap.size HVB.out (fun e => by
    have := (row_at HQ2.out.row e).2.1
    omega) (by have := HN.out; omega) (Nat.le_trans hB (Nat.le_trans HBW.out.size (bch (belowD w2) HBV.out).size)))
  rw [← HN.out] at HIL
  have hne : xb ≠ qb := fun e => by
    have h1 := HX2.out
    rw [e, HQ2.out.box] at h1
    injection h1 with h1
    injection h1 with _ h1
    exact absurd h1 (by decide)
  have v0 : V.cell? ⟨qb, 0, none⟩ = some (.slice a n c) := cell_of_row V _ 0 _ _ _ HQV.out.box
  have w0 : V.cell? ⟨xb, 0, none⟩ = some (.string x.name) := cell_of_row V _ 0 _ _ _ HXV.out
  have w1 : V.cell? ⟨xb, 1, none⟩ = some (.int .i64 x.pr) := cell_of_row V _ 1 _ _ _ HXV.out
  have w3 : V.cell? ⟨xb, 2, none⟩ = some (.int .i64 x.seq) := cell_of_row V _ 2 _ _ _ HXV.out
  have w4 : V.cell? ⟨xb, 3, none⟩ = some (.int .i64 x.tries) := cell_of_row V _ 3 _ _ _ HXV.out
  have w5 : V.cell? ⟨xb, 4, none⟩ = some (.int .i64 x.til) := cell_of_row V _ 4 _ _ _ HXV.out
  have w6 : V.cell? ⟨xb, 5, none⟩ = some (.bool x.asl) := cell_of_row V _ 5 _ _ _ HXV.out
  have HUX := hid (show ∀ W', V.grownBy W' (Value.slice a n c).ownBlock → W'.heap[xb]? = some (.cells #[.string x.name, .int .i64 x.pr, .int .i64 x.seq, .int .i64 x.tries, .int .i64 x.til, .bool x.asl] 63 (0, 0)) ∧ W'.heap[qb]? = some (.cells #[.slice a n c, .int .i64 nx] 61 (0, 0)) from fun W' hg =>
    ⟨(hg.block xb (lt_blk HXV.out) (fun e => by have := (row_at HQ0.out.row e.symm).2.1; have := HXB.out; omega)).trans HXV.out, box_grow HQV.out.row HQV.out.box (by decide) hg⟩)
  have hql : qb < w2.heap.size := lt_blk HQ2.out.box
  have hqn : ¬ (qb = w2.heap.size) := by omega
  have hqm : ¬ (w2.heap.size = qb) := by omega
  have va : ∀ o, (w2.drew.alloc o).cell? ⟨qb, 0, none⟩ = some (.slice a n c) := fun o => ((belowA w2.drew o).cell (p := ⟨qb, 0, none⟩) hql).trans q0
  have vb : ∀ o, (w2.alloc o).drew.cell? ⟨qb, 0, none⟩ = some (.slice a n c) := va
  subst hV
  rcases hcase with ⟨rfl, hlt⟩ | ⟨rfl, hmn⟩
  · go_upto_region 4 with fail
    go_region_with (first
        | (go_at_call 49; refine HIL.out.mono ?_; rintro e W4 ⟨v', rfl, o4, g4, n4⟩
           obtain ⟨a4, p4, c4, rfl⟩ := row_form o4
           obtain ⟨hx4, hq4⟩ := HUX.out W4 g4
           have f4 : W4.cell? ⟨qb, 0, none⟩ = some (.slice a n c) := cell_of_row W4 _ 0 _ _ _ hq4
           have z4 : W4.frozen? ⟨qb, 0, none⟩ = false := by simp [World.frozen?, hq4]
           have HX4 := hid hx4
           have HQ4 := hid hq4
           have HO4 := hid o4
           have HG4 := hid g4
           have HN4 := hid n4
           clear hx4 hq4 o4 g4 n4))
    all_goals
      go_end0
      refine ⟨by first | rfl | simp, ?_⟩
      rw [HIN.out]
      exact qr_put HQ0.out (bch (bch HBW.out (belowD w2)) HBV.out) HG4.out (by
        have e : (l.take m ++ x :: l.drop m).length = n + 1 := by rw [← HIN.out, ins_len, ← HN.out]
        rw [e]
        exact HO4.out) HN4.out
  · subst hmn
    go_upto_region 4 with fail
    go_region_with (first
        | (go_at_call 49; refine HIL.out.mono ?_; rintro e W4 ⟨v', rfl, o4, g4, n4⟩
           obtain ⟨a4, p4, c4, rfl⟩ := row_form o4
           obtain ⟨hx4, hq4⟩ := HUX.out W4 g4
           have f4 : W4.cell? ⟨qb, 0, none⟩ = some (.slice a m c) := cell_of_row W4 _ 0 _ _ _ hq4
           have z4 : W4.frozen? ⟨qb, 0, none⟩ = false := by simp [World.frozen?, hq4]
           have HX4 := hid hx4
           have HQ4 := hid hq4
           have HO4 := hid o4
           have HG4 := hid g4
           have HN4 := hid n4
           clear hx4 hq4 o4 g4 n4))
    all_goals
      go_end0
      refine ⟨by first | rfl | simp, ?_⟩
      rw [HIN.out]
      exact qr_put HQ0.out (bch (bch HBW.out (belowD w2)) HBV.out) HG4.out (by
        have e : (l.take m ++ x :: l.drop m).length = m + 1 := by rw [← HIN.out, ins_len, ← HN.out]
        rw [e]
        exact HO4.out) HN4.out
end Go.Proofs.Ytfbagkajbnomoaa.L
