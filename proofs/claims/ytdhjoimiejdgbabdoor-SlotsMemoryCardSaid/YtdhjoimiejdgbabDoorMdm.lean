import Derived.Test.YtdhjoimiejdgbabDoorMst
namespace Go.Proofs.YtdhjoimiejdgbabDoor.L
open Go.RowKit Bs Go.Maps Go.Shelf
set_option linter.unusedVariables false
def st2 (k : Nat) : ByteArray := ⟨#[42]⟩ ++ tx (k : Int)
theorem xsN_len (T : List ByteArray) (n k : Nat) : (xsN T n k).length = T.length := by
  unfold xsN
  split
  · rw [mks_len]
  · rfl
theorem xsN_row (T : List ByteArray) {n k : Nat} (h : k < n) : xsN T n (k + 1) = mks k T.length := by
  unfold xsN
  rw [if_pos (by omega)]
  simp
/-- The lists while they are grown. -/
structure Dm (V : World) (M2 n : Nat) (r q : Nat → Value) (lv gv : Value) (T : List ByteArray) (wr : World) : Prop where
  low : Below V.heap.size V wr
  fm : Fm wr V.heap.size 19 r (xsN T 18)
  ls : wr.ownsRow V.heap.size 22 1 lv 18 (rowC r 18)
  gr : wr.ownsRow M2 22 1 gv n ((List.range n).map q)
  qs : ∀ k, k < n → OwnS wr V.heap.size (q k) (mks k T.length ++ [st2 k]) ∧ ∀ g, (q k).ownBlock = some g → ∀ j, k + 1 < j → j < 19 → (r j).ownBlock ≠ some g
  sz : V.heap.size ≤ M2 ∧ M2 ≤ wr.heap.size
  ll : ∀ g, lv.ownBlock = some g → g < M2
theorem Dm.lo {V : World} {M2 n : Nat} {r q : Nat → Value} {lv gv : Value} {T : List ByteArray} {wr w' : World} (h : Dm V M2 n r q lv gv T wr) (hb : Below wr.heap.size wr w') : Dm V M2 n r q lv gv T w' :=
  ⟨h.low.trans (hb.mono h.low.size), h.fm.low hb, own_low h.ls hb, own_low h.gr hb, fun k hk => ⟨own_low (h.qs k hk).1 hb, (h.qs k hk).2⟩, ⟨h.sz.1, Nat.le_trans h.sz.2 hb.size⟩, h.ll⟩
/-- A text more behind a row of texts. -/
theorem Dm.app {V : World} {M2 n nn : Nat} {r q : Nat → Value} {lv gv v : Value} {T : List ByteArray} {wr w' : World} {tmp : Obj} {xs : List Value} (h : Dm V M2 n r q lv gv T wr) (hv : wr.ownsRow V.heap.size 9 1 v nn xs) (hN : T.length ≤ nn) (hq : T.length + 1 ≤ nn ∨ ∀ k, k < n → (q k).ownBlock ≠ v.ownBlock)
    (hgrow : (wr.alloc tmp).grownBy w' v.ownBlock) (hst : ∀ b u n0 ys, (wr.alloc tmp).ownsRow b 9 1 u n0 ys → (n0 ≤ nn ∨ u.ownBlock ≠ v.ownBlock) → w'.ownsRow b 9 1 u n0 ys) : Dm V M2 n r q lv gv T w' := by
  have other : ∀ {m k : Nat} {u : Value} {ys : List Value}, wr.ownsRow m 22 1 u k ys → w'.ownsRow m 22 1 u k ys := fun {m k u ys} ho => own_stays ho (fun g hg => (hgrow.block g (by have := (ho.lt g hg).2; simp; omega) (fun c => own_ne ho hv (by decide) hg c.symm)).trans (Below.heap_alloc wr tmp g (ho.lt g hg).2))
  refine ⟨?_, ⟨fun k hk => ?_, h.fm.ap⟩, other h.ls, other h.gr, fun k hk => ⟨?_, (h.qs k hk).2⟩, ⟨h.sz.1, ?_⟩, h.ll⟩
  · exact (h.low.alloc h.low.size tmp).grown hgrow (by have := h.low.size; simp; omega) (fun k e => (hv.lt k e).1)
  · exact hst _ _ _ _ ((h.fm.own k hk).alloc tmp) (Or.inl (by rw [xsN_len]; exact hN))
  · refine hst _ _ _ _ ((h.qs k hk).1.alloc tmp) ?_
    rw [List.length_append, mks_len]
    rcases hq with c | c
    · exact Or.inl c
    · exact Or.inr (c k hk)
  · have h3 := hgrow.size
    have := h.sz.2
    simp at h3
    omega
/-- A row more behind the grown ones. -/
theorem Dm.snoc {V : World} {M2 n : Nat} {r q : Nat → Value} {lv gv gv' v2 : Value} {T : List ByteArray} {wr w' : World} {tmp : Obj} (h : Dm V M2 n r q lv gv T wr) (h2 : OwnS wr V.heap.size v2 (mks n T.length ++ [st2 n])) (ha : ∀ g, v2.ownBlock = some g → ∀ j, n + 1 < j → j < 19 → (r j).ownBlock ≠ some g)
    (hgrow : (wr.alloc tmp).grownBy w' gv.ownBlock) (hown : w'.ownsRow M2 22 1 gv' (n + 1) ((List.range n).map q ++ [v2])) : Dm V M2 (n + 1) r (upN q n v2) lv gv' T w' := by
  have other : ∀ {m k : Nat} {u : Value} {ys : List Value}, wr.ownsRow m 9 1 u k ys → w'.ownsRow m 9 1 u k ys := fun {m k u ys} ho => own_stays ho (fun g hg => (hgrow.block g (by have := (ho.lt g hg).2; simp; omega) (fun c => own_ne ho h.gr (by decide) hg c.symm)).trans (Below.heap_alloc wr tmp g (ho.lt g hg).2))
  refine ⟨?_, ⟨fun k hk => other (h.fm.own k hk), h.fm.ap⟩, own_stays h.ls (fun g hg => (hgrow.block g (by have := (h.ls.lt g hg).2; simp; omega) (fun c => ?_)).trans (Below.heap_alloc wr tmp g (h.ls.lt g hg).2)), ?_, fun k hk => ?_, ⟨h.sz.1, ?_⟩, h.ll⟩
  · exact (h.low.alloc h.low.size tmp).grown hgrow (by have := h.low.size; simp; omega) (fun k e => Nat.le_trans h.sz.1 (h.gr.lt k e).1)
  · have h1 := h.ll g hg
    have h2 := (h.gr.lt g c.symm).1
    omega
  · rw [List.range_succ, List.map_append]
    rw [show (List.range n).map (upN q n v2) = (List.range n).map q from List.map_congr_left (fun k hk => upN_other _ _ (by have := List.mem_range.1 hk; omega))]
    simp only [List.map_cons, List.map_nil, upN_same]
    exact hown
  · by_cases e : k = n
    · subst e
      rw [upN_same]
      exact ⟨other h2, ha⟩
    · rw [upN_other _ _ e]
      exact ⟨other (h.qs k (by omega)).1, (h.qs k (by omega)).2⟩
  · have h3 := hgrow.size
    have := h.sz.2
    simp at h3
    omega
end Go.Proofs.YtdhjoimiejdgbabDoor.L
