import Derived.Test.YtppblibcbjpfnaaDoorOwn3
namespace Go.Proofs.YtppblibcbjpfnaaDoor.L
open Go.RowKit
set_option linter.unusedVariables false
def nine : Array Value := #[.slice none 0 0, .slice none 0 0, .slice none 0 0, .slice none 0 0, .slice none 0 0, .slice none 0 0, .slice none 0 0, .slice none 0 0, .slice none 0 0]
/-- What stands while the rows are written over, one by one. -/
structure InvA (w wr : World) (base B off : Nat) (f : Nat → Value) (M Mx : Nat → List Tn) (p : Nat) : Prop where
  fam : Fam wr base 9 f Mx
  cells : ∀ j, j < 9 → wr.cell? ⟨B, off + j, none⟩ = some (f j)
  len : ∀ j, j < 9 → (Mx j).length = (M j).length
  done : ∀ j, j < p → Mkd (Mx j) j (Mx j).length
  gs : wr.heap[w.heap.size]? = some (.cells nine 26 (0, 0))
  below : Below base w wr
  hB : B < wr.heap.size
  hG : w.heap.size < wr.heap.size
theorem InvA.low {w wr w2 : World} {base B off : Nat} {f : Nat → Value} {M Mx : Nat → List Tn} {p : Nat} (h : InvA w wr base B off f M Mx p) (hb : Below wr.heap.size wr w2) (hbase : base ≤ w.heap.size) : InvA w w2 base B off f M Mx p :=
  ⟨h.fam.low hb, fun j hj => (hb.cell (p := ⟨B, off + j, none⟩) h.hB).trans (h.cells j hj), h.len, h.done, (hb.block _ h.hG).trans h.gs, h.below.trans (hb.mono (Nat.le_trans hbase h.below.size)), Nat.lt_of_lt_of_le h.hB hb.size, Nat.lt_of_lt_of_le h.hG hb.size⟩
theorem InvA.set {w wr : World} {base B off : Nat} {f : Nat → Value} {M Mx : Nat → List Tn} {p : Nat} (h : InvA w wr base B off f M Mx p) {g cp q : Nat} (hp : p < 9) (hf : f p = .slice (some ⟨g, 0, none⟩) (Mx p).length cp) (hq : q < (Mx p).length) (hgB : g ≠ B) (hgG : g ≠ w.heap.size) (hm : Mkd (Mx p) p q) :
    ∃ My, InvA w (put3 wr g (q * 3) (.string (mk3 p q)) (.string sOwn) (.string ⟨#[]⟩)) base B off f M My p ∧ Mkd (My p) p (q + 1) ∧ (My p).length = (Mx p).length := by
  have hbg : base ≤ g := by
    have := (h.fam.own p hp).lt g (by rw [hf]; rfl)
    exact this.1
  refine ⟨_, ⟨h.fam.set hp hf hq (mk3 p q) sOwn ⟨#[]⟩, fun j hj => ?_, fun j hj => ?_, fun j hj => ?_, ?_, below_put3 h.below hbg _ _ _, by rw [put3_size]; exact h.hB, by rw [put3_size]; exact h.hG⟩, ?_, ?_⟩
  · rw [World.cell?_of_block (put3_other wr _ _ _ (Ne.symm hgB))]
    exact h.cells j hj
  · by_cases e : j = p
    · subst e
      simp only [if_true, List.length_set]
      exact h.len j hj
    · simp only [if_neg e]
      exact h.len j hj
  · simp only [if_neg (Nat.ne_of_lt hj)]
    exact h.done j hj
  · rw [put3_other wr _ _ _ (Ne.symm hgG)]
    exact h.gs
  · simp only [if_true]
    exact mkd_next hm hq
  · simp
theorem fam_slice {W : World} {base n p : Nat} {f : Nat → Value} {M : Nat → List Tn} (h : Fam W base n f M) (hp : p < n) : ∃ a cp, f p = .slice a (M p).length cp ∧ (0 < (M p).length → ∃ g, a = some ⟨g, 0, none⟩) := by
  rcases (h.own p hp).2 with ⟨e, h0⟩ | ⟨g, cap, cur, e, _⟩
  · exact ⟨none, 0, by rw [e, h0], fun h => by omega⟩
  · exact ⟨_, cap, e, fun _ => ⟨g, rfl⟩⟩
def sBeh : ByteArray := ⟨#[98, 101, 104, 105, 110, 100]⟩
def BH (p q : Nat) : List Tn := (List.range q).map fun k => (mk3 p k, sBeh, ⟨#[]⟩)
theorem bh_next (p q : Nat) : BH p (q + 1) = BH p q ++ [(mk3 p q, sBeh, ⟨#[]⟩)] := by
  unfold BH
  rw [List.range_succ, List.map_append]
  rfl
theorem bh_len (p q : Nat) : (BH p q).length = q := by simp [BH]
/-- What stands while the rows are grown. -/
structure InvB (w wr : World) (base B off : Nat) (f h : Nat → Value) (Mx : Nat → List Tn) (p : Nat) : Prop where
  fam : Fam wr base 9 f Mx
  cells : ∀ j, j < 9 → wr.cell? ⟨B, off + j, none⟩ = some (f j)
  gs : ∃ cg, wr.heap[w.heap.size]? = some (.cells cg 26 (0, 0)) ∧ cg.size = 9 ∧ ∀ j, j < p → cg[j]? = some (h j)
  own : ∀ j, j < p → OwnT wr base (h j) (Mx j ++ BH j 40)
  off : ∀ j, j < p → ∀ i, i < 9 → i ≠ j → (f i).ownBlock = none ∨ (f i).ownBlock ≠ (h j).ownBlock
  ng : ∀ j, j < p → (h j).ownBlock ≠ some w.heap.size
  below : Below base w wr
  hB : B < wr.heap.size
  hG : w.heap.size < wr.heap.size
theorem InvB.low {w wr w2 : World} {base B off : Nat} {f h : Nat → Value} {Mx : Nat → List Tn} {p : Nat} (i : InvB w wr base B off f h Mx p) (hb : Below wr.heap.size wr w2) (hbase : base ≤ w.heap.size) : InvB w w2 base B off f h Mx p :=
  ⟨i.fam.low hb, fun j hj => (hb.cell (p := ⟨B, off + j, none⟩) i.hB).trans (i.cells j hj), by obtain ⟨cg, h1, h2⟩ := i.gs; exact ⟨cg, (hb.block _ i.hG).trans h1, h2⟩, fun j hj => ownG_low (i.own j hj) hb, i.off, i.ng, i.below.trans (hb.mono (Nat.le_trans hbase i.below.size)), Nat.lt_of_lt_of_le i.hB hb.size, Nat.lt_of_lt_of_le i.hG hb.size⟩
/-- .. and an append to the row that is grown. -/
theorem InvB.app {w wr w' : World} {base B off : Nat} {f h : Nat → Value} {Mx : Nat → List Tn} {p n : Nat} {v : Value} (i : InvB w wr base B off f h Mx p) (hp : p < 9) (hn : (Mx p).length ≤ n) (hbase : base ≤ w.heap.size)
    (hv : v.ownBlock = (f p).ownBlock ∨ ∃ b, v.ownBlock = some b ∧ (∀ j, j < 9 → (f j).ownBlock ≠ some b) ∧ (∀ j, j < p → (h j).ownBlock ≠ some b) ∧ b ≠ B ∧ w.heap.size < b)
    (hfB : (f p).ownBlock ≠ some B) (hfG : (f p).ownBlock ≠ some w.heap.size) (hvb : ∀ b, v.ownBlock = some b → base ≤ b)
    (hg : wr.grownBy w' v.ownBlock) (hst : ∀ b u n0 ys, wr.ownsRow b 23 3 u n0 ys → (n0 ≤ n ∨ u.ownBlock ≠ v.ownBlock) → w'.ownsRow b 23 3 u n0 ys) : InvB w w' base B off f h Mx p := by
  have nB : some B ≠ v.ownBlock := by
    rcases hv with e | ⟨b, e, _, _, h3, _⟩
    · rw [e]; exact fun e => hfB e.symm
    · rw [e]; exact fun e => h3 (Option.some.inj e).symm
  have nG : some w.heap.size ≠ v.ownBlock := by
    rcases hv with e | ⟨b, e, _, _, _, h4⟩
    · rw [e]; exact fun e => hfG e.symm
    · rw [e]; exact fun e => by have := Option.some.inj e; omega
  refine ⟨⟨fun j hj => ?_, i.fam.apart, i.fam.short⟩, fun j hj => ?_, ?_, fun j hj => ?_, i.off, i.ng, i.below.grown hg (Nat.le_trans hbase i.below.size) (fun k e => hvb k e), Nat.lt_of_lt_of_le i.hB hg.size, Nat.lt_of_lt_of_le i.hG hg.size⟩
  · refine hst _ _ _ _ (i.fam.own j hj) ?_
    by_cases e : j = p
    · subst e; exact Or.inl hn
    · rcases hv with e' | ⟨b, e', h1, _⟩
      · rcases i.fam.apart j p hj hp e with h0 | h0
        · by_cases e9 : (f p).ownBlock = none
          · left
            rcases (i.fam.own j hj).2 with ⟨_, hz⟩ | ⟨g, _, _, hv, _⟩
            · rw [hz]; exact Nat.zero_le _
            · rw [hv] at h0; cases h0
          · right; rw [e', h0]; exact fun e => e9 e.symm
        · right; rw [e']; exact h0
      · right; rw [e']; exact h1 j hj
  · exact (World.cell?_of_block (hg.block B i.hB nB)).trans (i.cells j hj)
  · obtain ⟨cg, h1, h2⟩ := i.gs
    exact ⟨cg, (hg.block _ i.hG nG).trans h1, h2⟩
  · refine hst _ _ _ _ (i.own j hj) (Or.inr ?_)
    rcases hv with e' | ⟨b, e', _, h2, _⟩
    · rw [e']
      rcases i.off j hj p hp (by omega) with h0 | h0
      · rw [h0]
        rcases (i.own j hj).2 with ⟨_, hz⟩ | ⟨g, _, _, hv, _⟩
        · rw [List.length_append, bh_len] at hz; omega
        · rw [hv]; exact fun e => by cases e
      · exact fun e => h0 e.symm
    · rw [e']; exact h2 j hj
/-- .. and the grown row put into its place. -/
theorem InvB.put {w wr : World} {base B off : Nat} {f h : Nat → Value} {Mx : Nat → List Tn} {p : Nat} {v : Value} (i : InvB w wr base B off f h Mx p) (hp : p < 9) (hown : OwnT wr base v (Mx p ++ BH p 40)) (hbase : base ≤ w.heap.size) (hBG : B ≠ w.heap.size)
    (hv : v.ownBlock = (f p).ownBlock ∨ ∃ b, v.ownBlock = some b ∧ (∀ j, j < 9 → (f j).ownBlock ≠ some b) ∧ w.heap.size < b) (hfG : ∀ j, j < 9 → (f j).ownBlock ≠ some w.heap.size) :
    InvB w (wr.setCell ⟨w.heap.size, p, none⟩ v) base B off f (fun j => if j = p then v else h j) Mx (p + 1) := by
  have hgr : wr.grownBy (wr.setCell ⟨w.heap.size, p, none⟩ v) (some w.heap.size) := ⟨by rw [Go.Sort.setCell_eq]; rfl, by rw [Go.Sort.setCell_eq]; rfl, by rw [Go.Sort.setCell_eq]; rfl, by rw [set_size]; exact Nat.le_refl _, fun k _ hk => set_other wr v (fun e => hk (by rw [e]))⟩
  have vG : v.ownBlock ≠ some w.heap.size := by
    rcases hv with e | ⟨b, e, _, hb⟩
    · rw [e]; exact hfG p hp
    · rw [e]; exact fun e => by have := Option.some.inj e; omega
  obtain ⟨cg, h1, h2, h3⟩ := i.gs
  refine ⟨⟨fun j hj => (i.fam.own j hj).kept hgr (Or.inr (hfG j hj)), i.fam.apart, i.fam.short⟩, fun j hj => ?_, ⟨_, set_block v h1, by simpa using h2, fun j hj => ?_⟩, fun j hj => ?_, fun j hj k hk hne => ?_, fun j hj => ?_, below_set i.below _ _ _ hbase, by rw [set_size]; exact i.hB, by rw [set_size]; exact i.hG⟩
  · exact (World.cell?_of_block (set_other wr v hBG)).trans (i.cells j hj)
  · rw [Array.getElem?_setIfInBounds]
    by_cases e : p = j
    · subst e
      simp [h2, hp]
    · rw [if_neg e, if_neg (Ne.symm e)]
      exact h3 j (by omega)
  · by_cases e : j = p
    · subst e
      simp only [if_true]
      exact World.ownsRow.kept hown hgr (Or.inr vG)
    · simp only [if_neg e]
      exact World.ownsRow.kept (i.own j (by omega)) hgr (Or.inr (i.ng j (by omega)))
  · by_cases e : j = p
    · subst e
      simp only [if_true]
      rcases hv with e | ⟨b, e, hb, _⟩
      · rw [e]; exact i.fam.apart k j hk hp hne
      · rw [e]; exact Or.inr (hb k hk)
    · simp only [if_neg e]
      exact i.off j (by omega) k hk hne
  · by_cases e : j = p
    · subst e
      simp only [if_true]
      exact vG
    · simp only [if_neg e]
      exact i.ng j (by omega)
theorem own_at {W : World} {base g n cp k : Nat} {l : List Tn} {x y z : ByteArray} (h : OwnT W base (.slice (some ⟨g, 0, none⟩) n cp) l) (hk : l[k]? = some (x, y, z)) : W.cell? ⟨g, k * 3, none⟩ = some (.string x) ∧ W.cell? ⟨g, k * 3 + 1, none⟩ = some (.string y) ∧ W.cell? ⟨g, k * 3 + 2, none⟩ = some (.string z) ∧ g < W.heap.size := by
  obtain ⟨hlt, e⟩ := List.getElem?_eq_some_iff.1 hk
  obtain ⟨a', c', e', hi⟩ := (ownG_came h).items
  injection e' with ea' _ _
  rcases hi with h0 | ⟨b, off, ea, hat⟩
  · omega
  rw [ea] at ea'
  injection ea' with ea'
  injection ea' with e1 e2 _
  subst e1 e2
  have c0 := hat.2 k hlt 0 (by decide)
  have c1 := hat.2 k hlt 1 (by decide)
  have c2 := hat.2 k hlt 2 (by decide)
  rw [e] at c0 c1 c2
  exact ⟨by simpa [tf] using c0, by simpa [tf] using c1, by simpa [tf] using c2, hat.1⟩
theorem bh_at (l : List Tn) (p q k : Nat) (h : k < q) : (l ++ BH p q)[l.length + k]? = some (mk3 p k, sBeh, ⟨#[]⟩) := by
  rw [List.getElem?_append_right (by omega), Nat.add_sub_cancel_left]
  simp [BH, List.getElem?_range h]
end Go.Proofs.YtppblibcbjpfnaaDoor.L
