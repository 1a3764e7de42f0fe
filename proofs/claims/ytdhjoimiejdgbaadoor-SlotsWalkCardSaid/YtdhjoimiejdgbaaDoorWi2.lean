import Derived.Test.YtdhjoimiejdgbaaDoorWim
namespace Go.Proofs.YtdhjoimiejdgbaaDoor.L
open Go.RowKit Bs Go.Maps Go.Shelf
set_option linter.unusedVariables false
theorem Ls.grown {base bo : Nat} {ps : List Sn} {A B : World} {row : Option Nat} (h : Ls base bo ps A) (hg : A.grownBy B row) (hr : ∀ r, row = some r → ∃ o : Obj, A.heap[r]? = some o ∧ o.isCells = false) : Ls base bo ps B := by
  obtain ⟨u, h1, h2⟩ := h
  refine ⟨u, h1.kept hg (fun e => ?_), own_stays h2 (fun g hg' => hg.block g (h2.lt g hg').2 (fun e => ?_))⟩
  · obtain ⟨o, ho, hc⟩ := hr _ e.symm
    rw [show A.heap[bo]? = _ from h1] at ho
    cases ho
    cases hc
  · obtain ⟨o, ho, hc⟩ := hr g e.symm
    obtain ⟨_, cur, hh⟩ := own_kind h2 hg'
    rw [hh] at ho
    cases ho
    cases hc
theorem bx_grown {L : List Nat} {W A B : World} {row : Option Nat} (h : Bx L W.heap.size W A) (hg : A.grownBy B row) (hr : ∀ r, row = some r → W.heap.size ≤ r) : Bx L W.heap.size W B := h.grown hg h.size (fun k e => Or.inr (hr k e))
theorem keeps_bx {base : Nat} {L : List Nat} {W W' : World} (hx : Bx L W.heap.size W W') (h : ∀ k ∈ L, ∃ cur t f, W.heap[k]? = some (.cells cur t f)) : KeepsFrom base W W' :=
  ⟨hx.size, fun k o _ h1 h2 => (hx.block k (lt_of_block h1) (fun c => by
    obtain ⟨cur, t, f, e⟩ := h k c
    rw [e] at h1
    cases h1
    cases h2)).trans h1⟩
/-- One more pair in a list whose row has been laid since the walk began. -/
theorem app_walk {W W1 w4 : World} {Bo bb n m : Nat} {v v' : Value} {pre pre' : List Sn} {tmp : Obj} (hB : Bx [Bo] W.heap.size W W1) (hv : Boxed W1 Bo 90 v) (hrow : W1.ownsRow W.heap.size 92 2 v pre.length (cellsP pre))
    (hown' : w4.ownsRow W.heap.size 92 2 v' pre'.length (cellsP pre')) (hgrow : (W1.alloc tmp).grownBy w4 v.ownBlock) (hbb : bb < W.heap.size ∧ bb ≠ Bo) :
    Boxed w4 Bo 90 v ∧ Boxed (w4.setCell ⟨Bo, 0, none⟩ v') Bo 90 v' ∧ KeepsFrom W.heap.size W1 (w4.setCell ⟨Bo, 0, none⟩ v') ∧ Mid bb (bb + 1) W1 (w4.setCell ⟨Bo, 0, none⟩ v') ∧ Bx [Bo] W.heap.size W (w4.setCell ⟨Bo, 0, none⟩ v') ∧ Ls W.heap.size Bo pre' (w4.setCell ⟨Bo, 0, none⟩ v') := by
  obtain ⟨y1, y2, y3, y4⟩ := app_all hv hrow hown' hgrow
  have hL : ∀ k ∈ Bo :: v.ownBlock.toList, k = Bo ∨ W.heap.size ≤ k := fun k hk => by
    rcases List.mem_cons.1 hk with e | hk
    · exact Or.inl e
    · exact Or.inr (own_kind hrow (Option.mem_toList.1 hk)).1
  have hs := hB.size
  refine ⟨y1, y2, keeps_bx y4 (fun k hk => ?_), ⟨y4.size, fun k h1 h2 => y4.block k (by omega) (fun c => ?_)⟩, hB.trans (y4.mono hs (fun k hk => ?_)), ⟨v', y2, y3⟩⟩
  · rcases List.mem_cons.1 hk with rfl | hk
    · exact ⟨_, _, _, hv⟩
    · obtain ⟨cur, e⟩ := (own_kind hrow (Option.mem_toList.1 hk)).2
      exact ⟨cur, _, _, e⟩
  · rcases hL k c with e | e <;> omega
  · rcases hL k hk with e | e
    · exact Or.inl (by rw [e]; simp)
    · exact Or.inr e
end Go.Proofs.YtdhjoimiejdgbaaDoor.L
