import Derived.Test.YtodamoblnlcodaaDoorWlk
namespace Go.Proofs.YtodamoblnlcodaaDoor.L
open Go.RowKit
set_option linter.unusedVariables false
theorem cellsD_cons (d : Df) (L : List Df) : cellsD (d :: L) = [.string d.k, .string d.o, .string d.n, .bool d.had, .bool d.has] ++ cellsD L := by simp [cellsD]
theorem cellsD_len (L : List Df) : (cellsD L).length = L.length * 5 := by
  induction L with
  | nil => rfl
  | cons d L ih => rw [cellsD_cons, List.length_append, ih]; simp; omega
theorem cellsD_at (L : List Df) : ∀ (j : Nat) (hj : j < L.length) (i : Nat) (u : Value), [Value.string L[j].k, .string L[j].o, .string L[j].n, .bool L[j].had, .bool L[j].has][i]? = some u → (cellsD L)[j * 5 + i]? = some u := by
  induction L with
  | nil => intro j hj; cases hj
  | cons d L ih =>
    intro j hj i u hu
    rw [cellsD_cons]
    cases j with
    | zero =>
      have hi : i < 5 := by
        apply Classical.byContradiction
        intro n
        rw [List.getElem?_eq_none (by simp; omega)] at hu
        cases hu
      rw [List.getElem?_append_left (by simp; omega)]
      simpa using hu
    | succ j =>
      rw [List.getElem?_append_right (by simp; omega)]
      have := ih j (by simpa using hj) i u (by simpa using hu)
      rw [← this]
      congr 1
      simp
      omega
/-- A list of differences in memory. -/
def ItemsD (W : World) (v : Value) (L : List Df) : Prop := ∃ a cap, v = .slice a L.length cap ∧ (L.length = 0 ∨ ∃ b off, a = some ⟨b, off, none⟩ ∧ b < W.heap.size ∧ ∀ j (hj : j < L.length), W.cell? ⟨b, off + j * 5, none⟩ = some (.string L[j].k) ∧ W.cell? ⟨b, off + j * 5 + 1, none⟩ = some (.string L[j].o) ∧ W.cell? ⟨b, off + j * 5 + 2, none⟩ = some (.string L[j].n) ∧ W.cell? ⟨b, off + j * 5 + 3, none⟩ = some (.bool L[j].had) ∧ W.cell? ⟨b, off + j * 5 + 4, none⟩ = some (.bool L[j].has))
theorem own_itemsD {w : World} {base : Nat} {v : Value} {L : List Df} (h : w.ownsRow base 35 5 v L.length (cellsD L)) : ItemsD w v L := by
  obtain ⟨h1, h2⟩ := h
  rcases h2 with ⟨rfl, hz⟩ | ⟨g, cap, cur, rfl, hb, hh, hle, hm, hs, ht⟩
  · exact ⟨none, 0, by rw [hz], Or.inl hz⟩
  · refine ⟨_, cap, rfl, ?_⟩
    by_cases hz : L.length = 0
    · exact Or.inl hz
    · have hlt : g < w.heap.size := by
        apply Classical.byContradiction
        intro n
        rw [Array.getElem?_eq_none (by omega)] at hh
        cases hh
      refine Or.inr ⟨g, 0, rfl, hlt, fun j hj => ?_⟩
      have key : ∀ k u, (cellsD L)[k]? = some u → w.cell? ⟨g, k, none⟩ = some u := by
        intro k u hu
        have hk : k < L.length * 5 := by
          apply Classical.byContradiction
          intro n
          rw [List.getElem?_eq_none (by rw [cellsD_len]; omega)] at hu
          cases hu
        rw [← ht, List.getElem?_take] at hu
        rw [if_pos (by omega)] at hu
        simp [World.cell?, hh]
        simpa using hu
      have a := cellsD_at L j hj
      refine ⟨?_, ?_, ?_, ?_, ?_⟩
      · simpa using key _ _ (a 0 _ rfl)
      · simpa using key _ _ (a 1 _ rfl)
      · simpa using key _ _ (a 2 _ rfl)
      · simpa using key _ _ (a 3 _ rfl)
      · simpa using key _ _ (a 4 _ rfl)
end Go.Proofs.YtodamoblnlcodaaDoor.L
