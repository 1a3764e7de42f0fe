import Derived.Test.YtnlohjcjboelgaaPair
namespace Go.Proofs.Ytnlohjcjboelgaa.L
open Go.RowKit
set_option linter.unusedVariables false
def pn (l : List Pr) (j : Nat) : ByteArray := (l.getD j (ByteArray.empty, 0, 0)).1
def px (l : List Pr) (j : Nat) : Int := (l.getD j (ByteArray.empty, 0, 0)).2.1
def py (l : List Pr) (j : Nat) : Int := (l.getD j (ByteArray.empty, 0, 0)).2.2
/-- The pairs, as they lie. -/
theorem pairs_cells {w : World} {base : Nat} {v : Value} {l : List Pr} (h : w.ownsRow base 58 3 v l.length (cellsP l)) : ∃ a cap, v = .slice a l.length cap ∧ (l.length = 0 ∨ ∃ b, a = some ⟨b, 0, none⟩ ∧ b < w.heap.size ∧ ∀ j, j < l.length → w.cell? ⟨b, j * 3, none⟩ = some (.string (pn l j)) ∧ w.cell? ⟨b, j * 3 + 1, none⟩ = some (.int .i64 (px l j)) ∧ w.cell? ⟨b, j * 3 + 2, none⟩ = some (.int .i64 (py l j))) := by
  obtain ⟨h1, h2⟩ := h
  rcases h2 with ⟨rfl, hz⟩ | ⟨g, cap, cur, rfl, hb, hh, hle, hm, hs, ht⟩
  · exact ⟨none, 0, by rw [hz], Or.inl hz⟩
  · refine ⟨_, cap, rfl, ?_⟩
    by_cases hz : l.length = 0
    · exact Or.inl hz
    have hlt : g < w.heap.size := by
      apply Classical.byContradiction
      intro n
      rw [Array.getElem?_eq_none (by omega)] at hh
      cases hh
    refine Or.inr ⟨g, rfl, hlt, fun j hj => ?_⟩
    have key : ∀ k u, (cellsP l)[k]? = some u → w.cell? ⟨g, k, none⟩ = some u := by
      intro k u hu
      have hk : k < (cellsP l).length := by
        apply Classical.byContradiction
        intro n
        rw [List.getElem?_eq_none (by omega)] at hu
        cases hu
      rw [← ht, List.getElem?_take] at hu
      rw [h1] at hk
      rw [if_pos hk] at hu
      unfold World.cell?
      rw [hh]
      simpa using hu
    have at3 : ∀ (l : List Pr) (j : Nat), j < l.length → (cellsP l)[j * 3]? = some (.string (pn l j)) ∧ (cellsP l)[j * 3 + 1]? = some (.int .i64 (px l j)) ∧ (cellsP l)[j * 3 + 2]? = some (.int .i64 (py l j)) := by
      intro l
      induction l with
      | nil => intro j hj; simp at hj
      | cons x l ih =>
        intro j hj
        cases j with
        | zero => simp [cellsP, pn, px, py]
        | succ j =>
          have := ih j (by simp at hj; omega)
          rw [show (j + 1) * 3 = j * 3 + 3 by omega, show j * 3 + 3 + 1 = j * 3 + 1 + 3 by omega, show j * 3 + 3 + 2 = j * 3 + 2 + 3 by omega]
          simpa [cellsP, pn, px, py] using this
    obtain ⟨e0, e1, e2⟩ := at3 l j hj
    exact ⟨key _ _ e0, key _ _ e1, key _ _ e2⟩
/-- The sums of n pairs from the k-th on, up to the first that is too great. -/
def overAt (l : List Pr) : Nat → Nat → Option Nat
  | 0, _ => none
  | n + 1, k => if px l k > 9223372036854775807 - py l k then some k else overAt l n (k + 1)
def sums (l : List Pr) : List It := l.map fun x => (x.1, x.2.1 + x.2.2)
def underAt (l : List Pr) : Nat → Nat → Option Nat
  | 0, _ => none
  | n + 1, k => if px l k < py l k then some k else underAt l n (k + 1)
def diffs (l : List Pr) : List It := (l.filter fun x => decide (x.2.2 < x.2.1)).map fun x => (x.1, x.2.1 - x.2.2)
theorem overAt_step (l : List Pr) (len k : Nat) (h : k < len) : overAt l (len - k) k = if px l k > 9223372036854775807 - py l k then some k else overAt l (len - (k + 1)) (k + 1) := by
  obtain ⟨n, hn⟩ : ∃ n, len - k = n + 1 := ⟨len - k - 1, by omega⟩
  rw [hn, show len - (k + 1) = n by omega]
  rfl
theorem underAt_step (l : List Pr) (len k : Nat) (h : k < len) : underAt l (len - k) k = if px l k < py l k then some k else underAt l (len - (k + 1)) (k + 1) := by
  obtain ⟨n, hn⟩ : ∃ n, len - k = n + 1 := ⟨len - k - 1, by omega⟩
  rw [hn, show len - (k + 1) = n by omega]
  rfl
theorem getD_pr (l : List Pr) (k : Nat) (h : k < l.length) : l.getD k (ByteArray.empty, 0, 0) = l[k] := by simp [h]
theorem sums_take (l : List Pr) (k : Nat) (h : k < l.length) : sums (l.take (k + 1)) = sums (l.take k) ++ [(pn l k, px l k + py l k)] := by
  unfold sums pn px py
  rw [List.take_succ_eq_append_getElem h, List.map_append, getD_pr l k h]
  rfl
theorem diffs_yes (l : List Pr) (k : Nat) (h : k < l.length) (c : py l k < px l k) : diffs (l.take (k + 1)) = diffs (l.take k) ++ [(pn l k, px l k - py l k)] := by
  unfold pn px py at *
  unfold diffs
  rw [getD_pr l k h] at *
  rw [List.take_succ_eq_append_getElem h, List.filter_append, List.map_append]
  congr 1
  rw [List.filter_cons_of_pos (by simpa using c)]
  rfl
theorem diffs_no (l : List Pr) (k : Nat) (h : k < l.length) (c : ¬ py l k < px l k) : diffs (l.take (k + 1)) = diffs (l.take k) := by
  unfold px py at *
  unfold diffs
  rw [getD_pr l k h] at *
  rw [List.take_succ_eq_append_getElem h, List.filter_append, List.filter_cons_of_neg (by simpa using c)]
  simp
def cellsF (l : List It) : List Value := l.flatMap fun x => [.string x.1, .int .i64 x.2]
theorem cellsF_at (l : List It) : ∀ j, j < l.length → (cellsF l)[j * 2]? = some (.string (nm l j)) ∧ (cellsF l)[j * 2 + 1]? = some (.int .i64 (am l j)) := by
  induction l with
  | nil => intro j hj; simp at hj
  | cons x l ih =>
    intro j hj
    cases j with
    | zero => simp [cellsF, nm, am]
    | succ j =>
      have := ih j (by simp at hj; omega)
      rw [show (j + 1) * 2 = j * 2 + 2 by omega, show j * 2 + 2 + 1 = j * 2 + 1 + 2 by omega]
      simpa [cellsF, nm, am] using this
theorem cellsF_len (l : List It) : (cellsF l).length = l.length * 2 := by
  induction l with
  | nil => rfl
  | cons x l ih => simp [cellsF] at ih ⊢; omega
theorem cellsF_eq (l : List It) : cellsF l = cellsL l := by
  apply List.ext_getElem?
  intro i
  by_cases hi : i < l.length * 2
  · obtain ⟨a1, a2⟩ := cellsF_at l (i / 2) (by omega)
    obtain ⟨b1, b2⟩ := cellsL_at l (i / 2) (by omega)
    by_cases e : i % 2 = 0
    · rw [show i / 2 * 2 = i by omega] at a1 b1
      rw [a1, b1]
    · rw [show i / 2 * 2 + 1 = i by omega] at a2 b2
      rw [a2, b2]
  · rw [List.getElem?_eq_none (by rw [cellsF_len]; omega), List.getElem?_eq_none (by rw [cellsL_len]; omega)]
theorem cellsF_snoc (l : List It) (x : It) : cellsF (l ++ [x]) = cellsF l ++ [.string x.1, .int .i64 x.2] := by
  unfold cellsF
  simp
theorem ownF_snoc {w : World} {base : Nat} {v : Value} {l : List It} {x : It} {t : TypeId} (h : w.ownsRow base t 2 v (l.length + 1) (cellsF l ++ [.string x.1, .int .i64 x.2])) : w.ownsRow base t 2 v (l ++ [x]).length (cellsF (l ++ [x])) := by
  rw [cellsF_snoc, List.length_append]
  exact h
theorem cell_two_new' (w : World) (x y : Value) (t : TypeId) : ∀ (j : Nat) (u : Value), [x, y][j]? = some u → (w.alloc (.cells #[x, y] t)).cell? ((⟨w.heap.size, 0, none⟩ : Addr).add j) = some u := by
  intro j u hu
  rw [Go.WideShapes.add_plain]
  have h : (w.alloc (.cells #[x, y] t)).heap[w.heap.size]? = some (.cells #[x, y] t) := by
    show (w.heap.push _)[w.heap.size]? = _
    simp
  unfold World.cell?
  rw [h]
  match j, hu with
  | 0, hu => simpa using hu
  | 1, hu => simpa using hu
  | n + 2, hu => simp at hu
end Go.Proofs.Ytnlohjcjboelgaa.L
