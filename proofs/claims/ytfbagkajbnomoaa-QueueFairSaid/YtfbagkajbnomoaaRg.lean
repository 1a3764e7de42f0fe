import Derived.WalkKit
import Derived.WalkSpells
import Derived.WalkLawsBesides
import Derived.Handy
import Derived.OwnWalk
import Derived.Laws.MakeOwn
import Derived.Sort.Row
import Derived.Laws.AppendOwnNone
namespace Go.Proofs.Ytfbagkajbnomoaa.Rg
open Go.RowKit
set_option linter.unusedVariables false
set_option linter.unusedSimpArgs false
/-! Rows of structs of so many cells each, any kind: pure, read, owned. -/
def rowX {α : Type} (inj : α → Array Value) (l : List α) : List Value := l.flatMap fun x => (inj x).toList
theorem rowX_nil {α : Type} {inj : α → Array Value} : rowX inj [] = [] := rfl
theorem rowX_cons {α : Type} {inj : α → Array Value} (x : α) (l : List α) : rowX inj (x :: l) = (inj x).toList ++ rowX inj l := rfl
theorem rowX_app {α : Type} {inj : α → Array Value} (l m : List α) : rowX inj (l ++ m) = rowX inj l ++ rowX inj m := by simp [rowX]
theorem rowX_snoc {α : Type} {inj : α → Array Value} (l : List α) (x : α) : rowX inj (l ++ [x]) = rowX inj l ++ (inj x).toList := by simp [rowX]
theorem rowX_len {α : Type} {inj : α → Array Value} {sz : Nat} (hs : ∀ x, (inj x).size = sz) (l : List α) : (rowX inj l).length = l.length * sz := by
  induction l with
  | nil => simp [rowX]
  | cons x r ih => rw [rowX_cons, List.length_append, ih, Array.length_toList, hs, List.length_cons, Nat.succ_mul, Nat.add_comm]
theorem rowX_get {α : Type} [Inhabited α] {inj : α → Array Value} {sz : Nat} (hs : ∀ x, (inj x).size = sz) (l : List α) : ∀ (j q : Nat), j < l.length → q < sz → (rowX inj l)[j * sz + q]? = (inj (l.getD j default)).toList[q]? := by
  induction l with
  | nil => intro j q h; cases h
  | cons x r ih =>
    intro j q hj hq
    rw [rowX_cons]
    cases j with
    | zero =>
      rw [Nat.zero_mul, Nat.zero_add, List.getElem?_append_left (by rw [Array.length_toList, hs]; exact hq)]
      rfl
    | succ j =>
      have e : (j + 1) * sz + q = (inj x).toList.length + (j * sz + q) := by rw [Array.length_toList, hs, Nat.succ_mul]; omega
      rw [e, List.getElem?_append_right (Nat.le_add_right _ _), Nat.add_sub_cancel_left, ih j q (by simpa using hj) hq]
      rfl
theorem rowX_at {α : Type} [Inhabited α] {inj : α → Array Value} {sz : Nat} (hs : ∀ x, (inj x).size = sz) (l : List α) {j q : Nat} (hj : j < l.length) (hq : q < sz) : (rowX inj l)[j * sz + q]? = some ((inj (l.getD j default)).getD q undef) := by
  rw [rowX_get hs l j q hj hq]
  have h : q < (inj (l.getD j default)).size := by rw [hs]; exact hq
  rw [Array.getElem?_toList, Array.getD_eq_getD_getElem?, Array.getElem?_eq_getElem h]
  rfl
/-- One cell of one element is written. -/
theorem rowX_set {α : Type} [Inhabited α] {inj : α → Array Value} {sz : Nat} (hs : ∀ x, (inj x).size = sz) (l : List α) : ∀ (j q : Nat) (v : Value) (y : α), j < l.length → q < sz → inj y = (inj (l.getD j default)).setIfInBounds q v → (rowX inj l).set (j * sz + q) v = rowX inj (l.set j y) := by
  induction l with
  | nil => intro j q v y h; cases h
  | cons x r ih =>
    intro j q v y hj hq hy
    cases j with
    | zero =>
      rw [rowX_cons, Nat.zero_mul, Nat.zero_add, List.set_append_left _ _ (by rw [Array.length_toList, hs]; exact hq)]
      show _ = (inj y).toList ++ rowX inj r
      rw [hy, Array.toList_setIfInBounds]
      rfl
    | succ j =>
      have e : (j + 1) * sz + q = (inj x).toList.length + (j * sz + q) := by rw [Array.length_toList, hs, Nat.succ_mul]; omega
      rw [rowX_cons, e, List.set_append_right _ _ (Nat.le_add_right _ _), Nat.add_sub_cancel_left, ih j q v y (by simpa using hj) hq hy]
      rfl
theorem rowX_one {α : Type} {inj : α → Array Value} (h1 : ∀ x, ∀ u ∈ (inj x).toList, u.oneCell' = true) (l : List α) : ∀ u ∈ rowX inj l, u.oneCell' = true := by
  intro u hu
  unfold rowX at hu
  rw [List.mem_flatMap] at hu
  obtain ⟨x, _, hu⟩ := hu
  exact h1 x u hu
/-- Elements that can be read. -/
def RdG {α : Type} [Inhabited α] (inj : α → Array Value) (sz : Nat) (W : World) (a : Option Addr) (l : List α) : Prop := l.length = 0 ∨ ∃ b off, a = some ⟨b, off, none⟩ ∧ b < W.heap.size ∧ ∀ j, j < l.length → ∀ q, q < sz → W.cell? ⟨b, off + j * sz + q, none⟩ = some ((inj (l.getD j default)).getD q undef)
theorem RdG.low {α : Type} [Inhabited α] {inj : α → Array Value} {sz : Nat} {W W' : World} {a : Option Addr} {l : List α} (h : RdG inj sz W a l) (k : Below W.heap.size W W') : RdG inj sz W' a l := by
  rcases h with h | ⟨b, off, rfl, hb, hc⟩
  · exact Or.inl h
  · exact Or.inr ⟨b, off, rfl, Nat.lt_of_lt_of_le hb k.size, fun j hj q hq => (k.cell (p := ⟨b, off + j * sz + q, none⟩) hb).trans (hc j hj q hq)⟩
theorem own_rdg {α : Type} [Inhabited α] {inj : α → Array Value} {sz : Nat} (hs : ∀ x, (inj x).size = sz) (hz : 0 < sz) {W : World} {base n : Nat} {e : TypeId} {v : Value} {l : List α} (h : W.ownsRow base e sz v n (rowX inj l)) : n = l.length ∧ ∃ a ca, v = .slice a l.length ca ∧ RdG inj sz W a l := by
  have hn : n = l.length := by
    have h1 := h.1
    rw [rowX_len hs] at h1
    exact Nat.eq_of_mul_eq_mul_right hz h1.symm
  refine ⟨hn, ?_⟩
  subst hn
  rcases h.2 with ⟨rfl, h0⟩ | ⟨g, cap, cur, rfl, _, hg, _, _, hc, ht⟩
  · exact ⟨none, 0, by rw [h0], Or.inl h0⟩
  · have hlt : g < W.heap.size := by
      apply Classical.byContradiction
      intro k
      rw [Array.getElem?_eq_none (by omega)] at hg
      cases hg
    refine ⟨_, _, rfl, Or.inr ⟨g, 0, rfl, hlt, fun j hj q hq => ?_⟩⟩
    have h5 := h.cells (g := g) rfl (j * sz + q) _ (rowX_at hs l hj hq)
    rw [Go.WideShapes.add_plain] at h5
    rw [Nat.add_assoc]
    exact h5
/-- What an append of them wants. -/
theorem rdg_news {α : Type} [Inhabited α] {inj : α → Array Value} {sz : Nat} (hs : ∀ x, (inj x).size = sz) (hz : 0 < sz) {W : World} {xa : Option Addr} {l : List α} (h : RdG inj sz W xa l) : ∀ ad, xa = some ad → ∀ j u, (rowX inj l)[j]? = some u → W.cell? (ad.add j) = some u := by
  intro ad e j u hu
  have hj : j < l.length * sz := by
    by_cases hj : j < (rowX inj l).length
    · rw [rowX_len hs] at hj; exact hj
    · rw [List.getElem?_eq_none (by omega)] at hu; cases hu
  rcases h with h0 | ⟨b, off, e', hb, hc⟩
  · rw [h0, Nat.zero_mul] at hj; omega
  · rw [e] at e'
    cases e'
    have hq : j % sz < sz := Nat.mod_lt _ hz
    have hk : j / sz < l.length := Nat.div_lt_of_lt_mul (by rw [Nat.mul_comm]; exact hj)
    have ej : j = j / sz * sz + j % sz := by rw [Nat.mul_comm]; exact (Nat.div_add_mod j sz).symm
    have h1 := hc (j / sz) hk (j % sz) hq
    have h2 := rowX_at hs l hk hq
    rw [← ej, hu] at h2
    injection h2 with h2
    rw [Go.WideShapes.add_plain, h2]
    rw [Nat.add_assoc, ← ej] at h1
    exact h1
/-- One cell of a row of one's own is written. -/
theorem own_setG {α : Type} [Inhabited α] {inj : α → Array Value} {sz : Nat} (hs : ∀ x, (inj x).size = sz) {W : World} {base g cp j q : Nat} {e : TypeId} {l : List α} (v : Value) (y : α) (h : W.ownsRow base e sz (.slice (some ⟨g, 0, none⟩) l.length cp) l.length (rowX inj l)) (hj : j < l.length) (hq : q < sz) (hy : inj y = (inj (l.getD j default)).setIfInBounds q v) :
    (W.setCell ⟨g, j * sz + q, none⟩ v).ownsRow base e sz (.slice (some ⟨g, 0, none⟩) l.length cp) l.length (rowX inj (l.set j y)) := by
  rcases h.2 with ⟨e1, _⟩ | ⟨g', cap', cur, e1, hb, hg, hnc, hcm, hcs, htake⟩
  · cases e1
  injection e1 with e1 _ e3
  injection e1 with e1
  injection e1 with e1 _ _
  subst e1 e3
  have hblk : (W.setCell ⟨g, j * sz + q, none⟩ v).heap[g]? = some (.cells (cur.setIfInBounds (j * sz + q) v) e (0, 0)) := by
    rw [setCell_eq_setRow _ _ _ _ _ _ _ hg, setRow_heap _ _ _ _ _ _ hg]
  refine ⟨by rw [rowX_len hs, List.length_set], Or.inr ⟨g, cp, _, rfl, hb, hblk, hnc, hcm, by simpa using hcs, ?_⟩⟩
  rw [← rowX_set hs l j q v y hj hq hy, ← htake]
  simp only [Array.toList_setIfInBounds, List.take_set]
end Go.Proofs.Ytfbagkajbnomoaa.Rg
