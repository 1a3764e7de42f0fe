import Derived.WalkKit
import Derived.WalkSpells
import Derived.WalkLawsBesides
import Derived.Handy
import Derived.Test.YtodamoblnlcodaaDoorProg
import Derived.Test.YtodamoblnlcodaaDoorOrd
import Derived.Deep.QuietTactic
import Derived.BigQuiet
import Derived.OwnWalk
import Derived.Laws.AppendOwnNone
namespace Go.Proofs.YtodamoblnlcodaaDoor.L
open Go.RowKit
set_option linter.unusedVariables false
theorem hid {p : Prop} (h : p) : Hid p := h
theorem ret_bool {a b : Bool} (h : a = b) : Ending.returned (.bool a) = .returned (.bool b) := by rw [h]
theorem below_drewN {B : Nat} {a w : World} (h : Below B a w) (n : Nat) : Below B a (w.drewN n) := ⟨h.os, h.tape, h.output, h.size, h.block⟩
def ky (l : List Lb) (j : Nat) : ByteArray := (l.getD j (ByteArray.empty, ByteArray.empty)).1
def vl (l : List Lb) (j : Nat) : ByteArray := (l.getD j (ByteArray.empty, ByteArray.empty)).2
theorem kv_get (l : List Lb) (j : Nat) (h : j < l.length) : l[j] = (ky l j, vl l j) := by
  unfold ky vl
  simp [h]
theorem kv_mem (l : List Lb) (j : Nat) (h : j < l.length) : (ky l j, vl l j) ∈ l := by
  rw [← kv_get l j h]
  exact List.getElem_mem h
theorem mem_kv {l : List Lb} {x : Lb} (h : x ∈ l) : ∃ j, j < l.length ∧ x = (ky l j, vl l j) := by
  obtain ⟨j, hj, e⟩ := List.getElem_of_mem h
  exact ⟨j, hj, by rw [← e, kv_get l j hj]⟩
theorem take_kv (l : List Lb) (k : Nat) (h : k < l.length) : l.take (k + 1) = l.take k ++ [(ky l k, vl l k)] := by
  rw [List.take_succ_eq_append_getElem h, kv_get l k h]
/-- The list lies in the world. -/
def Items (W : World) (v : Value) (l : List Lb) : Prop := ∃ a cap, v = .slice a l.length cap ∧ (l.length = 0 ∨ ∃ b off, a = some ⟨b, off, none⟩ ∧ b < W.heap.size ∧ ∀ j, j < l.length → W.cell? ⟨b, off + j * 2, none⟩ = some (.string (ky l j)) ∧ W.cell? ⟨b, off + j * 2 + 1, none⟩ = some (.string (vl l j)))
/-- What every list that came in is. -/
def Good (l : List Lb) : Prop := (l.length ≤ maxLen ∧ l.length * 32 ≤ 140737488351232) ∧ ∀ x ∈ l, x.1.size ≤ maxLen ∧ x.2.size ≤ maxLen
theorem Good.at {l : List Lb} (h : Good l) (j : Nat) (hj : j < l.length) : (ky l j).size ≤ maxLen ∧ (vl l j).size ≤ maxLen := h.2 _ (kv_mem l j hj)
theorem Good.sub {l l' : List Lb} (h : Good l) (hl : l'.length ≤ l.length) (hs : ∀ x ∈ l', x ∈ l) : Good l' := ⟨⟨Nat.le_trans hl h.1.1, by have := h.1.2; omega⟩, fun x hx => h.2 x (hs x hx)⟩
theorem Items.low {W W' : World} {v : Value} {l : List Lb} (h : Items W v l) (hb : Below W.heap.size W W') : Items W' v l := by
  obtain ⟨a, cap, rfl, h⟩ := h
  refine ⟨a, cap, rfl, ?_⟩
  rcases h with h | ⟨b, off, rfl, hl, hc⟩
  · exact Or.inl h
  · refine Or.inr ⟨b, off, rfl, Nat.lt_of_lt_of_le hl hb.size, fun j hj => ?_⟩
    rw [hb.cell (p := ⟨b, off + j * 2, none⟩) hl, hb.cell (p := ⟨b, off + j * 2 + 1, none⟩) hl]
    exact hc j hj
theorem infoL : (Tryd.prog.info? 27).map (fun i => (i.zero, i.size, i.bytes)) = some (some (.agg #[.string ByteArray.empty, .string ByteArray.empty]), 2, 32) := by kernel_rfl
def cellsF (l : List Lb) : List Value := l.flatMap fun x => [.string x.1, .string x.2]
theorem cellsF_at (l : List Lb) : ∀ j, j < l.length → (cellsF l)[j * 2]? = some (.string (ky l j)) ∧ (cellsF l)[j * 2 + 1]? = some (.string (vl l j)) := by
  induction l with
  | nil => intro j hj; simp at hj
  | cons x l ih =>
    intro j hj
    cases j with
    | zero => simp [cellsF, ky, vl]
    | succ j =>
      have := ih j (by simp at hj; omega)
      rw [show (j + 1) * 2 = j * 2 + 2 by omega, show j * 2 + 2 + 1 = j * 2 + 1 + 2 by omega]
      simpa [cellsF, ky, vl] using this
theorem cellsF_len (l : List Lb) : (cellsF l).length = l.length * 2 := by
  induction l with
  | nil => rfl
  | cons x l ih => simp [cellsF] at ih ⊢; omega
theorem cellsF_get (l : List Lb) (j : Nat) (u : Value) (h : (cellsF l)[j]? = some u) : j < l.length * 2 ∧ u = if j % 2 = 0 then .string (ky l (j / 2)) else .string (vl l (j / 2)) := by
  have hj : j < l.length * 2 := by
    apply Classical.byContradiction
    intro n
    rw [List.getElem?_eq_none (by rw [cellsF_len]; omega)] at h
    cases h
  refine ⟨hj, ?_⟩
  obtain ⟨a1, a2⟩ := cellsF_at l (j / 2) (by omega)
  by_cases e : j % 2 = 0
  · rw [show j / 2 * 2 = j by omega, h] at a1
    rw [if_pos e]
    exact Option.some.inj a1
  · rw [show j / 2 * 2 + 1 = j by omega, h] at a2
    rw [if_neg e]
    exact Option.some.inj a2
theorem cellsF_one (l : List Lb) : ∀ u ∈ cellsF l, u.oneCell' = true := by
  intro u hu
  obtain ⟨j, hj⟩ := List.getElem?_of_mem hu
  obtain ⟨_, rfl⟩ := cellsF_get l j u hj
  split <;> rfl
theorem cellsF_snoc (l : List Lb) (x : Lb) : cellsF (l ++ [x]) = cellsF l ++ [.string x.1, .string x.2] := by
  unfold cellsF
  simp
theorem cellsF_app (l c : List Lb) : cellsF (l ++ c) = cellsF l ++ cellsF c := by
  unfold cellsF
  simp
/-- The source's cells. -/
theorem cellsF_src (l : List Lb) (w : World) (b off : Nat) (hc : ∀ j, j < l.length → w.cell? ⟨b, off + j * 2, none⟩ = some (.string (ky l j)) ∧ w.cell? ⟨b, off + j * 2 + 1, none⟩ = some (.string (vl l j))) :
    ∀ j u, (cellsF l)[j]? = some u → w.cell? ((⟨b, off, none⟩ : Addr).add j) = some u := by
  intro j u hu
  obtain ⟨hj, rfl⟩ := cellsF_get l j u hu
  rw [Go.WideShapes.add_plain]
  obtain ⟨c0, c1⟩ := hc (j / 2) (by omega)
  by_cases e : j % 2 = 0
  · rw [if_pos e, ← c0]
    congr 2
    omega
  · rw [if_neg e, ← c1]
    congr 2
    omega
/-- A list that its maker owns. -/
def Own (W : World) (base : Nat) (v : Value) (l : List Lb) : Prop := W.ownsRow base 27 2 v l.length (cellsF l)
theorem own_snoc {w : World} {base : Nat} {v : Value} {l : List Lb} {x : Lb} (h : w.ownsRow base 27 2 v (l.length + 1) (cellsF l ++ [.string x.1, .string x.2])) : Own w base v (l ++ [x]) := by
  unfold Own
  rw [cellsF_snoc, List.length_append]
  exact h
theorem own_low {w w' : World} {base : Nat} {v : Value} {l : List Lb} (h : Own w base v l) (hb : Below w.heap.size w w') : Own w' base v l := by
  obtain ⟨h1, h2⟩ := h
  refine ⟨h1, ?_⟩
  rcases h2 with h2 | ⟨g, cap, cur, hv, hg, hh, r⟩
  · exact Or.inl h2
  · refine Or.inr ⟨g, cap, cur, hv, hg, ?_, r⟩
    have hlt : g < w.heap.size := by
      apply Classical.byContradiction
      intro n
      rw [Array.getElem?_eq_none (by omega)] at hh
      cases hh
    rw [hb.block g hlt]
    exact hh
theorem own_base {w : World} {base : Nat} {e : TypeId} {size n : Nat} {v : Value} {xs : List Value} (h : w.ownsRow base e size v n xs) : ∀ k, v.ownBlock = some k → base ≤ k := fun k hk => (h.lt k hk).1
theorem own_items {w : World} {base : Nat} {v : Value} {l : List Lb} (h : Own w base v l) : Items w v l := by
  obtain ⟨h1, h2⟩ := h
  rcases h2 with ⟨rfl, hz⟩ | ⟨g, cap, cur, rfl, hb, hh, hle, hm, hs, ht⟩
  · exact ⟨none, 0, by rw [hz], Or.inl hz⟩
  · refine ⟨_, cap, rfl, ?_⟩
    by_cases hz : l.length = 0
    · exact Or.inl hz
    · have hlt : g < w.heap.size := by
        apply Classical.byContradiction
        intro n
        rw [Array.getElem?_eq_none (by omega)] at hh
        cases hh
      refine Or.inr ⟨g, 0, rfl, hlt, fun j hj => ?_⟩
      have key : ∀ k u, (cellsF l)[k]? = some u → w.cell? ⟨g, k, none⟩ = some u := by
        intro k u hu
        have hk := (cellsF_get l k u hu).1
        rw [← ht, List.getElem?_take] at hu
        rw [if_pos (by omega)] at hu
        simp [World.cell?, hh]
        simpa using hu
      obtain ⟨a1, a2⟩ := cellsF_at l j hj
      have r1 := key _ _ a1
      have r2 := key _ _ a2
      exact ⟨by simpa using r1, by simpa using r2⟩
/-- What came in is a list of its cells, or nil. -/
def Came (W : World) (v : Value) (l : List Lb) : Prop := (v = .slice none 0 0 ∧ l = []) ∨ ∃ a cap, v = .slice (some a) l.length cap ∧ (l.length ≤ cap ∧ cap ≤ maxLen) ∧ (l.length = 0 ∨ ∃ b off, a = ⟨b, off, none⟩ ∧ b < W.heap.size ∧ ∀ j, j < l.length → W.cell? ⟨b, off + j * 2, none⟩ = some (.string (ky l j)) ∧ W.cell? ⟨b, off + j * 2 + 1, none⟩ = some (.string (vl l j)))
theorem Came.items {W : World} {v : Value} {l : List Lb} (h : Came W v l) : Items W v l := by
  rcases h with ⟨rfl, rfl⟩ | ⟨a, cap, rfl, _, h⟩
  · exact ⟨none, 0, rfl, Or.inl rfl⟩
  · refine ⟨some a, cap, rfl, ?_⟩
    rcases h with h | ⟨b, off, rfl, h1, h2⟩
    · exact Or.inl h
    · exact Or.inr ⟨b, off, rfl, h1, h2⟩
theorem Came.low {W W' : World} {v : Value} {l : List Lb} (h : Came W v l) (hb : Below W.heap.size W W') : Came W' v l := by
  rcases h with h | ⟨a, cap, rfl, hcap, h⟩
  · exact Or.inl h
  · refine Or.inr ⟨a, cap, rfl, hcap, ?_⟩
    rcases h with h | ⟨b, off, rfl, hl, hc⟩
    · exact Or.inl h
    · refine Or.inr ⟨b, off, rfl, Nat.lt_of_lt_of_le hl hb.size, fun j hj => ?_⟩
      rw [hb.cell (p := ⟨b, off + j * 2, none⟩) hl, hb.cell (p := ⟨b, off + j * 2 + 1, none⟩) hl]
      exact hc j hj
theorem own_came {w : World} {base : Nat} {v : Value} {l : List Lb} (h : Own w base v l) : Came w v l := by
  have hs := own_items h
  obtain ⟨h1, h2⟩ := h
  rcases h2 with ⟨rfl, hz⟩ | ⟨g, cap, cur, rfl, _, _, hle, hm, _⟩
  · exact Or.inl ⟨rfl, List.length_eq_zero_iff.1 hz⟩
  · obtain ⟨a', cap', e, h'⟩ := hs
    cases e
    refine Or.inr ⟨_, _, rfl, ⟨hle, hm⟩, ?_⟩
    rcases h' with h' | ⟨b, off, e, r⟩
    · exact Or.inl h'
    · cases e
      exact Or.inr ⟨_, _, rfl, r⟩
theorem cell_two_at (w : World) (b : Nat) (x y : Value) (t : TypeId) (hb : b = w.heap.size) : ∀ (j : Nat) (u : Value), [x, y][j]? = some u → (w.alloc (.cells #[x, y] t)).cell? ((⟨b, 0, none⟩ : Addr).add j) = some u := by
  subst hb
  intro j u hu
  rw [Go.WideShapes.add_plain]
  have h : (w.alloc (.cells #[x, y] t)).heap[w.heap.size]? = some (.cells #[x, y] t) := by
    show (w.heap.push _)[w.heap.size]? = _
    simp
  unfold World.cell?
  rw [h]
  match j, hu with
  | 0, hu => simpa using hu
  | 1, hu => simpa using hu
  | n + 2, hu => simp at hu
theorem belowA (w : World) (o : Obj) : Below w.heap.size w (w.alloc o) := (Below.refl _ _).alloc (Nat.le_refl _) _
end Go.Proofs.YtodamoblnlcodaaDoor.L
