import Derived.WalkKit
import Derived.WalkSpells
import Derived.WalkLawsBesides
import Derived.Handy
import Derived.Deep.QuietTactic
import Derived.BigQuiet
import Derived.OwnWalk
import Derived.Laws.AppendOwnNone
namespace Go.Proofs.YtppblibcbjpfnaaDoor.L
open Go.RowKit
set_option linter.unusedVariables false
theorem hid {p : Prop} (h : p) : Hid p := h
theorem ret_bool {a b : Bool} (h : a = b) : Ending.returned (.bool a) = .returned (.bool b) := by rw [h]
theorem below_drewN {B : Nat} {a w : World} (h : Below B a w) (n : Nat) : Below B a (w.drewN n) := ⟨h.os, h.tape, h.output, h.size, h.block⟩
theorem belowA (w : World) (o : Obj) : Below w.heap.size w (w.alloc o) := (Below.refl _ _).alloc (Nat.le_refl _) _
/-- The cells of a row of things with m texts each. -/
def cellsG {α : Type} (m : Nat) (f : α → Nat → ByteArray) (l : List α) : List Value := l.flatMap fun x => (List.range m).map fun i => .string (f x i)
theorem cellsG_len {α : Type} (m : Nat) (f : α → Nat → ByteArray) (l : List α) : (cellsG m f l).length = l.length * m := by
  induction l with
  | nil => simp [cellsG]
  | cons x l ih =>
    simp [cellsG] at ih ⊢
    rw [Nat.add_mul]
    omega
theorem cellsG_cons {α : Type} (m : Nat) (f : α → Nat → ByteArray) (x : α) (l : List α) : cellsG m f (x :: l) = ((List.range m).map fun i => Value.string (f x i)) ++ cellsG m f l := by
  simp [cellsG]
theorem cellsG_app {α : Type} (m : Nat) (f : α → Nat → ByteArray) (l c : List α) : cellsG m f (l ++ c) = cellsG m f l ++ cellsG m f c := by
  simp [cellsG]
theorem cellsG_at {α : Type} (m : Nat) (f : α → Nat → ByteArray) (l : List α) : ∀ j (hj : j < l.length) i, i < m → (cellsG m f l)[j * m + i]? = some (.string (f l[j] i)) := by
  induction l with
  | nil => intro j hj; simp at hj
  | cons x l ih =>
    intro j hj i hi
    rw [cellsG_cons]
    cases j with
    | zero =>
      rw [List.getElem?_append_left (by simpa using hi)]
      simp [hi]
    | succ j =>
      rw [List.getElem?_append_right (by simp [Nat.add_mul]; omega)]
      have := ih j (by simpa using hj) i hi
      simp only [List.length_map, List.length_range]
      rw [show (j + 1) * m + i - m = j * m + i by rw [Nat.add_mul]; omega]
      simpa using this
theorem cellsG_get {α : Type} (m : Nat) (f : α → Nat → ByteArray) (l : List α) (j : Nat) (u : Value) (h : (cellsG m f l)[j]? = some u) : ∃ (hj : j / m < l.length), j % m < m ∧ u = .string (f l[j / m] (j % m)) := by
  have hlt : j < l.length * m := by
    apply Classical.byContradiction
    intro n
    rw [List.getElem?_eq_none (by rw [cellsG_len]; omega)] at h
    cases h
  have hm : 0 < m := by
    rcases Nat.eq_zero_or_pos m with e | e
    · subst e; omega
    · exact e
  have h1 : j / m < l.length := Nat.div_lt_of_lt_mul (by rw [Nat.mul_comm]; exact hlt)
  have h2 := cellsG_at m f l (j / m) h1 (j % m) (Nat.mod_lt _ hm)
  rw [Nat.div_add_mod' j m, h] at h2
  exact ⟨h1, Nat.mod_lt _ hm, Option.some.inj h2⟩
theorem cellsG_one {α : Type} (m : Nat) (f : α → Nat → ByteArray) (l : List α) : ∀ u ∈ cellsG m f l, u.oneCell' = true := by
  intro u hu
  obtain ⟨j, hj⟩ := List.getElem?_of_mem hu
  obtain ⟨_, _, rfl⟩ := cellsG_get m f l j u hj
  rfl
/-- What lies in the world at a place. -/
def At {α : Type} (m : Nat) (f : α → Nat → ByteArray) (W : World) (b off : Nat) (l : List α) : Prop := b < W.heap.size ∧ ∀ j (hj : j < l.length) i, i < m → W.cell? ⟨b, off + j * m + i, none⟩ = some (.string (f l[j] i))
/-- A list that came in, or nil. -/
def CameG {α : Type} (m : Nat) (f : α → Nat → ByteArray) (W : World) (v : Value) (l : List α) : Prop := (v = .slice none 0 0 ∧ l = []) ∨ ∃ a cap, v = .slice (some a) l.length cap ∧ (l.length ≤ cap ∧ cap ≤ maxLen) ∧ (l.length = 0 ∨ ∃ b off, a = ⟨b, off, none⟩ ∧ At m f W b off l)
theorem At.low {α : Type} {m : Nat} {f : α → Nat → ByteArray} {W W' : World} {b off : Nat} {l : List α} (h : At m f W b off l) (hb : Below W.heap.size W W') : At m f W' b off l := by
  refine ⟨Nat.lt_of_lt_of_le h.1 hb.size, fun j hj i hi => ?_⟩
  rw [hb.cell (p := ⟨b, off + j * m + i, none⟩) h.1]
  exact h.2 j hj i hi
theorem CameG.low {α : Type} {m : Nat} {f : α → Nat → ByteArray} {W W' : World} {v : Value} {l : List α} (h : CameG m f W v l) (hb : Below W.heap.size W W') : CameG m f W' v l := by
  rcases h with h | ⟨a, cap, rfl, hcap, h⟩
  · exact Or.inl h
  · refine Or.inr ⟨a, cap, rfl, hcap, ?_⟩
    rcases h with h | ⟨b, off, rfl, h⟩
    · exact Or.inl h
    · exact Or.inr ⟨b, off, rfl, h.low hb⟩
theorem At.src {α : Type} {m : Nat} {f : α → Nat → ByteArray} {W : World} {b off : Nat} {l : List α} (h : At m f W b off l) : ∀ j u, (cellsG m f l)[j]? = some u → W.cell? ((⟨b, off, none⟩ : Addr).add j) = some u := by
  intro j u hu
  obtain ⟨h1, h2, rfl⟩ := cellsG_get m f l j u hu
  rw [Go.WideShapes.add_plain, ← h.2 _ h1 _ h2, Nat.add_assoc, Nat.div_add_mod' j m]
/-- A list that its maker owns. -/
def OwnG {α : Type} (t : TypeId) (m : Nat) (f : α → Nat → ByteArray) (W : World) (base : Nat) (v : Value) (l : List α) : Prop := W.ownsRow base t m v l.length (cellsG m f l)
theorem ownG_low {α : Type} {t : TypeId} {m : Nat} {f : α → Nat → ByteArray} {w w' : World} {base : Nat} {v : Value} {l : List α} (h : OwnG t m f w base v l) (hb : Below w.heap.size w w') : OwnG t m f w' base v l := by
  obtain ⟨h1, h2⟩ := h
  refine ⟨h1, ?_⟩
  rcases h2 with h2 | ⟨g, cap, cur, hv, hg, hh, r⟩
  · exact Or.inl h2
  · refine Or.inr ⟨g, cap, cur, hv, hg, ?_, r⟩
    have hlt : g < w.heap.size := by
      apply Classical.byContradiction
      intro n
      rw [Array.getElem?_eq_none (by omega)] at hh
      cases hh
    rw [hb.block g hlt]
    exact hh
theorem own_base {w : World} {base : Nat} {e : TypeId} {size n : Nat} {v : Value} {xs : List Value} (h : w.ownsRow base e size v n xs) : ∀ k, v.ownBlock = some k → base ≤ k := fun k hk => (h.lt k hk).1
theorem ownG_came {α : Type} {t : TypeId} {m : Nat} {f : α → Nat → ByteArray} {w : World} {base : Nat} {v : Value} {l : List α} (h : OwnG t m f w base v l) : CameG m f w v l := by
  obtain ⟨h1, h2⟩ := h
  rcases h2 with ⟨rfl, hz⟩ | ⟨g, cap, cur, rfl, hb, hh, hle, hm, hs, ht⟩
  · exact Or.inl ⟨rfl, List.length_eq_zero_iff.1 hz⟩
  · refine Or.inr ⟨_, cap, rfl, ⟨hle, hm⟩, ?_⟩
    by_cases hz : l.length = 0
    · exact Or.inl hz
    · have hlt : g < w.heap.size := by
        apply Classical.byContradiction
        intro n
        rw [Array.getElem?_eq_none (by omega)] at hh
        cases hh
      refine Or.inr ⟨g, 0, rfl, hlt, fun j hj i hi => ?_⟩
      have hu := cellsG_at m f l j hj i hi
      have hk : j * m + i < l.length * m := by
        have : (j + 1) * m ≤ l.length * m := Nat.mul_le_mul_right m hj
        rw [Nat.add_mul] at this
        omega
      rw [← ht, List.getElem?_take, if_pos hk] at hu
      simp [World.cell?, hh]
      simpa using hu
/-- A list, to be read. -/
def ItemsG {α : Type} (m : Nat) (f : α → Nat → ByteArray) (W : World) (v : Value) (l : List α) : Prop := ∃ a cap, v = .slice a l.length cap ∧ (l.length = 0 ∨ ∃ b off, a = some ⟨b, off, none⟩ ∧ At m f W b off l)
theorem CameG.items {α : Type} {m : Nat} {f : α → Nat → ByteArray} {W : World} {v : Value} {l : List α} (h : CameG m f W v l) : ItemsG m f W v l := by
  rcases h with ⟨rfl, rfl⟩ | ⟨a, cap, rfl, _, h⟩
  · exact ⟨none, 0, rfl, Or.inl rfl⟩
  · refine ⟨some a, cap, rfl, ?_⟩
    rcases h with h | ⟨b, off, rfl, h⟩
    · exact Or.inl h
    · exact Or.inr ⟨b, off, rfl, h⟩
theorem ItemsG.low {α : Type} {m : Nat} {f : α → Nat → ByteArray} {W W' : World} {v : Value} {l : List α} (h : ItemsG m f W v l) (hb : Below W.heap.size W W') : ItemsG m f W' v l := by
  obtain ⟨a, cap, rfl, h⟩ := h
  refine ⟨a, cap, rfl, ?_⟩
  rcases h with h | ⟨b, off, rfl, h⟩
  · exact Or.inl h
  · exact Or.inr ⟨b, off, rfl, h.low hb⟩
/-- What every list that came in is. -/
def GoodG {α : Type} (m : Nat) (f : α → Nat → ByteArray) (l : List α) : Prop := (l.length ≤ maxLen ∧ l.length * (m * 16) ≤ 140737488351232) ∧ ∀ x ∈ l, ∀ i, i < m → (f x i).size ≤ maxLen
theorem GoodG.sub {α : Type} {m : Nat} {f : α → Nat → ByteArray} {l l' : List α} (h : GoodG m f l) (hl : l'.length ≤ l.length) (hs : ∀ x ∈ l', x ∈ l) : GoodG m f l' := ⟨⟨Nat.le_trans hl h.1.1, Nat.le_trans (Nat.mul_le_mul_right _ hl) h.1.2⟩, fun x hx => h.2 x (hs x hx)⟩
end Go.Proofs.YtppblibcbjpfnaaDoor.L
