import Derived.Test.YtnclpdgbjefpmaaE6
namespace Go.Proofs.Ytnclpdgbjefpmaa.L
open Go.RowKit
set_option linter.unusedVariables false
set_option linter.unusedSimpArgs false
/-- Rows of one's own, each in a block of its own. -/
structure Rws {α : Type} (W : World) (base : Nat) (e : TypeId) (inj : α → Value) (l : List (List α)) (vs : List Value) : Prop where
  len : vs.length = l.length
  row : ∀ j, j < l.length → W.ownsRow base e 1 (vs.getD j undef) (l.getD j []).length ((l.getD j []).map inj)
  few : ∀ j, j < l.length → (l.getD j []).length ≤ 1000
  sep : ∀ i j, i < j → j < l.length → ∀ k, (vs.getD i undef).ownBlock = some k → (vs.getD j undef).ownBlock ≠ some k
theorem Rws.nil {α : Type} (W : World) (base : Nat) (e : TypeId) (inj : α → Value) : Rws W base e inj [] [] :=
  ⟨rfl, fun j h => absurd h (Nat.not_lt_zero j), fun j h => absurd h (Nat.not_lt_zero j), fun i j _ h => absurd h (Nat.not_lt_zero j)⟩
theorem Rws.gb {α : Type} {W W' : World} {base g : Nat} {e : TypeId} {inj : α → Value} {l : List (List α)} {vs : List Value} (h : Rws W base e inj l vs) (k : Gb g W W') (hb : g < base) : Rws W' base e inj l vs :=
  ⟨h.len, fun j hj => row_gb (h.row j hj) k hb, h.few, h.sep⟩
theorem Rws.low {α : Type} {W W' : World} {base : Nat} {e : TypeId} {inj : α → Value} {l : List (List α)} {vs : List Value} (h : Rws W base e inj l vs) (k : Below W.heap.size W W') : Rws W' base e inj l vs :=
  ⟨h.len, fun j hj => (h.row j hj).kept (row := none) ⟨k.os, k.tape, k.output, k.size, fun b hb _ => k.block b hb⟩ (by cases hv : (vs.getD j undef).ownBlock <;> simp), h.few, h.sep⟩
theorem row_blk {W : World} {base n size : Nat} {e : TypeId} {v : Value} {xs : List Value} (h : W.ownsRow base e size v n xs) {k : Nat} (hk : v.ownBlock = some k) : ∃ cur, W.heap[k]? = some (.cells cur e (0, 0)) := by
  rcases h.2 with ⟨rfl, _⟩ | ⟨g, cap, cur, rfl, _, hg, _⟩
  · simp [Value.ownBlock] at hk
  · simp [Value.ownBlock] at hk
    subst hk
    exact ⟨cur, hg⟩
theorem row_ne {W : World} {b1 b2 n1 n2 s1 s2 : Nat} {e1 e2 : TypeId} {v1 v2 : Value} {x1 x2 : List Value} (h1 : W.ownsRow b1 e1 s1 v1 n1 x1) (h2 : W.ownsRow b2 e2 s2 v2 n2 x2) (hne : e1 ≠ e2) : v1.ownBlock = none ∨ v1.ownBlock ≠ v2.ownBlock := by
  cases hv : v1.ownBlock with
  | none => exact Or.inl rfl
  | some k =>
    refine Or.inr (fun he => ?_)
    obtain ⟨c1, g1⟩ := row_blk h1 hv
    obtain ⟨c2, g2⟩ := row_blk h2 he.symm
    rw [g1] at g2
    injection g2 with g2
    injection g2 with _ g2
    exact hne g2
theorem Rws.grow {α : Type} {W W' : World} {base b2 n2 s2 : Nat} {e e2 : TypeId} {inj : α → Value} {l : List (List α)} {vs : List Value} {v : Value} {xs : List Value} (h : Rws W base e inj l vs) (hv : W.ownsRow b2 e2 s2 v n2 xs) (hne : e ≠ e2) (k : W.grownBy W' v.ownBlock) : Rws W' base e inj l vs :=
  ⟨h.len, fun j hj => (h.row j hj).kept k (row_ne (h.row j hj) hv hne), h.few, h.sep⟩
theorem getD_snoc_lt {α : Type} (l : List α) (x d : α) {j : Nat} (h : j < l.length) : (l ++ [x]).getD j d = l.getD j d := by
  rw [List.getD_eq_getElem?_getD, List.getD_eq_getElem?_getD, List.getElem?_append_left h]
theorem getD_snoc_eq {α : Type} (l : List α) (x d : α) {j : Nat} (h : j = l.length) : (l ++ [x]).getD j d = x := by
  subst h
  rw [List.getD_eq_getElem?_getD, List.getElem?_append_right (Nat.le_refl _), Nat.sub_self]
  rfl
theorem Rws.snoc {α : Type} {W : World} {base b' : Nat} {e : TypeId} {inj : α → Value} {l : List (List α)} {vs : List Value} {vx : Value} {x : List α} (h : Rws W base e inj l vs) (hx : W.ownsRow b' e 1 vx x.length (x.map inj)) (hb : base ≤ b') (hlt : ∀ j, j < l.length → ∀ k, (vs.getD j undef).ownBlock = some k → k < b') (hf : x.length ≤ 1000) : Rws W base e inj (l ++ [x]) (vs ++ [vx]) := by
  have hlen := h.len
  refine ⟨by simp [hlen], fun j hj => ?_, fun j hj => ?_, fun i j hij hj k hi => ?_⟩
  · by_cases hj' : j < l.length
    · rw [getD_snoc_lt vs vx undef (by omega), getD_snoc_lt l x [] hj']
      exact h.row j hj'
    · have : j = l.length := by simp at hj; omega
      rw [getD_snoc_eq vs vx undef (by omega), getD_snoc_eq l x [] this]
      exact row_base hx hb
  · by_cases hj' : j < l.length
    · rw [getD_snoc_lt l x [] hj']
      exact h.few j hj'
    · have : j = l.length := by simp at hj; omega
      rw [getD_snoc_eq l x [] this]
      exact hf
  · by_cases hj' : j < l.length
    · rw [getD_snoc_lt vs vx undef (by omega)] at hi ⊢
      exact h.sep i j hij hj' k hi
    · have : j = l.length := by simp at hj; omega
      rw [getD_snoc_lt vs vx undef (by omega)] at hi
      rw [getD_snoc_eq vs vx undef (by omega)]
      intro hk
      have h1 := hlt i (by omega) k hi
      have h2 := (hx.lt k hk).1
      omega
theorem own_form {W : World} {base n : Nat} {e : TypeId} {v : Value} {xs : List Value} (h : W.ownsRow base e 1 v n xs) : ∃ a ca, v = .slice a n ca ∧ RdV W a xs := by
  rcases h.2 with ⟨rfl, rfl⟩ | ⟨g, cap, cur, rfl, _, hg, _, _, hc, ht⟩
  · refine ⟨none, 0, rfl, Or.inl ?_⟩
    have := h.1
    omega
  · refine ⟨_, _, rfl, Or.inr ⟨g, 0, rfl, lt_blk hg, fun j hj => ?_⟩⟩
    have hx := h.1
    have h5 := h.cells (g := g) rfl j (xs.getD j undef) (by rw [List.getD_eq_getElem?_getD, List.getElem?_eq_getElem hj]; rfl)
    rw [Go.WideShapes.add_plain] at h5
    simpa using h5
/-- A list of lists in memory of its own. -/
def Rw2 {α : Type} (W : World) (base : Nat) (E e : TypeId) (inj : α → Value) (v : Value) (l : List (List α)) : Prop := ∃ vs, W.ownsRow base E 1 v l.length vs ∧ Rws W base e inj l vs
theorem set_few_s {B : List UInt8} {k k' : Nat} {x : List ByteArray} (hk : k ≤ B.length) (h : setC.P B k = .ok (x, k')) : x.length ≤ 1000 :=
  (((lst_D textC ltS 1 1000 (by decide) x).1 (setC.bwd hk h).1)).2.1
theorem set_few_i {B : List UInt8} {k k' : Nat} {x : List Int} (hk : k ≤ B.length) (h : nsetC.P B k = .ok (x, k')) : x.length ≤ 1000 :=
  (((lst_D sgnC ltI 1 1000 (by decide) x).1 (nsetC.bwd hk h).1)).2.1
end Go.Proofs.Ytnclpdgbjefpmaa.L
