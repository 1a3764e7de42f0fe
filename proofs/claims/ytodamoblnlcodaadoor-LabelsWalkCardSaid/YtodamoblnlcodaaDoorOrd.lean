import Derived.WalkKit
namespace Go.Proofs.YtodamoblnlcodaaDoor.L
set_option linter.unusedVariables false
abbrev Lb := ByteArray × ByteArray
theorem less_irrefl (x : List UInt8) : Op.bytesLess x x = false := by
  induction x with
  | nil => rfl
  | cons a x ih => simp [Op.bytesLess, ih]
theorem less_total (x y : List UInt8) : Op.bytesLess x y = true ∨ x = y ∨ Op.bytesLess y x = true := by
  induction x generalizing y with
  | nil => cases y with
    | nil => exact Or.inr (Or.inl rfl)
    | cons b y => exact Or.inl rfl
  | cons a x ih => cases y with
    | nil => exact Or.inr (Or.inr rfl)
    | cons b y =>
      simp only [Op.bytesLess, Bool.or_eq_true, Bool.and_eq_true, decide_eq_true_eq, beq_iff_eq, List.cons.injEq]
      by_cases h1 : a < b
      · exact Or.inl (Or.inl h1)
      · by_cases h2 : b < a
        · exact Or.inr (Or.inr (Or.inl h2))
        · have e : a = b := by
            rw [UInt8.lt_iff_toNat_lt] at h1 h2
            exact UInt8.toNat_inj.1 (by omega)
          rcases ih y with h | h | h
          · exact Or.inl (Or.inr ⟨e, h⟩)
          · exact Or.inr (Or.inl ⟨e, h⟩)
          · exact Or.inr (Or.inr (Or.inr ⟨e.symm, h⟩))
theorem less_trans (x y z : List UInt8) (h1 : Op.bytesLess x y = true) (h2 : Op.bytesLess y z = true) : Op.bytesLess x z = true := by
  induction x generalizing y z with
  | nil => cases z with
    | nil => cases y <;> simp [Op.bytesLess] at h2
    | cons c z => rfl
  | cons a x ih => cases y with
    | nil => simp [Op.bytesLess] at h1
    | cons b y => cases z with
      | nil => simp [Op.bytesLess] at h2
      | cons c z =>
        simp only [Op.bytesLess, Bool.or_eq_true, Bool.and_eq_true, decide_eq_true_eq, beq_iff_eq] at h1 h2 ⊢
        rw [UInt8.lt_iff_toNat_lt] at h1 h2 ⊢
        rcases h1 with h1 | ⟨rfl, h1⟩ <;> rcases h2 with h2 | ⟨rfl, h2⟩
        · exact Or.inl (by omega)
        · exact Or.inl h1
        · exact Or.inl h2
        · exact Or.inr ⟨rfl, ih y z h1 h2⟩
theorem less_asymm (x y : List UInt8) (h : Op.bytesLess x y = true) : Op.bytesLess y x = false ∧ (x == y) = false ∧ (y == x) = false := by
  refine ⟨?_, ?_, ?_⟩
  · cases e : Op.bytesLess y x
    · rfl
    · have := less_trans x y x h e
      rw [less_irrefl] at this
      cases this
  · simp
    rintro rfl
    rw [less_irrefl] at h
    cases h
  · simp
    rintro rfl
    rw [less_irrefl] at h
    cases h
theorem bytes_toList (s : ByteArray) : s.toList = s.data.toList := by
  exact ByteArray.toList_eq s
theorem bytes_ext {s t : ByteArray} (h : s.toList = t.toList) : s = t := by
  rw [bytes_toList, bytes_toList] at h
  cases s; cases t
  simp at h
  rw [h]
def Lt (x y : Lb) : Prop := Op.bytesLess x.1.toList y.1.toList = true
/-- A list whose keys rise. -/
def Up (l : List Lb) : Prop := l.Pairwise Lt
theorem lt_trans {x y z : Lb} (h : Lt x y) (h' : Lt y z) : Lt x z := less_trans _ _ _ h h'
theorem lt_irrefl {x : Lb} (h : Lt x x) : False := by
  unfold Lt at h
  rw [less_irrefl] at h
  cases h
theorem up_unique {a b : List Lb} (ha : Up a) (hb : Up b) (h : ∀ x, x ∈ a ↔ x ∈ b) : a = b := by
  induction a generalizing b with
  | nil => cases b with
    | nil => rfl
    | cons y b => exact absurd ((h y).2 (by simp)) (by simp)
  | cons x a ih => cases b with
    | nil => exact absurd ((h x).1 (by simp)) (by simp)
    | cons y b =>
      obtain ⟨a1, a2⟩ := List.pairwise_cons.1 ha
      obtain ⟨b1, b2⟩ := List.pairwise_cons.1 hb
      have e : x = y := by
        rcases List.mem_cons.1 ((h x).1 (by simp)) with e | e
        · exact e
        · rcases List.mem_cons.1 ((h y).2 (by simp)) with f | f
          · exact f.symm
          · exact (lt_irrefl (lt_trans (a1 y f) (b1 x e))).elim
      subst e
      rw [ih a2 b2 fun z => ?_]
      constructor
      · intro hz
        rcases List.mem_cons.1 ((h z).1 (by simp [hz])) with e | e
        · rw [e] at hz
          exact (lt_irrefl (a1 _ hz)).elim
        · exact e
      · intro hz
        rcases List.mem_cons.1 ((h z).2 (by simp [hz])) with e | e
        · rw [e] at hz
          exact (lt_irrefl (b1 _ hz)).elim
        · exact e
/-- Two of a rising list with one key are one. -/
theorem up_key {l : List Lb} (h : Up l) {x y : Lb} (hx : x ∈ l) (hy : y ∈ l) (e : x.1 = y.1) : x = y := by
  induction l with
  | nil => simp at hx
  | cons z l ih =>
    obtain ⟨h1, h2⟩ := List.pairwise_cons.1 h
    have no : ∀ {u : Lb}, u ∈ l → z.1 = u.1 → False := fun {u} hu e => by
      have := h1 u hu
      unfold Lt at this
      rw [e, less_irrefl] at this
      cases this
    rcases List.mem_cons.1 hx with hx | hx <;> rcases List.mem_cons.1 hy with hy | hy
    · rw [hx, hy]
    · exact (no hy (by rw [← hx]; exact e)).elim
    · exact (no hx (by rw [← hy]; exact e.symm)).elim
    · exact ih h2 hx hy
end Go.Proofs.YtodamoblnlcodaaDoor.L
