import Derived.Test.YtppblibcbjpfnaaDoorCpy
namespace Go.Proofs.YtppblibcbjpfnaaDoor.L
set_option linter.unusedVariables false
theorem less_irrefl (x : List UInt8) : Op.bytesLess x x = false := by
  induction x with
  | nil => rfl
  | cons a x ih => simp [Op.bytesLess, ih]
theorem less_total (x y : List UInt8) : Op.bytesLess x y = true ∨ x = y ∨ Op.bytesLess y x = true := by
  induction x generalizing y with
  | nil => cases y with
    | nil => exact Or.inr (Or.inl rfl)
    | cons b y => exact Or.inl rfl
  | cons a x ih => cases y with
    | nil => exact Or.inr (Or.inr rfl)
    | cons b y =>
      simp only [Op.bytesLess, Bool.or_eq_true, Bool.and_eq_true, decide_eq_true_eq, beq_iff_eq, List.cons.injEq]
      by_cases h1 : a < b
      · exact Or.inl (Or.inl h1)
      · by_cases h2 : b < a
        · exact Or.inr (Or.inr (Or.inl h2))
        · have e : a = b := by
            rw [UInt8.lt_iff_toNat_lt] at h1 h2
            exact UInt8.toNat_inj.1 (by omega)
          rcases ih y with h | h | h
          · exact Or.inl (Or.inr ⟨e, h⟩)
          · exact Or.inr (Or.inl ⟨e, h⟩)
          · exact Or.inr (Or.inr (Or.inr ⟨e.symm, h⟩))
theorem less_trans (x y z : List UInt8) (h1 : Op.bytesLess x y = true) (h2 : Op.bytesLess y z = true) : Op.bytesLess x z = true := by
  induction x generalizing y z with
  | nil => cases z with
    | nil => cases y <;> simp [Op.bytesLess] at h2
    | cons c z => rfl
  | cons a x ih => cases y with
    | nil => simp [Op.bytesLess] at h1
    | cons b y => cases z with
      | nil => simp [Op.bytesLess] at h2
      | cons c z =>
        simp only [Op.bytesLess, Bool.or_eq_true, Bool.and_eq_true, decide_eq_true_eq, beq_iff_eq] at h1 h2 ⊢
        rw [UInt8.lt_iff_toNat_lt] at h1 h2 ⊢
        rcases h1 with h1 | ⟨rfl, h1⟩ <;> rcases h2 with h2 | ⟨rfl, h2⟩
        · exact Or.inl (by omega)
        · exact Or.inl h1
        · exact Or.inl h2
        · exact Or.inr ⟨rfl, ih y z h1 h2⟩
theorem less_asymm (x y : List UInt8) (h : Op.bytesLess x y = true) : Op.bytesLess y x = false ∧ (x == y) = false ∧ (y == x) = false := by
  refine ⟨?_, ?_, ?_⟩
  · cases e : Op.bytesLess y x
    · rfl
    · have := less_trans x y x h e
      rw [less_irrefl] at this
      cases this
  · simp
    rintro rfl
    rw [less_irrefl] at h
    cases h
  · simp
    rintro rfl
    rw [less_irrefl] at h
    cases h
/-- How two texts stand to one another. -/
def cmpS (x y : ByteArray) : Int := if Op.bytesLess x.toList y.toList = true then -1 else if Op.bytesLess y.toList x.toList = true then 1 else 0
/-- The order of taints: by key, then by effect. -/
def ordI (a b : Tn) : Int := if cmpS a.1 b.1 = 0 then cmpS a.2.2 b.2.2 else cmpS a.1 b.1
/-- Ahead of it in the order. -/
def tltB (a b : Tn) : Bool := Op.bytesLess a.1.toList b.1.toList || (eqS a.1 b.1 && Op.bytesLess a.2.2.toList b.2.2.toList)
theorem cmpS_zero {x y : ByteArray} : cmpS x y = 0 ↔ x = y := by
  unfold cmpS
  constructor
  · intro h
    rcases less_total x.toList y.toList with g | g | g
    · rw [if_pos g] at h; cases h
    · exact bytes_ext g
    · rw [if_neg (by rw [(less_asymm _ _ g).1]; decide), if_pos g] at h; cases h
  · rintro rfl
    rw [less_irrefl]
    rfl
theorem cmpS_neg (x y : ByteArray) : decide (cmpS x y < 0) = Op.bytesLess x.toList y.toList := by
  unfold cmpS
  cases h : Op.bytesLess x.toList y.toList
  · rw [if_neg (by decide)]
    split <;> decide
  · rw [if_pos rfl]
    decide
theorem ord_neg (a b : Tn) : decide (ordI a b < 0) = tltB a b := by
  unfold ordI tltB
  by_cases h : cmpS a.1 b.1 = 0
  · rw [if_pos h, cmpS_neg]
    have e := cmpS_zero.1 h
    rw [e, less_irrefl, eqS_iff.2 rfl]
    simp
  · rw [if_neg h, cmpS_neg]
    have e : eqS a.1 b.1 = false := eqS_ne.2 (fun e => h (cmpS_zero.2 e))
    rw [e]
    simp
theorem tlt_irrefl (a : Tn) : tltB a a = false := by
  unfold tltB
  rw [less_irrefl, less_irrefl]
  simp
theorem tlt_trans (a b c : Tn) (h1 : tltB a b = true) (h2 : tltB b c = true) : tltB a c = true := by
  unfold tltB at *
  simp only [Bool.or_eq_true, Bool.and_eq_true, eqS_iff] at *
  rcases h1 with h1 | ⟨e1, h1⟩ <;> rcases h2 with h2 | ⟨e2, h2⟩
  · exact Or.inl (less_trans _ _ _ h1 h2)
  · rw [← e2]; exact Or.inl h1
  · rw [e1]; exact Or.inl h2
  · exact Or.inr ⟨e1.trans e2, less_trans _ _ _ h1 h2⟩
theorem tlt_total (a b : Tn) : tltB a b = true ∨ (a.1 = b.1 ∧ a.2.2 = b.2.2) ∨ tltB b a = true := by
  unfold tltB
  simp only [Bool.or_eq_true, Bool.and_eq_true, eqS_iff]
  rcases less_total a.1.toList b.1.toList with h | h | h
  · exact Or.inl (Or.inl h)
  · have e := bytes_ext h
    rcases less_total a.2.2.toList b.2.2.toList with g | g | g
    · exact Or.inl (Or.inr ⟨e, g⟩)
    · exact Or.inr (Or.inl ⟨e, bytes_ext g⟩)
    · exact Or.inr (Or.inr (Or.inr ⟨e.symm, g⟩))
  · exact Or.inr (Or.inr (Or.inl h))
/-- One key and one effect. -/
def sameK (a b : Tn) : Prop := a.1 = b.1 ∧ a.2.2 = b.2.2
theorem tlt_same {a b c : Tn} (h : sameK a b) : tltB a c = tltB b c ∧ tltB c a = tltB c b := by
  unfold tltB
  rw [h.1, h.2]
  exact ⟨rfl, rfl⟩
end Go.Proofs.YtppblibcbjpfnaaDoor.L
