import Derived.Test.YtnlohjcjboelgaaShort
namespace Go.Proofs.Ytnlohjcjboelgaa.L
open Go.RowKit
set_option linter.unusedVariables false
theorem less_irrefl (x : List UInt8) : Op.bytesLess x x = false := by
  induction x with
  | nil => rfl
  | cons a x ih => simp [Op.bytesLess, ih]
theorem less_total (x y : List UInt8) : Op.bytesLess x y = true ∨ x = y ∨ Op.bytesLess y x = true := by
  induction x generalizing y with
  | nil => cases y with
    | nil => exact Or.inr (Or.inl rfl)
    | cons b y => exact Or.inl rfl
  | cons a x ih => cases y with
    | nil => exact Or.inr (Or.inr rfl)
    | cons b y =>
      simp only [Op.bytesLess, Bool.or_eq_true, Bool.and_eq_true, decide_eq_true_eq, beq_iff_eq, List.cons.injEq]
      by_cases h1 : a < b
      · exact Or.inl (Or.inl h1)
      · by_cases h2 : b < a
        · exact Or.inr (Or.inr (Or.inl h2))
        · have e : a = b := by
            rw [UInt8.lt_iff_toNat_lt] at h1 h2
            exact UInt8.toNat_inj.1 (by omega)
          rcases ih y with h | h | h
          · exact Or.inl (Or.inr ⟨e, h⟩)
          · exact Or.inr (Or.inl ⟨e, h⟩)
          · exact Or.inr (Or.inr (Or.inr ⟨e.symm, h⟩))
theorem less_trans (x y z : List UInt8) (h1 : Op.bytesLess x y = true) (h2 : Op.bytesLess y z = true) : Op.bytesLess x z = true := by
  induction x generalizing y z with
  | nil => cases z with
    | nil => cases y <;> simp [Op.bytesLess] at h2
    | cons c z => rfl
  | cons a x ih => cases y with
    | nil => simp [Op.bytesLess] at h1
    | cons b y => cases z with
      | nil => simp [Op.bytesLess] at h2
      | cons c z =>
        simp only [Op.bytesLess, Bool.or_eq_true, Bool.and_eq_true, decide_eq_true_eq, beq_iff_eq] at h1 h2 ⊢
        rw [UInt8.lt_iff_toNat_lt] at h1 h2 ⊢
        rcases h1 with h1 | ⟨rfl, h1⟩ <;> rcases h2 with h2 | ⟨rfl, h2⟩
        · exact Or.inl (by omega)
        · exact Or.inl h1
        · exact Or.inl h2
        · exact Or.inr ⟨rfl, ih y z h1 h2⟩
theorem less_asymm (x y : List UInt8) (h : Op.bytesLess x y = true) : Op.bytesLess y x = false ∧ (x == y) = false ∧ (y == x) = false := by
  refine ⟨?_, ?_, ?_⟩
  · cases e : Op.bytesLess y x
    · rfl
    · have := less_trans x y x h e
      rw [less_irrefl] at this
      cases this
  · simp
    rintro rfl
    rw [less_irrefl] at h
    cases h
  · simp
    rintro rfl
    rw [less_irrefl] at h
    cases h
/-- The names of a right list rise. -/
theorem rise_one {l : List It} (h : checkN l = 0) (j : Nat) (hj : j + 1 < l.length) : Op.bytesLess (nm l j).toList (nm l (j + 1)).toList = true := by
  have f := (flt_parts (check_flt h (j + 1) hj)).2.2 (by omega)
  rw [Nat.add_sub_cancel] at f
  unfold leS at f
  simp at f
  rcases less_total (nm l j).toList (nm l (j + 1)).toList with g | g | g
  · exact g
  · exact absurd g.symm f.2
  · rw [f.1] at g; cases g
theorem rise {l : List It} (h : checkN l = 0) (j d : Nat) (hj : j + d + 1 < l.length) : Op.bytesLess (nm l j).toList (nm l (j + d + 1)).toList = true := by
  induction d with
  | zero => exact rise_one h j hj
  | succ d ih => exact less_trans _ _ _ (ih (by omega)) (rise_one h (j + d + 1) hj)
theorem rises {l : List It} (h : checkN l = 0) (j k : Nat) (hj : j < k) (hk : k < l.length) : Op.bytesLess (nm l j).toList (nm l k).toList = true := by
  have := rise h j (k - j - 1) (by omega)
  rw [show j + (k - j - 1) + 1 = k by omega] at this
  exact this
/-- Where too little is found. -/
theorem shortAt_some {l c u : List It} (n k K : Nat) (h : shortAt l c u n k = some K) : k ≤ K ∧ K < k + n ∧ too l c u K = true ∧ ∀ j, k ≤ j → j < K → too l c u j = false := by
  induction n generalizing k with
  | zero => cases h
  | succ n ih =>
    unfold shortAt at h
    split at h
    · rename_i e
      cases h
      exact ⟨Nat.le_refl _, by omega, e, fun j _ _ => by omega⟩
    · rename_i e
      obtain ⟨a, b, c', d⟩ := ih (k + 1) h
      refine ⟨by omega, by omega, c', fun j h1 h2 => ?_⟩
      by_cases x : j = k
      · rw [x]; simpa using e
      · exact d j (by omega) h2
theorem shortAt_none {l c u : List It} (n k : Nat) (h : shortAt l c u n k = none) : ∀ j, k ≤ j → j < k + n → too l c u j = false := by
  induction n generalizing k with
  | zero => intro j _ _; omega
  | succ n ih =>
    unfold shortAt at h
    split at h
    · cases h
    · rename_i e
      intro j h1 h2
      by_cases x : j = k
      · rw [x]; simpa using e
      · exact ih (k + 1) h j (by omega) (by omega)
theorem three_bad {l c u : List It} (h : checkN l ≠ 0 ∨ checkN c ≠ 0 ∨ checkN u ≠ 0) : shortE l c u ≠ 0 ∧ shortS l c u = ByteArray.empty := by
  have n : chkAll (three l c u) 3 0 ≠ 0 := fun e => by
    obtain ⟨a, b, d⟩ := three_ok e
    rcases h with h | h | h
    · exact h a
    · exact h b
    · exact h d
  unfold shortE shortS
  rw [if_neg n, if_neg n]
  exact ⟨n, rfl⟩
theorem three_good {l c u : List It} (h1 : checkN l = 0) (h2 : checkN c = 0) (h3 : checkN u = 0) : chkAll (three l c u) 3 0 = 0 := by
  show (if checkN l = 0 then (if checkN c = 0 then (if checkN u = 0 then 0 else checkN u) else checkN c) else checkN l) = 0
  rw [if_pos h1, if_pos h2, if_pos h3]
end Go.Proofs.Ytnlohjcjboelgaa.L
