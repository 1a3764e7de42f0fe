import Derived.Lib.ItoaNum
namespace Go.Proofs.YtbpkfnnncglegaaDoor.L
set_option linter.unusedVariables false
/-- The digit of D at the place k, as a byte. -/
def dgt (D k : Nat) : UInt8 := UInt8.ofNat (48 + D / 10 ^ k % 10)
/-- m digits of D, down to the place lo. -/
def rng (D lo : Nat) : Nat → List UInt8
  | 0 => []
  | m + 1 => dgt D (lo + m) :: rng D lo m
theorem rng_len (D lo : Nat) : ∀ m, (rng D lo m).length = m
  | 0 => rfl
  | m + 1 => by simp [rng, rng_len D lo m]
theorem div_div_pow (D p k : Nat) : D / 10 ^ (p + k) = D / 10 ^ p / 10 ^ k := by rw [Nat.pow_add, Nat.div_div_eq_div_mul]
theorem dgt_div (D p k : Nat) : dgt D (p + k) = dgt (D / 10 ^ p) k := by unfold dgt; rw [div_div_pow]
theorem rng_div (D p : Nat) : ∀ m, rng D p m = rng (D / 10 ^ p) 0 m
  | 0 => rfl
  | m + 1 => by simp only [rng, rng_div D p m, dgt_div, Nat.zero_add]
theorem rng_snoc (D : Nat) : ∀ (m lo : Nat), rng D lo (m + 1) = rng D (lo + 1) m ++ [dgt D lo]
  | 0, lo => rfl
  | m + 1, lo => by
    show dgt D (lo + (m + 1)) :: rng D lo (m + 1) = _
    rw [rng_snoc D m lo]
    show _ = dgt D (lo + 1 + m) :: rng D (lo + 1) m ++ [dgt D lo]
    have : lo + (m + 1) = lo + 1 + m := by omega
    rw [this]
    rfl
theorem dec_small {u : Nat} (h : u < 10) : Lib.decDigits u = rng u 0 1 := by
  rw [Lib.decDigits_one h]
  simp [rng, dgt, Nat.mod_eq_of_lt h]
/-- A number's digits, where it has just m of them. -/
theorem dec_rng : ∀ (m u : Nat), u < 10 ^ (m + 1) → (m = 0 ∨ 10 ^ m ≤ u) → Lib.decDigits u = rng u 0 (m + 1)
  | 0, u, h, _ => dec_small (by simpa using h)
  | m + 1, u, h, h2 => by
    have h3 : 10 ^ (m + 1) ≤ u := by
      rcases h2 with h2 | h2
      · omega
      · exact h2
    have h10 : ¬ u < 10 := by
      have : 10 ^ 1 ≤ 10 ^ (m + 1) := Nat.pow_le_pow_right (by decide) (by omega)
      omega
    rw [Lib.decDigits, dif_neg h10]
    have hu : u / 10 < 10 ^ (m + 1) := by
      rw [Nat.pow_succ] at h
      omega
    have hl : m = 0 ∨ 10 ^ m ≤ u / 10 := by
      right
      rw [Nat.pow_succ] at h3
      omega
    rw [dec_rng m (u / 10) hu hl, rng_snoc u (m + 1) 0]
    have e1 : rng u (0 + 1) (m + 1) = rng (u / 10) 0 (m + 1) := by
      rw [rng_div u (0 + 1)]
    rw [e1]
    simp [dgt]
/-- The lowest place of D, up to p, where a digit is. -/
structure Lw (D p low : Nat) : Prop where
  le : low ≤ p
  dvd : 10 ^ low ∣ D
  no : low = p ∨ ¬ 10 ^ (low + 1) ∣ D
theorem Lw.one {D p a b : Nat} (h : Lw D p a) (k : Lw D p b) : a = b := by
  apply Classical.byContradiction
  intro hne
  rcases Nat.lt_or_gt_of_ne hne with h1 | h1
  · rcases h.no with h2 | h2
    · have := k.le; omega
    · exact h2 (Nat.dvd_trans (Nat.pow_dvd_pow 10 (by omega)) k.dvd)
  · rcases k.no with h2 | h2
    · have := h.le; omega
    · exact h2 (Nat.dvd_trans (Nat.pow_dvd_pow 10 (by omega)) h.dvd)
theorem lw_all (D p : Nat) : ∃ low, Lw D p low := by
  have key : ∀ k, k ≤ p → (∃ low, Lw D p low) ∨ 10 ^ k ∣ D := by
    intro k
    induction k with
    | zero => intro _; exact .inr ⟨D, by simp⟩
    | succ k ih =>
      intro hk
      rcases ih (by omega) with h | h
      · exact .inl h
      · by_cases hd : 10 ^ (k + 1) ∣ D
        · exact .inr hd
        · exact .inl ⟨k, by omega, h, .inr hd⟩
  rcases key p (Nat.le_refl _) with h | h
  · exact h
  · exact ⟨p, Nat.le_refl _, h, .inl rfl⟩
/-- One digit more: where it is 0, ten times as great a power divides. -/
theorem dvd_next {D k : Nat} (h : 10 ^ k ∣ D) : (D / 10 ^ k % 10 = 0) ↔ 10 ^ (k + 1) ∣ D := by
  obtain ⟨q, rfl⟩ := h
  have hp : 0 < 10 ^ k := Nat.pow_pos (by decide)
  rw [Nat.mul_div_cancel_left q hp, Nat.pow_succ, Nat.mul_dvd_mul_iff_left hp]
  exact ⟨fun h => Nat.dvd_of_mod_eq_zero h, fun h => Nat.mod_eq_zero_of_dvd h⟩
/-- The fraction's bytes. -/
def frB (D p low : Nat) : List UInt8 := if low < p then 46 :: rng D low (p - low) else []
/-- What is left of a division, digit by digit: w * M = 10 ^ p, l the rest behind t digits. -/
structure Rst (D p w M t l : Nat) : Prop where
  mul : w * M = 10 ^ p
  lt : l < w
  eq : l * M = (D * 10 ^ t) % 10 ^ p
theorem Rst.pos {D p w M t l : Nat} (h : Rst D p w M t l) : 0 < w ∧ 0 < M := by
  have hp : 0 < 10 ^ p := Nat.pow_pos (by decide)
  rw [← h.mul] at hp
  exact ⟨Nat.pos_of_mul_pos_right hp, Nat.pos_of_mul_pos_left hp⟩
theorem Rst.zero {D p w M t l : Nat} (h : Rst D p w M t l) (ht : t ≤ p) : l = 0 ↔ 10 ^ (p - t) ∣ D := by
  have hM := h.pos.2
  have e : 10 ^ p = 10 ^ (p - t) * 10 ^ t := by rw [← Nat.pow_add]; congr 1; omega
  have hq : 0 < 10 ^ t := Nat.pow_pos (by decide)
  constructor
  · intro h0
    have h1 := h.eq
    rw [h0, Nat.zero_mul] at h1
    have h2 : 10 ^ p ∣ D * 10 ^ t := Nat.dvd_of_mod_eq_zero h1.symm
    rw [e] at h2
    exact (Nat.mul_dvd_mul_iff_right hq).1 h2
  · intro h0
    have h2 : 10 ^ p ∣ D * 10 ^ t := by rw [e]; exact Nat.mul_dvd_mul_right h0 _
    have h1 := h.eq
    rw [Nat.mod_eq_zero_of_dvd h2] at h1
    rcases Nat.mul_eq_zero.1 h1 with h3 | h3
    · exact h3
    · omega
theorem Rst.digit {D p w M t l : Nat} (h : Rst D p w M t l) (ht : t < p) : l * 10 / w = D / 10 ^ (p - 1 - t) % 10 := by
  have ⟨hw, hM⟩ := h.pos
  have hq : 0 < 10 ^ t := Nat.pow_pos (by decide)
  have e1 : l * 10 / w = (l * M) * 10 / 10 ^ p := by
    rw [← h.mul]
    have : l * M * 10 = M * (l * 10) := by rw [Nat.mul_comm l M, Nat.mul_assoc]
    rw [this, Nat.mul_comm w M, Nat.mul_div_mul_left _ _ hM]
  rw [e1, h.eq]
  have e2 : 10 ^ p = 10 ^ (p - 1) * 10 := by rw [← Nat.pow_succ]; congr 1; omega
  rw [e2, Nat.mul_div_mul_right _ _ (by decide : 0 < 10)]
  rw [Nat.mod_mul_right_div_self]
  have e3 : 10 ^ (p - 1) = 10 ^ (p - 1 - t) * 10 ^ t := by rw [← Nat.pow_add]; congr 1; omega
  rw [e3, Nat.mul_div_mul_right _ _ hq]
theorem Rst.next {D p w M t l : Nat} (h : Rst D p w M t l) : Rst D p w M (t + 1) (l * 10 % w) := by
  have ⟨hw, hM⟩ := h.pos
  refine ⟨h.mul, Nat.mod_lt _ hw, ?_⟩
  have e1 : l * 10 % w * M = (l * M * 10) % 10 ^ p := by
    rw [← h.mul]
    have : l * M * 10 = l * 10 * M := by rw [Nat.mul_assoc, Nat.mul_comm M 10, ← Nat.mul_assoc]
    rw [this, Nat.mul_mod_mul_right]
  rw [e1, h.eq, Nat.mod_mul_mod, Nat.pow_succ, Nat.mul_assoc]
theorem Rst.first {n p w M : Nat} (h : w * M = 10 ^ p) (hw : 0 < w) : Rst (n * M) p w M 0 (n % w) :=
  ⟨h, Nat.mod_lt _ hw, by rw [Nat.pow_zero, Nat.mul_one, ← h, Nat.mul_mod_mul_right]⟩
theorem whole_part {n p w M : Nat} (h : w * M = 10 ^ p) (hM : 0 < M) : n * M / 10 ^ p = n / w := by
  rw [← h, Nat.mul_div_mul_right _ _ hM]
end Go.Proofs.YtbpkfnnncglegaaDoor.L
