import Derived.Lib.ItoaMem
import Derived.Lib.AtoiAll
import Derived.WalkKit
namespace Go.Proofs.YtdhjoimiejdgbaaDoor.L
open Go.Lib
set_option linter.unusedVariables false
theorem dec_small {u : Nat} (h : u < 10) : decDigits u = [UInt8.ofNat (48 + u)] := by rw [decDigits, dif_pos h]
theorem dec_big {u : Nat} (h : ¬ u < 10) : decDigits u = decDigits (u / 10) ++ [UInt8.ofNat (48 + u % 10)] := by rw [decDigits, dif_neg h]
theorem digit_nat {d : Nat} (h : d < 10) : (UInt8.ofNat (48 + d)).toNat = 48 + d := by
  rw [UInt8.toNat_ofNat']
  omega
theorem dec_digits (u : Nat) : ∀ c ∈ decDigits u, 48 ≤ c.toNat ∧ c.toNat ≤ 57 := by
  induction u using Nat.strongRecOn with
  | _ u ih =>
    intro c hc
    by_cases h : u < 10
    · rw [dec_small h] at hc
      have hc := List.mem_singleton.1 hc
      rw [hc, digit_nat h]
      omega
    · rw [dec_big h] at hc
      rcases List.mem_append.1 hc with hc | hc
      · exact ih (u / 10) (by omega) c hc
      · have hc := List.mem_singleton.1 hc
        rw [hc, digit_nat (by omega)]
        omega
theorem dec_ne (u : Nat) : decDigits u ≠ [] := by
  by_cases h : u < 10
  · rw [dec_small h]; simp
  · rw [dec_big h]; simp
theorem dec_len (k u : Nat) (h : u < 10 ^ (k + 1)) : (decDigits u).length ≤ k + 1 := by
  induction k generalizing u with
  | zero => rw [dec_small (by simpa using h)]; simp
  | succ k ih =>
    by_cases h' : u < 10
    · rw [dec_small h']; simp
    · rw [dec_big h', List.length_append]
      have := ih (u / 10) (by rw [Nat.pow_succ] at h; omega)
      simp
      omega
theorem parse_app (l r : List UInt8) (acc u : Nat) (h : parseUint10 acc l = .ok u) : parseUint10 acc (l ++ r) = parseUint10 u r := by
  induction l generalizing acc with
  | nil =>
    simp only [parseUint10] at h
    injection h with h
    rw [h]
    rfl
  | cons c l ih =>
    simp only [List.cons_append, parseUint10] at h ⊢
    split at h
    · rename_i h1
      rw [if_pos h1]
      split at h
      · cases h
      · rename_i h2
        rw [if_neg h2]
        split at h
        · cases h
        · rename_i h3
          rw [if_neg h3]
          exact ih _ h
    · cases h
theorem parse_dec (u : Nat) (h : u < 18446744073709551616) : parseUint10 0 (decDigits u) = .ok u := by
  induction u using Nat.strongRecOn with
  | _ u ih =>
    by_cases h' : u < 10
    · rw [dec_small h']
      simp only [parseUint10]
      rw [digit_nat h', if_pos (by omega), if_neg (by omega), if_neg (by omega)]
      congr 1
      omega
    · rw [dec_big h', parse_app _ _ _ _ (ih (u / 10) (by omega) (by omega))]
      simp only [parseUint10]
      rw [digit_nat (by omega), if_pos (by omega), if_neg (by omega), if_neg (by omega)]
      congr 1
      omega
theorem head_digit {l : List UInt8} (h : ∀ c ∈ l, 48 ≤ c.toNat ∧ c.toNat ≤ 57) (hn : l ≠ []) : ∃ c r, l = c :: r ∧ c.toNat ≠ 43 ∧ c.toNat ≠ 45 := by
  cases l with
  | nil => exact absurd rfl hn
  | cons c r =>
    have := h c (by simp)
    exact ⟨c, r, rfl, by omega, by omega⟩
/-- What Itoa writes, Atoi reads. -/
theorem atoi_itoa (n : Int) (h0 : -9223372036854775808 ≤ n) (h1 : n ≤ 9223372036854775807) : atoiAll (itoa n) = .ok n := by
  by_cases hneg : n < 0
  · obtain ⟨u, rfl⟩ : ∃ u : Nat, n = -(u : Int) := ⟨n.natAbs, by omega⟩
    rw [itoa_neg u (by omega)]
    unfold atoiAll
    have e : parseMag (decDigits u) = .ok u := by
      unfold parseMag
      rw [if_neg (dec_ne u)]
      exact parse_dec u (by omega)
    have c45 : (45 : UInt8).toNat = 45 := by decide
    simp only [c45]
    rw [if_pos (by simp), e]
    simp
    omega
  · obtain ⟨u, rfl⟩ : ∃ u : Nat, n = u := ⟨n.toNat, by omega⟩
    rw [itoa_nonneg]
    have e : parseMag (decDigits u) = .ok u := by
      unfold parseMag
      rw [if_neg (dec_ne u)]
      exact parse_dec u (by omega)
    obtain ⟨c, r, el, n1, n2⟩ := head_digit (dec_digits u) (dec_ne u)
    rw [el] at e ⊢
    unfold atoiAll
    simp only
    rw [if_neg (by omega), e]
    simp [n2]
    omega
/-- What a number of fifteen digits is as bytes. -/
theorem itoa_form (n : Int) (h0 : -999999999999999 ≤ n) (h1 : n ≤ 999999999999999) : (itoa n).length ≤ 16 ∧ ∃ c r, itoa n = c :: r ∧ (c = 45 ∧ r ≠ [] ∨ 48 ≤ c.toNat ∧ c.toNat ≤ 57) ∧ ∀ x ∈ r, 48 ≤ x.toNat ∧ x.toNat ≤ 57 := by
  by_cases hneg : n < 0
  · obtain ⟨u, rfl⟩ : ∃ u : Nat, n = -(u : Int) := ⟨n.natAbs, by omega⟩
    rw [itoa_neg u (by omega)]
    have := dec_len 14 u (by show u < 1000000000000000; omega)
    exact ⟨by simp; omega, 45, _, rfl, Or.inl ⟨rfl, dec_ne u⟩, dec_digits u⟩
  · obtain ⟨u, rfl⟩ : ∃ u : Nat, n = u := ⟨n.toNat, by omega⟩
    rw [itoa_nonneg]
    have := dec_len 14 u (by show u < 1000000000000000; omega)
    obtain ⟨c, r, el, n1, n2⟩ := head_digit (dec_digits u) (dec_ne u)
    have hd := dec_digits u
    rw [el] at hd this ⊢
    exact ⟨by omega, c, r, rfl, Or.inr (hd c (by simp)), fun x hx => hd x (by simp [hx])⟩
/-- What Atoi reads is an int. -/
theorem atoi_range {l : List UInt8} {n : Int} (h : atoiAll l = .ok n) : -9223372036854775808 ≤ n ∧ n ≤ 9223372036854775807 := by
  unfold atoiAll at h
  cases l with
  | nil => cases h
  | cons c r =>
    simp only at h
    split at h
    · cases h
    · cases h
    · rename_i u e
      split at h
      · cases h
      · split at h
        · cases h
        · injection h with h
          subst h
          split <;> omega
end Go.Proofs.YtdhjoimiejdgbaaDoor.L
