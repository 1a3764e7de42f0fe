import Derived.Test.YtkagdmhijjfnnabDoorPop
import Derived.Lib.TrailingZeros
namespace Bs
theorem and_two (a b c d : Nat) (ha : a < 2) (hb : b < 2) : (a + 2 * c) &&& (b + 2 * d) = (a &&& b) + 2 * (c &&& d) := by
  have e1 : a + 2 * c = 2 ^ 1 * c + a := by omega
  have e2 : b + 2 * d = 2 ^ 1 * d + b := by omega
  have hab : a &&& b < 2 ^ 1 := Nat.lt_of_le_of_lt Nat.and_le_left ha
  have e3 : (a &&& b) + 2 * (c &&& d) = 2 ^ 1 * (c &&& d) + (a &&& b) := by omega
  rw [e1, e2, e3]
  apply Nat.eq_of_testBit_eq
  intro i
  rw [Nat.testBit_and, Nat.testBit_two_pow_mul_add _ ha, Nat.testBit_two_pow_mul_add _ hb, Nat.testBit_two_pow_mul_add _ hab]
  by_cases h : i < 1
  · simp [h]
  · simp [h]
/-- A bit fewer. -/
theorem pop_lo : ∀ (f x : Nat), x ≠ 0 → x < 2 ^ f → pop f (x &&& (x - 1)) + 1 = pop f x
  | 0, x, h0, h => by simp at h; omega
  | f + 1, x, h0, h => by
    rcases Nat.mod_two_eq_zero_or_one x with hm | hm
    · obtain ⟨y, rfl⟩ : ∃ y, x = 2 * y := ⟨x / 2, by omega⟩
      have e : 2 * y &&& (2 * y - 1) = 2 * (y &&& (y - 1)) := by
        have := and_two 0 1 y (y - 1) (by decide) (by decide)
        rw [show 2 * y - 1 = 1 + 2 * (y - 1) by omega, show 2 * y = 0 + 2 * y by omega, this]; simp
      rw [e, pop, pop, show 2 * (y &&& (y - 1)) % 2 = 0 by omega, show 2 * (y &&& (y - 1)) / 2 = y &&& (y - 1) by omega, show 2 * y % 2 = 0 by omega, show 2 * y / 2 = y by omega]
      have := pop_lo f y (by omega) (by rw [Nat.pow_succ] at h; omega)
      omega
    · obtain ⟨y, rfl⟩ : ∃ y, x = 2 * y + 1 := ⟨x / 2, by omega⟩
      have e : (2 * y + 1) &&& (2 * y + 1 - 1) = 2 * y := by
        have := and_two 1 0 y y (by decide) (by decide)
        rw [show 2 * y + 1 - 1 = 0 + 2 * y by omega, show 2 * y + 1 = 1 + 2 * y by omega, this]; simp
      rw [e, pop, pop, show 2 * y % 2 = 0 by omega, show 2 * y / 2 = y by omega, show (2 * y + 1) % 2 = 1 by omega, show (2 * y + 1) / 2 = y by omega]
      omega
theorem pop_zero : ∀ f, pop f 0 = 0
  | 0 => rfl
  | f + 1 => by rw [pop]; simp [pop_zero f]
theorem ctz_bit (x : Nat) (h0 : x ≠ 0) (h : x < 2 ^ 64) : x.testBit (Go.Lib.ctz 64 x) = true ∧ Go.Lib.ctz 64 x < 64 := by
  have hc : Go.Lib.ctz 64 x = Go.Lib.ctzFrom 64 x := by unfold Go.Lib.ctz; rw [if_neg h0]
  obtain ⟨m, e, hl⟩ := Go.Lib.ctzFrom_spec 64 x (by omega) h
  rw [hc]
  refine ⟨?_, hl⟩
  generalize Go.Lib.ctzFrom 64 x = c at e hl ⊢
  rw [Nat.testBit_eq_decide_div_mod_eq, decide_eq_true_iff, e, Nat.mul_div_cancel_left _ (Nat.two_pow_pos c)]
  omega
end Bs
