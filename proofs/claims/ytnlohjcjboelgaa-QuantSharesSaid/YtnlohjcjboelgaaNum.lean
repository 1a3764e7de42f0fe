import Derived.WalkKit
import Derived.WalkSpells
import Derived.WalkLawsBesides
import Derived.Lib.Mul64
import Derived.Lib.BitFns
import Derived.Lib.ItoaNum
import Derived.Laws.Bits64b
namespace Go.Proofs.Ytnlohjcjboelgaa
open Go.RowKit Go.Lib
theorem ret_int {k : IntKind} {a b : Int} (h : a = b) : Ending.returned (.int k a) = .returned (.int k b) := by rw [h]
theorem ret_bool {a b : Bool} (h : a = b) : Ending.returned (.bool a) = .returned (.bool b) := by rw [h]
theorem hid {p : Prop} (h : p) : Hid p := h
theorem pow_cast (b : Nat) : (2 : Int) ^ b = ((2 ^ b : Nat) : Int) := by simp
/-! A STEP OF THE LONG DIVISION. v = v1 * 2^32 + v0, its upper half at least 2^31. -/
theorem step_gt (u d q r v1 v0 : Nat) (hv : 0 < v1) (hq : q * v1 + r = u) : (u * 4294967296 + d) / (v1 * 4294967296 + v0) < q ↔ 4294967296 * r + d < q * v0 := by
  rw [Nat.div_lt_iff_lt_mul (by omega), Nat.mul_add, ← Nat.mul_assoc, ← hq, Nat.add_mul]
  omega
theorem step_lt (u d v : Nat) (h : u < v) (hd : d < 4294967296) : (u * 4294967296 + d) / v < 4294967296 := by
  rw [Nat.div_lt_iff_lt_mul (by omega)]
  obtain ⟨k, rfl⟩ : ∃ k, v = u + 1 + k := ⟨v - (u + 1), by omega⟩
  omega
theorem step_init (u d v1 v0 : Nat) (hd : d < 4294967296) (hv : 0 < v1) : (u * 4294967296 + d) / (v1 * 4294967296 + v0) ≤ u / v1 := by
  rw [Nat.le_div_iff_mul_le hv]
  have h := Nat.div_mul_le_self (u * 4294967296 + d) (v1 * 4294967296 + v0)
  generalize (u * 4294967296 + d) / (v1 * 4294967296 + v0) = Q at h ⊢
  rw [Nat.mul_add, ← Nat.mul_assoc] at h
  generalize Q * v1 = a at h ⊢
  generalize Q * v0 = b at h
  omega
theorem step_top (u v1 v0 : Nat) (hu : u < v1 * 4294967296 + v0) (h0 : v0 < 4294967296) (h1 : 2147483648 ≤ v1) : u / v1 ≤ 4294967297 := by
  rw [← Nat.lt_succ_iff, Nat.div_lt_iff_lt_mul (by omega)]
  omega
theorem step_break (d q r v0 : Nat) (hq : q ≤ 4294967296) (h0 : v0 < 4294967296) (hr : 4294967296 ≤ r) : ¬ (4294967296 * r + d < q * v0) := by
  have := Nat.mul_le_mul hq (show v0 ≤ 4294967295 by omega)
  omega
theorem step_prod (q v0 : Nat) (hq : q ≤ 4294967297) (h0 : v0 < 4294967296) : q * v0 < 18446744073709551616 := by
  have := Nat.mul_le_mul hq (show v0 ≤ 4294967295 by omega)
  omega
/-- What is left of the step, reckoned with words that wrap. -/
theorem step_rest (u d Q v : Nat) (hv : v < 18446744073709551616) (hQ : Q = (u * 4294967296 + d) / v) (hv0 : 0 < v) :
    (((((u * 4294967296 : Nat) : Int) % 18446744073709551616 + (d : Int)) % 18446744073709551616) - (((Q * v : Nat) : Int) % 18446744073709551616)) % 18446744073709551616 = (((u * 4294967296 + d) % v : Nat) : Int) := by
  have h := Nat.div_add_mod (u * 4294967296 + d) v
  have l := Nat.mod_lt (u * 4294967296 + d) hv0
  rw [← hQ, Nat.mul_comm] at h
  generalize (u * 4294967296 + d) % v = R at h l ⊢
  generalize Q * v = a at h ⊢
  omega
/-- The two steps together. -/
theorem two_steps' (B u d1 d0 v : Nat) (hv : 0 < v) :
    (u * B + d1) / v * B + ((u * B + d1) % v * B + d0) / v = (u * (B * B) + d1 * B + d0) / v := by
  have e := Nat.div_add_mod (u * B + d1) v
  have : u * (B * B) + d1 * B + d0 = (u * B + d1) % v * B + d0 + v * ((u * B + d1) / v * B) := by
    rw [← Nat.mul_assoc v, ← Nat.mul_assoc u, ← Nat.add_mul]
    conv => lhs; rw [← e]
    rw [Nat.add_mul]
    omega
  rw [this, Nat.add_mul_div_left _ _ hv, Nat.add_comm]
theorem two_steps (u d1 d0 v : Nat) (hv : 0 < v) :
    (u * 4294967296 + d1) / v * 4294967296 + ((u * 4294967296 + d1) % v * 4294967296 + d0) / v = (u * 18446744073709551616 + d1 * 4294967296 + d0) / v := two_steps' 4294967296 u d1 d0 v hv
theorem scaled (n y s : Nat) : n * 2 ^ s / (y * 2 ^ s) = n / y := Nat.mul_div_mul_right _ _ (Nat.two_pow_pos s)
/-- The shifted dividend. -/
theorem split_shift (hi lo s : Nat) (hs : s ≤ 64) :
    (hi * 18446744073709551616 + lo) * 2 ^ s = (hi * 2 ^ s + lo / 2 ^ (64 - s)) * 18446744073709551616 + lo * 2 ^ s % 18446744073709551616 := by
  have e : (18446744073709551616 : Nat) = 2 ^ (64 - s) * 2 ^ s := by rw [← Nat.pow_add, show 64 - s + s = 64 by omega]
  have m : lo * 2 ^ s % 18446744073709551616 = lo % 2 ^ (64 - s) * 2 ^ s := by rw [e, Nat.mul_mod_mul_right]
  have d := Nat.div_add_mod lo (2 ^ (64 - s))
  rw [m]
  generalize hp : 2 ^ (64 - s) = P at *
  generalize 2 ^ s = S at *
  generalize lo / P = a at *
  generalize lo % P = b at *
  rw [← d, Nat.add_mul, Nat.add_mul, Nat.add_mul, e]
  have : hi * (P * S) * S = hi * S * (P * S) := by ac_rfl
  have : P * a * S = a * (P * S) := by ac_rfl
  omega
theorem bitLen_le (x : Nat) (h : x < 18446744073709551616) : Lib.bitLen x ≤ 64 := Lib.bitLen_le x 64 (Nat.le_refl _) h
theorem bitLen_norm (x : Nat) (h0 : x ≠ 0) (h : x < 18446744073709551616) : 1 ≤ Lib.bitLen x ∧ 9223372036854775808 ≤ x * 2 ^ (64 - Lib.bitLen x) ∧ x * 2 ^ (64 - Lib.bitLen x) < 18446744073709551616 := by
  obtain ⟨a, b, c⟩ := Lib.bitLenAux_bounds 64 x h h0
  have le := bitLen_le x h
  have e : Lib.bitLen x = Lib.bitLenAux 64 x := rfl
  rw [e] at le ⊢
  generalize Lib.bitLenAux 64 x = L at a b c le
  have p1 : 2 ^ (L - 1) * 2 ^ (64 - L) = 9223372036854775808 := by rw [← Nat.pow_add, show L - 1 + (64 - L) = 63 by omega]
  have p2 : 2 ^ L * 2 ^ (64 - L) = 18446744073709551616 := by rw [← Nat.pow_add, show L + (64 - L) = 64 by omega]
  refine ⟨a, ?_, ?_⟩
  · rw [← p1]; exact Nat.mul_le_mul_right _ b
  · rw [← p2]; exact Nat.mul_lt_mul_of_pos_right c (Nat.two_pow_pos _)
end Go.Proofs.Ytnlohjcjboelgaa
