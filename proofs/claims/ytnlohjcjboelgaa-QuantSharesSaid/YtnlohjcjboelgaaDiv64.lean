import Derived.Test.YtnlohjcjboelgaaDiv
namespace Go.Proofs.Ytnlohjcjboelgaa
open Go.RowKit Go.Lib
theorem under (hi lo y s : Nat) (h : hi < y) (hs : s ≤ 64) (hl : lo < 18446744073709551616) : hi * 2 ^ s + lo / 2 ^ (64 - s) < y * 2 ^ s := by
  have e := split_shift hi lo s hs
  have a : (hi * 18446744073709551616 + lo) * 2 ^ s < (y * 18446744073709551616) * 2 ^ s := Nat.mul_lt_mul_of_pos_right (by omega) (Nat.two_pow_pos s)
  rw [e, Nat.mul_right_comm] at a
  omega
theorem recomb (u l : Nat) : u * 18446744073709551616 + l = u * 18446744073709551616 + l / 4294967296 * 4294967296 + l % 4294967296 := by
  rw [Nat.add_assoc, Nat.div_add_mod' l 4294967296]
theorem recast (a b : Nat) : ((a : Int) * 4294967296 + (b : Int)) = ((a * 4294967296 + b : Nat) : Int) := by omega
theorem or_num (a b s : Nat) (h : b < 2 ^ s) (hs : s ≤ 63) (ha : a * 2 ^ s < 18446744073709551616) : bits .or .u64 ((a * 2 ^ s : Nat) : Int) ((b : Nat) : Int) = ((a * 2 ^ s + b : Nat) : Int) := by
  have hb : b < 18446744073709551616 := Nat.lt_trans h (Nat.lt_of_le_of_lt (Nat.pow_le_pow_right (by decide) hs) (by decide))
  rw [bits_or_u64_nat _ _ ha hb, ← Nat.shiftLeft_eq, Nat.shiftLeft_add_eq_or_of_lt h]
theorem quot_num (u v : Nat) (hu : u < 18446744073709551616) : IntKind.u64.wrap ((u : Int).tdiv (v : Int)) = ((u / v : Nat) : Int) := by
  rw [show (u : Int).tdiv (v : Int) = ((u / v : Nat) : Int) from rfl]
  exact wrapN _ (Nat.lt_of_le_of_lt (Nat.div_le_self _ _) hu)
theorem left_num (u v : Nat) (hu : u < 18446744073709551616) : IntKind.u64.wrap ((u : Int) - IntKind.u64.wrap (((u / v : Nat) : Int) * (v : Int))) = ((u % v : Nat) : Int) := by
  have d := Nat.div_add_mod u v
  rw [← Int.natCast_mul, Nat.mul_comm]
  generalize v * (u / v) = a at d ⊢
  generalize u % v = b at d ⊢
  rw [wrapN a (by omega), show (u : Int) - a = (b : Int) by omega, wrapN b (by omega)]
set_option maxHeartbeats 1000000 in
theorem div64 (hi lo y : Nat) (hl : lo < 18446744073709551616) (hy : y < 18446744073709551616) (h0 : hi < y) (w : World) :
    Calls Try.prog 19 #[.int .u64 (hi : Int), .int .u64 (lo : Int), .int .u64 (y : Int)] w fun e w' => ∃ r, e = .returned (.tuple #[.int .u64 (((hi * 18446744073709551616 + lo) / y : Nat) : Int), .int .u64 r]) ∧ ∃ n, w' = w.drewN n := by
  by_cases hz : hi = 0
  · subst hz
    have := div_short lo y hl hy h0 w
    rw [Nat.zero_mul, Nat.zero_add]
    exact this
  obtain ⟨b1, n1, n2⟩ := bitLen_norm y (by omega) hy
  have bl := bitLen_le y hy
  have HL := hid (fun W => lz64 y W hy)
  generalize hs : 64 - Lib.bitLen y = s at n1 n2 HL
  have hs1 : s ≤ 63 := by omega
  have und := under hi lo y s h0 (by omega) hl
  have spl := split_shift hi lo s (by omega)
  have hih : hi * 2 ^ s < 18446744073709551616 := Nat.lt_of_le_of_lt (Nat.mul_le_mul_right _ (Nat.le_of_lt h0)) n2
  have hlow : lo / 2 ^ (64 - s) < 2 ^ s := by
    rw [Nat.div_lt_iff_lt_mul (Nat.two_pow_pos _), ← Nat.pow_add, show s + (64 - s) = 64 by omega]
    exact hl
  have hor := or_num hi (lo / 2 ^ (64 - s)) s hlow hs1 hih
  have hwl : IntKind.u64.wrap ((lo : Int) * 2 ^ ((s : Nat) : Int).toNat) = ((lo * 2 ^ s % 18446744073709551616 : Nat) : Int) := by
    rw [Int.toNat_natCast, pow_cast, ← Int.natCast_mul, wrapM]
  have hwy : IntKind.u64.wrap ((y : Int) * 2 ^ ((s : Nat) : Int).toNat) = ((y * 2 ^ s : Nat) : Int) := by
    rw [Int.toNat_natCast, pow_cast, ← Int.natCast_mul, wrapN _ n2]
  have hwu : bits .or .u64 (IntKind.u64.wrap ((hi : Int) * 2 ^ ((s : Nat) : Int).toNat)) ((lo : Int) / 2 ^ (64 - ((s : Nat) : Int)).toNat) = ((hi * 2 ^ s + lo / 2 ^ (64 - s) : Nat) : Int) := by
    rw [Int.toNat_natCast, show (64 - ((s : Nat) : Int)).toNat = 64 - s by omega, pow_cast, pow_cast, ← Int.natCast_mul, wrapN _ hih, ← Int.natCast_ediv, hor]
  rw [← scaled (hi * 18446744073709551616 + lo) y s, spl]
  have hlb : lo * 2 ^ s % 18446744073709551616 < 18446744073709551616 := Nat.mod_lt _ (by decide)
  generalize y * 2 ^ s = V at *
  generalize hi * 2 ^ s + lo / 2 ^ (64 - s) = u at *
  generalize lo * 2 ^ s % 18446744073709551616 = l at *
  have q1 := quo_mk u (V / 4294967296) (V % 4294967296) (l / 4294967296) V (by omega) (by omega) und (by omega)
  have ini1 := step_init u (l / 4294967296) (V / 4294967296) (V % 4294967296) (by omega) (by omega)
  have top1 := step_top u (V / 4294967296) (V % 4294967296) (by omega) (by omega) (by omega)
  have rl := Nat.mod_lt (u * 4294967296 + l / 4294967296) (show 0 < V by omega)
  have two := two_steps u (l / 4294967296) (l % 4294967296) V (by omega)
  have ql := step_lt u (l / 4294967296) V und (by omega)
  rw [Nat.div_add_mod' V 4294967296] at ini1
  obtain ⟨Q1, hQ1⟩ : ∃ Q1, Q1 = (u * 4294967296 + l / 4294967296) / V := ⟨_, rfl⟩
  have rst := step_rest u (l / 4294967296) Q1 V n2 hQ1 (by omega)
  obtain ⟨R, hR1⟩ : ∃ R, R = (u * 4294967296 + l / 4294967296) % V := ⟨_, rfl⟩
  rw [← hQ1] at q1 ini1 two ql
  rw [← hR1] at rl rst two
  have q2 := quo_mk R (V / 4294967296) (V % 4294967296) (l % 4294967296) V (by omega) (by omega) rl (by omega)
  have ini2 := step_init R (l % 4294967296) (V / 4294967296) (V % 4294967296) (by omega) (by omega)
  have top2 := step_top R (V / 4294967296) (V % 4294967296) (by omega) (by omega) (by omega)
  have ql2 := step_lt R (l % 4294967296) V rl (by omega)
  rw [Nat.div_add_mod' V 4294967296] at ini2
  obtain ⟨Q0, hQ0⟩ : ∃ Q0, Q0 = (R * 4294967296 + l % 4294967296) / V := ⟨_, rfl⟩
  rw [← hQ0] at q2 ini2 two ql2
  clear hQ0 hQ1 hR1
  have m1 := Nat.mod_lt u (show 0 < V / 4294967296 by omega)
  have m2 := Nat.mod_lt R (show 0 < V / 4294967296 by omega)
  have a1 := Nat.div_add_mod u (V / 4294967296)
  have a2 := Nat.div_add_mod R (V / 4294967296)
  rw [Nat.mul_comm] at a1 a2
  have fin : ((Q1 : Int) * 4294967296 + (Q0 : Int)) = (((u * 18446744073709551616 + l) / V : Nat) : Int) := by
    rw [recomb u l, ← two]
    exact recast Q1 Q0
  rw [← fin]
  have eR : IntKind.u64.wrap (IntKind.u64.wrap (IntKind.u64.wrap ((u : Int) * 4294967296) + ((l / 4294967296 : Nat) : Int)) - IntKind.u64.wrap ((Q1 : Int) * (V : Int))) = (R : Int) := by
    rw [IntKind.wrap_u64, IntKind.wrap_u64, IntKind.wrap_u64, IntKind.wrap_u64, ← Int.natCast_mul]
    rw [← rst, Int.natCast_mul u]
    rfl
  exact div_walk hi lo y s V u l (V / 4294967296 : Nat) (V % 4294967296 : Nat) (l / 4294967296 : Nat) (l % 4294967296 : Nat) (u / (V / 4294967296) : Nat) (u % (V / 4294967296) : Nat) Q1 R (R / (V / 4294967296) : Nat) (R % (V / 4294967296) : Nat) Q0 w
    (by omega) (by omega) (by omega) (by omega) HL hwy (divN V) (maskN V n2) (by omega) (by omega) (by omega) (by omega) hwu hwl (divN l) (maskN l hlb) (by omega) (by omega) (by omega) (by omega)
    (quot_num u _ (by omega)) (left_num u _ (by omega)) ⟨by omega, by omega⟩ ⟨by omega, by omega⟩ (hid ⟨by exact_mod_cast a1, by omega⟩) (hid q1) eR
    (quot_num R _ (by omega)) (left_num R _ (by omega)) ⟨by omega, by omega⟩ ⟨by omega, by omega⟩ (hid ⟨by exact_mod_cast a2, by omega⟩) (hid q2) ⟨by omega, by omega⟩ ⟨by omega, by omega⟩
end Go.Proofs.Ytnlohjcjboelgaa
