import Derived.Test.YtnlohjcjboelgaaShare
import Derived.Handy
namespace Go.Proofs.Ytnlohjcjboelgaa
open Go.RowKit Go.Lib
set_option linter.unusedVariables false
theorem and1 (n : Int) : bits .and .i64 n 1 = n % 2 := by
  have h : (BitVec.ofInt 64 1).toNat = 2 ^ 1 - 1 := by decide
  have key : (BitVec.ofInt 64 n &&& BitVec.ofInt 64 1).toNat = (n % ((2 ^ 64 : Nat) : Int)).toNat % 2 ^ 1 := by
    rw [BitVec.toNat_and, BitVec.toNat_ofInt, h, Nat.and_two_pow_sub_one_eq_mod]
  show IntKind.i64.wrap ((BitVec.ofInt 64 n &&& BitVec.ofInt 64 1).toNat : Nat) = n % 2
  rw [key, IntKind.wrap_i64]
  omega
/-- How far the division bit by bit has come. -/
def Inv (b s w : Nat) (k Q R : Int) : Prop := 0 ≤ Q ∧ 0 ≤ R ∧ R < w ∧ Q * w + R = ((b * (s / 2 ^ (k + 1).toNat) : Nat) : Int) ∧ Q ≤ ((s / 2 ^ (k + 1).toNat : Nat) : Int)
theorem inv_start (b s w : Nat) (hs : s < 9223372036854775808) (hw : 0 < w) : Inv b s w 62 0 0 := by
  have : s / 2 ^ ((62 : Int) + 1).toNat = 0 := Nat.div_eq_of_lt (by simpa using hs)
  unfold Inv
  rw [this]
  refine ⟨by omega, by omega, by omega, by simp, by simp⟩
theorem half (s : Nat) (k : Int) (hk : 0 ≤ k) : s / 2 ^ k.toNat = 2 * (s / 2 ^ (k + 1).toNat) + s / 2 ^ k.toNat % 2 := by
  have : (k + 1).toNat = k.toNat + 1 := by omega
  rw [this, Nat.pow_succ, ← Nat.div_div_eq_div_mul]
  omega
theorem inv_next {b s w : Nat} {k Q R Q' R' : Int} (h : Inv b s w k Q R) (hk : 0 ≤ k) (hb : b < w) (q0 : 0 ≤ Q') (r0 : 0 ≤ R') (r1 : R' < w)
    (e : Q' * w + R' = 2 * (Q * w + R) + ((s / 2 ^ k.toNat % 2 : Nat) : Int) * (b : Int)) : Inv b s w (k - 1) Q' R' := by
  obtain ⟨a1, a2, a3, a4, a5⟩ := h
  unfold Inv
  rw [show k - 1 + 1 = k by omega, half s k hk]
  generalize s / 2 ^ k.toNat % 2 = β at *
  generalize s / 2 ^ (k + 1).toNat = t at *
  have e2 : Q' * w + R' = ((b * (2 * t + β) : Nat) : Int) := by
    rw [e, a4, Nat.mul_add, ← Int.natCast_mul β b, Nat.mul_comm β b, Nat.mul_left_comm]
    generalize b * t = x
    generalize b * β = y
    omega
  refine ⟨q0, r0, r1, e2, ?_⟩
  generalize 2 * t + β = u at *
  obtain ⟨q, rfl⟩ := Int.eq_ofNat_of_zero_le q0
  obtain ⟨r, rfl⟩ := Int.eq_ofNat_of_zero_le r0
  have e3 : q * w + r = b * u := by exact_mod_cast e2
  have e4 : b * u ≤ w * u := Nat.mul_le_mul_right _ (Nat.le_of_lt hb)
  have e5 : q * w ≤ u * w := by rw [Nat.mul_comm u w]; omega
  exact_mod_cast Nat.le_of_mul_le_mul_right e5 (by omega)
theorem inv_end {b s w : Nat} {Q R : Int} (h : Inv b s w (-1) Q R) : Q = ((b * s / w : Nat) : Int) := by
  obtain ⟨a1, a2, a3, a4, a5⟩ := h
  obtain ⟨q, rfl⟩ := Int.eq_ofNat_of_zero_le a1
  obtain ⟨r, rfl⟩ := Int.eq_ofNat_of_zero_le a2
  have e : q * w + r = b * s := by
    have := a4
    simp at this
    exact_mod_cast this
  rw [← e, Nat.mul_comm, Nat.mul_add_div (by omega), Nat.div_eq_of_lt (by omega), Nat.add_zero]
set_option maxHeartbeats 1000000 in
theorem rshare_zero (p q s : Int) (h : p < 0 ∨ s < 0 ∨ q < 1) (w : World) :
    Calls Try.prog 9 #[.int .i64 p, .int .i64 q, .int .i64 s] w fun e w' => e = .returned (.tuple #[.int .i64 0, .int .i64 26]) ∧ w' = w := by
  have h3 : p < 0 ∨ (¬ p < 0 ∧ s < 0) ∨ (¬ p < 0 ∧ ¬ s < 0 ∧ q < 1) := by omega
  clear h
  rcases h3 with a | ⟨a, b⟩ | ⟨a, b, c⟩
  all_goals
    go_enter Try.func9, Try.ntmps9
    go_wp2
    go_ret2
    exact ⟨rfl, rfl⟩
theorem inv_top {b s w : Nat} {k Q R : Int} (h : Inv b s w k Q R) (hs : s < 9223372036854775808) : Q < 9223372036854775808 := by
  have := h.2.2.2.2
  have : s / 2 ^ (k + 1).toNat ≤ s := Nat.div_le_self _ _
  omega
theorem inv_bound {b s w : Nat} {k Q R : Int} (h : Inv b s w k Q R) (hk : 0 ≤ k) (hs : s < 9223372036854775808) : 2 * Q + 1 < 9223372036854775808 := by
  have := h.2.2.2.2
  have e := half s k hk
  have : s / 2 ^ k.toNat ≤ s := Nat.div_le_self _ _
  omega
set_option maxHeartbeats 8000000 in
set_option maxRecDepth 100000 in
theorem rshare_over (p q s : Int) (bn qn sn : Nat) (A B M T X : Int) (w : World) (hp : 0 ≤ p) (hq : 1 ≤ q) (hs : 0 ≤ s) (hs' : s < 9223372036854775808) (hq' : q < 9223372036854775808) (hp' : p < 9223372036854775808) (hA : 0 ≤ A) (hA' : A < 9223372036854775808) (hB : 0 ≤ B) (hB' : B < q)
    (eA : p / q = A) (eB : p % q = B) (go : A = 0 ∨ (0 < A ∧ 9223372036854775807 / A = M ∧ s ≤ M)) (eT : wrap64 (A * s) = T) (hT : 0 ≤ T) (hT' : T ≤ 9223372036854775807)
    (QQ : Hid (q = qn)) (SS : Hid (s = sn)) (BB : Hid (B = (bn : Int))) (XX : Hid (X = ((bn * sn / qn : Nat) : Int))) (hsn : sn < 9223372036854775808) (hbq : bn < qn) (ov : 9223372036854775807 - T < X) :
    Calls Try.prog 9 #[.int .i64 p, .int .i64 q, .int .i64 s] w fun e w' => e = .returned (.tuple #[.int .i64 0, .int .i64 28]) ∧ ∃ n, w' = w.drewN n := by
  have START := hid (inv_start bn sn qn hsn (by omega))
  have HSN := hid hsn
  have HBQ := hid hbq
  rcases go with go | ⟨go1, go2, go3⟩
  · subst go
    obtain rfl : T = 0 := by rw [← eT, Int.zero_mul]; unfold wrap64; omega
    clear eT
    go_enter Try.func9, Try.ntmps9
    go_wp2
    go_quiet (fail)
    go_wp2
    go_loop [10, 11, 13] (fun a b c => ∃ Q R k : Int, a = .int .i64 Q ∧ b = .int .u64 R ∧ c = .int .i64 k ∧ 0 ≤ Q ∧ Q < 9223372036854775808 ∧ 0 ≤ R ∧ R < q ∧ -1 ≤ k ∧ k ≤ 62 ∧ Hid (Inv bn sn qn k Q R)) (fun _ _ c => (intOf c + 1).toNat)
    case atStart => exact ⟨0, 0, 62, rfl, rfl, rfl, by omega, by omega, by omega, by omega, by omega, by omega, START⟩
    case round =>
      obtain ⟨Q, R, k, rfl, rfl, rfl, hQ0, hQ1, hR0, hR1, hk0, hk1, I⟩ := hrel
      by_cases hk : 0 ≤ k
      · have bnd := inv_bound I.out hk hsn
        have bit2 : sn / 2 ^ k.toNat % 2 = 0 ∨ sn / 2 ^ k.toNat % 2 = 1 := by omega
        rcases bit2 with bit | bit
        · have hbit : bits .and .i64 (s / 2 ^ k.toNat) 1 = 0 := by rw [and1, SS.out, pow_cast, ← Int.natCast_ediv]; omega
          have NX := hid (fun Q' R' => inv_next (Q' := Q') (R' := R') I.out hk hbq)
          rw [bit] at NX
          have QQ' := QQ.out
          have BIT := hid bit
          clear bit
          by_cases c1 : q ≤ 2 * R
          · have NY := hid (NX.out (2 * Q + 1) (2 * R - q) (by omega) (by omega) (by omega) (by rw [Int.add_mul, Int.mul_assoc]; omega))
            clear QQ' NX I BIT
            go_wp2
            go_round
            case rel => exact ⟨_, _, _, rfl, rfl, rfl, by omega, by omega, by omega, by omega, by omega, by omega, NY⟩
            case measure => simp [intOf]; omega
          · have NY := hid (NX.out (2 * Q) (2 * R) (by omega) (by omega) (by omega) (by rw [Int.mul_assoc]; omega))
            clear QQ' NX I BIT
            go_wp2
            go_round
            case rel => exact ⟨_, _, _, rfl, rfl, rfl, by omega, by omega, by omega, by omega, by omega, by omega, NY⟩
            case measure => simp [intOf]; omega
        · have hbit : bits .and .i64 (s / 2 ^ k.toNat) 1 = 1 := by rw [and1, SS.out, pow_cast, ← Int.natCast_ediv]; omega
          have NX := hid (fun Q' R' => inv_next (Q' := Q') (R' := R') I.out hk hbq)
          rw [bit] at NX
          have QQ' := QQ.out
          have BB' := BB.out
          have BIT := hid bit
          clear bit
          by_cases c1 : q ≤ 2 * R
          · by_cases c2 : q ≤ 2 * R - q + B
            · have NY := hid (NX.out (2 * Q + 1 + 1) (2 * R - q + B - q) (by omega) (by omega) (by omega) (by rw [Int.add_mul, Int.add_mul, Int.mul_assoc]; omega))
              have top := inv_top NY.out hsn
              clear QQ' NX I BB' BIT
              go_wp2
              go_round
              case rel => exact ⟨_, _, _, rfl, rfl, rfl, by omega, by omega, by omega, by omega, by omega, by omega, NY⟩
              case measure => simp [intOf]; omega
            · have NY := hid (NX.out (2 * Q + 1) (2 * R - q + B) (by omega) (by omega) (by omega) (by rw [Int.add_mul, Int.mul_assoc]; omega))
              have top := inv_top NY.out hsn
              clear QQ' NX I BB' BIT
              go_wp2
              go_round
              case rel => exact ⟨_, _, _, rfl, rfl, rfl, by omega, by omega, by omega, by omega, by omega, by omega, NY⟩
              case measure => simp [intOf]; omega
          · by_cases c2 : q ≤ 2 * R + B
            · have NY := hid (NX.out (2 * Q + 1) (2 * R + B - q) (by omega) (by omega) (by omega) (by rw [Int.add_mul, Int.mul_assoc]; omega))
              have top := inv_top NY.out hsn
              clear QQ' NX I BB' BIT
              go_wp2
              go_round
              case rel => exact ⟨_, _, _, rfl, rfl, rfl, by omega, by omega, by omega, by omega, by omega, by omega, NY⟩
              case measure => simp [intOf]; omega
            · have NY := hid (NX.out (2 * Q) (2 * R + B) (by omega) (by omega) (by omega) (by rw [Int.mul_assoc]; omega))
              have top := inv_top NY.out hsn
              clear QQ' NX I BB' BIT
              go_wp2
              go_round
              case rel => exact ⟨_, _, _, rfl, rfl, rfl, by omega, by omega, by omega, by omega, by omega, by omega, NY⟩
              case measure => simp [intOf]; omega
      · obtain rfl : k = -1 := by omega
        have en := inv_end I.out
        rw [← XX.out] at en
        subst en
        clear I
        exfalso; omega
  · go_enter Try.func9, Try.ntmps9
    go_wp2
    go_quiet (fail)
    go_wp2
    go_loop [10, 11, 13] (fun a b c => ∃ Q R k : Int, a = .int .i64 Q ∧ b = .int .u64 R ∧ c = .int .i64 k ∧ 0 ≤ Q ∧ Q < 9223372036854775808 ∧ 0 ≤ R ∧ R < q ∧ -1 ≤ k ∧ k ≤ 62 ∧ Hid (Inv bn sn qn k Q R)) (fun _ _ c => (intOf c + 1).toNat)
    case atStart => exact ⟨0, 0, 62, rfl, rfl, rfl, by omega, by omega, by omega, by omega, by omega, by omega, START⟩
    case round =>
      obtain ⟨Q, R, k, rfl, rfl, rfl, hQ0, hQ1, hR0, hR1, hk0, hk1, I⟩ := hrel
      by_cases hk : 0 ≤ k
      · have bnd := inv_bound I.out hk hsn
        have bit2 : sn / 2 ^ k.toNat % 2 = 0 ∨ sn / 2 ^ k.toNat % 2 = 1 := by omega
        rcases bit2 with bit | bit
        · have hbit : bits .and .i64 (s / 2 ^ k.toNat) 1 = 0 := by rw [and1, SS.out, pow_cast, ← Int.natCast_ediv]; omega
          have NX := hid (fun Q' R' => inv_next (Q' := Q') (R' := R') I.out hk hbq)
          rw [bit] at NX
          have QQ' := QQ.out
          have BIT := hid bit
          clear bit
          by_cases c1 : q ≤ 2 * R
          · have NY := hid (NX.out (2 * Q + 1) (2 * R - q) (by omega) (by omega) (by omega) (by rw [Int.add_mul, Int.mul_assoc]; omega))
            clear QQ' NX I BIT
            go_wp2
            go_round
            case rel => exact ⟨_, _, _, rfl, rfl, rfl, by omega, by omega, by omega, by omega, by omega, by omega, NY⟩
            case measure => simp [intOf]; omega
          · have NY := hid (NX.out (2 * Q) (2 * R) (by omega) (by omega) (by omega) (by rw [Int.mul_assoc]; omega))
            clear QQ' NX I BIT
            go_wp2
            go_round
            case rel => exact ⟨_, _, _, rfl, rfl, rfl, by omega, by omega, by omega, by omega, by omega, by omega, NY⟩
            case measure => simp [intOf]; omega
        · have hbit : bits .and .i64 (s / 2 ^ k.toNat) 1 = 1 := by rw [and1, SS.out, pow_cast, ← Int.natCast_ediv]; omega
          have NX := hid (fun Q' R' => inv_next (Q' := Q') (R' := R') I.out hk hbq)
          rw [bit] at NX
          have QQ' := QQ.out
          have BB' := BB.out
          have BIT := hid bit
          clear bit
          by_cases c1 : q ≤ 2 * R
          · by_cases c2 : q ≤ 2 * R - q + B
            · have NY := hid (NX.out (2 * Q + 1 + 1) (2 * R - q + B - q) (by omega) (by omega) (by omega) (by rw [Int.add_mul, Int.add_mul, Int.mul_assoc]; omega))
              have top := inv_top NY.out hsn
              clear QQ' NX I BB' BIT
              go_wp2
              go_round
              case rel => exact ⟨_, _, _, rfl, rfl, rfl, by omega, by omega, by omega, by omega, by omega, by omega, NY⟩
              case measure => simp [intOf]; omega
            · have NY := hid (NX.out (2 * Q + 1) (2 * R - q + B) (by omega) (by omega) (by omega) (by rw [Int.add_mul, Int.mul_assoc]; omega))
              have top := inv_top NY.out hsn
              clear QQ' NX I BB' BIT
              go_wp2
              go_round
              case rel => exact ⟨_, _, _, rfl, rfl, rfl, by omega, by omega, by omega, by omega, by omega, by omega, NY⟩
              case measure => simp [intOf]; omega
          · by_cases c2 : q ≤ 2 * R + B
            · have NY := hid (NX.out (2 * Q + 1) (2 * R + B - q) (by omega) (by omega) (by omega) (by rw [Int.add_mul, Int.mul_assoc]; omega))
              have top := inv_top NY.out hsn
              clear QQ' NX I BB' BIT
              go_wp2
              go_round
              case rel => exact ⟨_, _, _, rfl, rfl, rfl, by omega, by omega, by omega, by omega, by omega, by omega, NY⟩
              case measure => simp [intOf]; omega
            · have NY := hid (NX.out (2 * Q) (2 * R + B) (by omega) (by omega) (by omega) (by rw [Int.mul_assoc]; omega))
              have top := inv_top NY.out hsn
              clear QQ' NX I BB' BIT
              go_wp2
              go_round
              case rel => exact ⟨_, _, _, rfl, rfl, rfl, by omega, by omega, by omega, by omega, by omega, by omega, NY⟩
              case measure => simp [intOf]; omega
      · obtain rfl : k = -1 := by omega
        have en := inv_end I.out
        rw [← XX.out] at en
        subst en
        clear I
        go_wp2
        go_ret2
        exact ⟨rfl, nq, rfl⟩
set_option maxHeartbeats 8000000 in
set_option maxRecDepth 100000 in
theorem rshare_fits (p q s : Int) (bn qn sn : Nat) (A B M T X : Int) (w : World) (hp : 0 ≤ p) (hq : 1 ≤ q) (hs : 0 ≤ s) (hs' : s < 9223372036854775808) (hq' : q < 9223372036854775808) (hp' : p < 9223372036854775808) (hA : 0 ≤ A) (hA' : A < 9223372036854775808) (hB : 0 ≤ B) (hB' : B < q)
    (eA : p / q = A) (eB : p % q = B) (go : A = 0 ∨ (0 < A ∧ 9223372036854775807 / A = M ∧ s ≤ M)) (eT : wrap64 (A * s) = T) (hT : 0 ≤ T) (hT' : T ≤ 9223372036854775807)
    (QQ : Hid (q = qn)) (SS : Hid (s = sn)) (BB : Hid (B = (bn : Int))) (XX : Hid (X = ((bn * sn / qn : Nat) : Int))) (hsn : sn < 9223372036854775808) (hbq : bn < qn) (ov : ¬ 9223372036854775807 - T < X) :
    Calls Try.prog 9 #[.int .i64 p, .int .i64 q, .int .i64 s] w fun e w' => e = .returned (.tuple #[.int .i64 (T + X), .int .i64 0]) ∧ ∃ n, w' = w.drewN n := by
  have START := hid (inv_start bn sn qn hsn (by omega))
  have HSN := hid hsn
  have HBQ := hid hbq
  rcases go with go | ⟨go1, go2, go3⟩
  · subst go
    obtain rfl : T = 0 := by rw [← eT, Int.zero_mul]; unfold wrap64; omega
    clear eT
    go_enter Try.func9, Try.ntmps9
    go_wp2
    go_quiet (fail)
    go_wp2
    go_loop [10, 11, 13] (fun a b c => ∃ Q R k : Int, a = .int .i64 Q ∧ b = .int .u64 R ∧ c = .int .i64 k ∧ 0 ≤ Q ∧ Q < 9223372036854775808 ∧ 0 ≤ R ∧ R < q ∧ -1 ≤ k ∧ k ≤ 62 ∧ Hid (Inv bn sn qn k Q R)) (fun _ _ c => (intOf c + 1).toNat)
    case atStart => exact ⟨0, 0, 62, rfl, rfl, rfl, by omega, by omega, by omega, by omega, by omega, by omega, START⟩
    case round =>
      obtain ⟨Q, R, k, rfl, rfl, rfl, hQ0, hQ1, hR0, hR1, hk0, hk1, I⟩ := hrel
      by_cases hk : 0 ≤ k
      · have bnd := inv_bound I.out hk hsn
        have bit2 : sn / 2 ^ k.toNat % 2 = 0 ∨ sn / 2 ^ k.toNat % 2 = 1 := by omega
        rcases bit2 with bit | bit
        · have hbit : bits .and .i64 (s / 2 ^ k.toNat) 1 = 0 := by rw [and1, SS.out, pow_cast, ← Int.natCast_ediv]; omega
          have NX := hid (fun Q' R' => inv_next (Q' := Q') (R' := R') I.out hk hbq)
          rw [bit] at NX
          have QQ' := QQ.out
          have BIT := hid bit
          clear bit
          by_cases c1 : q ≤ 2 * R
          · have NY := hid (NX.out (2 * Q + 1) (2 * R - q) (by omega) (by omega) (by omega) (by rw [Int.add_mul, Int.mul_assoc]; omega))
            clear QQ' NX I BIT
            go_wp2
            go_round
            case rel => exact ⟨_, _, _, rfl, rfl, rfl, by omega, by omega, by omega, by omega, by omega, by omega, NY⟩
            case measure => simp [intOf]; omega
          · have NY := hid (NX.out (2 * Q) (2 * R) (by omega) (by omega) (by omega) (by rw [Int.mul_assoc]; omega))
            clear QQ' NX I BIT
            go_wp2
            go_round
            case rel => exact ⟨_, _, _, rfl, rfl, rfl, by omega, by omega, by omega, by omega, by omega, by omega, NY⟩
            case measure => simp [intOf]; omega
        · have hbit : bits .and .i64 (s / 2 ^ k.toNat) 1 = 1 := by rw [and1, SS.out, pow_cast, ← Int.natCast_ediv]; omega
          have NX := hid (fun Q' R' => inv_next (Q' := Q') (R' := R') I.out hk hbq)
          rw [bit] at NX
          have QQ' := QQ.out
          have BB' := BB.out
          have BIT := hid bit
          clear bit
          by_cases c1 : q ≤ 2 * R
          · by_cases c2 : q ≤ 2 * R - q + B
            · have NY := hid (NX.out (2 * Q + 1 + 1) (2 * R - q + B - q) (by omega) (by omega) (by omega) (by rw [Int.add_mul, Int.add_mul, Int.mul_assoc]; omega))
              have top := inv_top NY.out hsn
              clear QQ' NX I BB' BIT
              go_wp2
              go_round
              case rel => exact ⟨_, _, _, rfl, rfl, rfl, by omega, by omega, by omega, by omega, by omega, by omega, NY⟩
              case measure => simp [intOf]; omega
            · have NY := hid (NX.out (2 * Q + 1) (2 * R - q + B) (by omega) (by omega) (by omega) (by rw [Int.add_mul, Int.mul_assoc]; omega))
              have top := inv_top NY.out hsn
              clear QQ' NX I BB' BIT
              go_wp2
              go_round
              case rel => exact ⟨_, _, _, rfl, rfl, rfl, by omega, by omega, by omega, by omega, by omega, by omega, NY⟩
              case measure => simp [intOf]; omega
          · by_cases c2 : q ≤ 2 * R + B
            · have NY := hid (NX.out (2 * Q + 1) (2 * R + B - q) (by omega) (by omega) (by omega) (by rw [Int.add_mul, Int.mul_assoc]; omega))
              have top := inv_top NY.out hsn
              clear QQ' NX I BB' BIT
              go_wp2
              go_round
              case rel => exact ⟨_, _, _, rfl, rfl, rfl, by omega, by omega, by omega, by omega, by omega, by omega, NY⟩
              case measure => simp [intOf]; omega
            · have NY := hid (NX.out (2 * Q) (2 * R + B) (by omega) (by omega) (by omega) (by rw [Int.mul_assoc]; omega))
              have top := inv_top NY.out hsn
              clear QQ' NX I BB' BIT
              go_wp2
              go_round
              case rel => exact ⟨_, _, _, rfl, rfl, rfl, by omega, by omega, by omega, by omega, by omega, by omega, NY⟩
              case measure => simp [intOf]; omega
      · obtain rfl : k = -1 := by omega
        have en := inv_end I.out
        rw [← XX.out] at en
        subst en
        clear I
        go_wp2
        go_ret2
        exact ⟨rfl, nq, rfl⟩
  · go_enter Try.func9, Try.ntmps9
    go_wp2
    go_quiet (fail)
    go_wp2
    go_loop [10, 11, 13] (fun a b c => ∃ Q R k : Int, a = .int .i64 Q ∧ b = .int .u64 R ∧ c = .int .i64 k ∧ 0 ≤ Q ∧ Q < 9223372036854775808 ∧ 0 ≤ R ∧ R < q ∧ -1 ≤ k ∧ k ≤ 62 ∧ Hid (Inv bn sn qn k Q R)) (fun _ _ c => (intOf c + 1).toNat)
    case atStart => exact ⟨0, 0, 62, rfl, rfl, rfl, by omega, by omega, by omega, by omega, by omega, by omega, START⟩
    case round =>
      obtain ⟨Q, R, k, rfl, rfl, rfl, hQ0, hQ1, hR0, hR1, hk0, hk1, I⟩ := hrel
      by_cases hk : 0 ≤ k
      · have bnd := inv_bound I.out hk hsn
        have bit2 : sn / 2 ^ k.toNat % 2 = 0 ∨ sn / 2 ^ k.toNat % 2 = 1 := by omega
        rcases bit2 with bit | bit
        · have hbit : bits .and .i64 (s / 2 ^ k.toNat) 1 = 0 := by rw [and1, SS.out, pow_cast, ← Int.natCast_ediv]; omega
          have NX := hid (fun Q' R' => inv_next (Q' := Q') (R' := R') I.out hk hbq)
          rw [bit] at NX
          have QQ' := QQ.out
          have BIT := hid bit
          clear bit
          by_cases c1 : q ≤ 2 * R
          · have NY := hid (NX.out (2 * Q + 1) (2 * R - q) (by omega) (by omega) (by omega) (by rw [Int.add_mul, Int.mul_assoc]; omega))
            clear QQ' NX I BIT
            go_wp2
            go_round
            case rel => exact ⟨_, _, _, rfl, rfl, rfl, by omega, by omega, by omega, by omega, by omega, by omega, NY⟩
            case measure => simp [intOf]; omega
          · have NY := hid (NX.out (2 * Q) (2 * R) (by omega) (by omega) (by omega) (by rw [Int.mul_assoc]; omega))
            clear QQ' NX I BIT
            go_wp2
            go_round
            case rel => exact ⟨_, _, _, rfl, rfl, rfl, by omega, by omega, by omega, by omega, by omega, by omega, NY⟩
            case measure => simp [intOf]; omega
        · have hbit : bits .and .i64 (s / 2 ^ k.toNat) 1 = 1 := by rw [and1, SS.out, pow_cast, ← Int.natCast_ediv]; omega
          have NX := hid (fun Q' R' => inv_next (Q' := Q') (R' := R') I.out hk hbq)
          rw [bit] at NX
          have QQ' := QQ.out
          have BB' := BB.out
          have BIT := hid bit
          clear bit
          by_cases c1 : q ≤ 2 * R
          · by_cases c2 : q ≤ 2 * R - q + B
            · have NY := hid (NX.out (2 * Q + 1 + 1) (2 * R - q + B - q) (by omega) (by omega) (by omega) (by rw [Int.add_mul, Int.add_mul, Int.mul_assoc]; omega))
              have top := inv_top NY.out hsn
              clear QQ' NX I BB' BIT
              go_wp2
              go_round
              case rel => exact ⟨_, _, _, rfl, rfl, rfl, by omega, by omega, by omega, by omega, by omega, by omega, NY⟩
              case measure => simp [intOf]; omega
            · have NY := hid (NX.out (2 * Q + 1) (2 * R - q + B) (by omega) (by omega) (by omega) (by rw [Int.add_mul, Int.mul_assoc]; omega))
              have top := inv_top NY.out hsn
              clear QQ' NX I BB' BIT
              go_wp2
              go_round
              case rel => exact ⟨_, _, _, rfl, rfl, rfl, by omega, by omega, by omega, by omega, by omega, by omega, NY⟩
              case measure => simp [intOf]; omega
          · by_cases c2 : q ≤ 2 * R + B
            · have NY := hid (NX.out (2 * Q + 1) (2 * R + B - q) (by omega) (by omega) (by omega) (by rw [Int.add_mul, Int.mul_assoc]; omega))
              have top := inv_top NY.out hsn
              clear QQ' NX I BB' BIT
              go_wp2
              go_round
              case rel => exact ⟨_, _, _, rfl, rfl, rfl, by omega, by omega, by omega, by omega, by omega, by omega, NY⟩
              case measure => simp [intOf]; omega
            · have NY := hid (NX.out (2 * Q) (2 * R + B) (by omega) (by omega) (by omega) (by rw [Int.mul_assoc]; omega))
              have top := inv_top NY.out hsn
              clear QQ' NX I BB' BIT
              go_wp2
              go_round
              case rel => exact ⟨_, _, _, rfl, rfl, rfl, by omega, by omega, by omega, by omega, by omega, by omega, NY⟩
              case measure => simp [intOf]; omega
      · obtain rfl : k = -1 := by omega
        have en := inv_end I.out
        rw [← XX.out] at en
        subst en
        clear I
        go_wp2
        go_ret2
        exact ⟨rfl, nq, rfl⟩
end Go.Proofs.Ytnlohjcjboelgaa
