import Derived.Test.YtnlohjcjboelgaaRShare
namespace Go.Proofs.Ytnlohjcjboelgaa
open Go.RowKit Go.Lib
set_option linter.unusedVariables false
set_option maxHeartbeats 4000000 in
theorem rshare_early (p q s A M : Int) (w : World) (hp : 0 ≤ p) (hq : 1 ≤ q) (hs : 0 ≤ s) (hs' : s < 9223372036854775808) (hq' : q < 9223372036854775808) (hp' : p < 9223372036854775808) (hA : 0 < A) (hA' : A < 9223372036854775808)
    (eA : p / q = A) (go2 : 9223372036854775807 / A = M) (go3 : M < s) :
    Calls Try.prog 9 #[.int .i64 p, .int .i64 q, .int .i64 s] w fun e w' => e = .returned (.tuple #[.int .i64 0, .int .i64 28]) ∧ ∃ n, w' = w.drewN n := by
  go_enter Try.func9, Try.ntmps9
  go_wp2
  go_quiet (fail)
  go_wp2
  go_ret2
  exact ⟨rfl, nq, rfl⟩
theorem share_parts (p q s : Nat) (hq : 0 < q) : p * s / q = p / q * s + p % q * s / q := by
  have e := Nat.div_add_mod p q
  conv => lhs; rw [← e, Nat.add_mul, Nat.mul_assoc, Nat.mul_add_div hq]
theorem rshare_any (p q s : Nat) (hp : p < 9223372036854775808) (hq : q < 9223372036854775808) (hs : s < 9223372036854775808) (q1 : 1 ≤ q) (w : World) :
    Calls Try.prog 9 #[.int .i64 (p : Int), .int .i64 (q : Int), .int .i64 (s : Int)] w fun e w' => e = .returned (.tuple #[.int .i64 ((shareN p q s).1 : Int), .int .i64 (shareN p q s).2]) ∧ ∃ n, w' = w.drewN n := by
  have sp := share_parts p q s q1
  have al : p / q ≤ p := Nat.div_le_self _ _
  have bl := Nat.mod_lt p q1
  unfold shareN
  rw [sp]
  have eA : (p : Int) / (q : Int) = ((p / q : Nat) : Int) := rfl
  have eB : (p : Int) % (q : Int) = ((p % q : Nat) : Int) := rfl
  clear sp
  generalize p / q = a at *
  generalize p % q = b at *
  by_cases early : 0 < a ∧ 9223372036854775807 / a < s
  · obtain ⟨e1, e2⟩ := early
    have o : 9223372036854775807 < a * s := by
      rw [Nat.div_lt_iff_lt_mul e1, Nat.mul_comm] at e2; exact e2
    rw [if_pos (Nat.lt_of_lt_of_le o (Nat.le_add_right _ _))]
    exact rshare_early p q s a ((9223372036854775807 / a : Nat) : Int) w (by omega) (by omega) (by omega) (by omega) (by omega) (by omega) (by omega) (by omega) eA rfl (by omega)
  · have o : a * s ≤ 9223372036854775807 := by
      by_cases z : a = 0
      · subst z; omega
      · have e2 : ¬ 9223372036854775807 / a < s := fun h => early ⟨by omega, h⟩
        rw [Nat.div_lt_iff_lt_mul (by omega), Nat.mul_comm] at e2
        omega
    have go : (a : Int) = 0 ∨ (0 < (a : Int) ∧ 9223372036854775807 / (a : Int) = ((9223372036854775807 / a : Nat) : Int) ∧ (s : Int) ≤ ((9223372036854775807 / a : Nat) : Int)) := by
      by_cases z : a = 0
      · exact Or.inl (by omega)
      · refine Or.inr ⟨by omega, rfl, ?_⟩
        have : ¬ 9223372036854775807 / a < s := fun h => early ⟨by omega, h⟩
        generalize 9223372036854775807 / a = M at *
        omega
    have eT : wrap64 ((a : Int) * (s : Int)) = ((a * s : Nat) : Int) := by
      rw [← Int.natCast_mul]; unfold wrap64; omega
    by_cases ov : 9223372036854775807 < a * s + b * s / q
    · rw [if_pos ov]
      exact rshare_over p q s b q s a b _ _ _ w (by omega) (by omega) (by omega) (by omega) (by omega) (by omega) (by omega) (by omega) (by omega) (by omega) eA eB go eT (by omega) (by omega) (hid rfl) (hid rfl) (hid rfl) (hid rfl) hs bl (by omega)
    · rw [if_neg ov]
      have := rshare_fits p q s b q s a b _ _ _ w (by omega) (by omega) (by omega) (by omega) (by omega) (by omega) (by omega) (by omega) (by omega) (by omega) eA eB go eT (by omega) (by omega) (hid rfl) (hid rfl) (hid rfl) (hid rfl) hs bl (by omega)
      rw [← Int.natCast_add] at this
      exact this
end Go.Proofs.Ytnlohjcjboelgaa
