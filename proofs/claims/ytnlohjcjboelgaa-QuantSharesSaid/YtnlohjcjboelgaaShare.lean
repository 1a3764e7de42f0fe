import Derived.Test.YtnlohjcjboelgaaDiv64
namespace Go.Proofs.Ytnlohjcjboelgaa
open Go.RowKit Go.Lib
set_option maxHeartbeats 1000000 in
theorem share_zero (p q s : Int) (h : p < 0 ∨ s < 0 ∨ q < 1) (w : World) :
    Calls Try.prog 8 #[.int .i64 p, .int .i64 q, .int .i64 s] w fun e w' => e = .returned (.tuple #[.int .i64 0, .int .i64 26]) ∧ w' = w := by
  by_cases a : p < 0
  · go_enter Try.func8, Try.ntmps8
    go_wp2
    go_ret2
    exact ⟨rfl, rfl⟩
  by_cases b : s < 0
  · go_enter Try.func8, Try.ntmps8
    go_wp2
    go_ret2
    exact ⟨rfl, rfl⟩
  have c : q < 1 := by omega
  go_enter Try.func8, Try.ntmps8
  go_wp2
  go_ret2
  exact ⟨rfl, rfl⟩
theorem over_high (p s q : Nat) (hq : 0 < q) (h : q ≤ p * s / 18446744073709551616) : 9223372036854775807 < p * s / q := by
  have : 18446744073709551616 ≤ p * s / q := by
    rw [Nat.le_div_iff_mul_le hq]
    have := Nat.div_mul_le_self (p * s) 18446744073709551616
    have := Nat.mul_le_mul_right 18446744073709551616 h
    omega
  omega
/-- What Share answers, as a pair. -/
def shareN (p q s : Nat) : Nat × Int := if 9223372036854775807 < p * s / q then (0, 28) else (p * s / q, 0)
set_option maxHeartbeats 4000000 in
theorem share_any (p q s : Nat) (hp : p < 9223372036854775808) (hq : q < 9223372036854775808) (hs : s < 9223372036854775808) (q1 : 1 ≤ q) (w : World) :
    Calls Try.prog 8 #[.int .i64 (p : Int), .int .i64 (q : Int), .int .i64 (s : Int)] w fun e w' => e = .returned (.tuple #[.int .i64 ((shareN p q s).1 : Int), .int .i64 (shareN p q s).2]) ∧ ∃ n, w' = w.drewN n := by
  have hm := hid (fun W => mul64 p s (by omega) (by omega) W)
  have hlb : p * s % 18446744073709551616 < 18446744073709551616 := Nat.mod_lt _ (by decide)
  have hd := Nat.div_add_mod (p * s) 18446744073709551616
  have hhb : p * s / 18446744073709551616 < 18446744073709551616 := by
    rw [Nat.div_lt_iff_lt_mul (by decide)]
    exact Nat.mul_lt_mul'' (by omega) (by omega)
  have hoh := over_high p s q q1
  generalize hh : p * s / 18446744073709551616 = hi at *
  generalize hl : p * s % 18446744073709551616 = lo at *
  have HH := hid hh
  have HD := hid hd
  clear hh hl hd
  by_cases c : q ≤ hi
  · have ov := hid (hoh c)
    go_enter Try.func8, Try.ntmps8
    go_wp2_with (go_at_call 18; refine (hm.out _).mono ?_; rintro e w1 ⟨rfl, hww⟩; subst hww)
    go_ret2
    exact ⟨by unfold shareN; rw [if_pos ov.out]; rfl, 0, rfl⟩
  · have hv := hid (fun W => div64 hi lo q hlb (by omega) (by omega) W)
    have HE := hid (show hi * 18446744073709551616 + lo = p * s by rw [Nat.mul_comm]; exact HD.out)
    rw [HE.out] at hv
    unfold shareN
    clear hoh HD HH HE
    generalize p * s / q = n at *
    by_cases c2 : 9223372036854775807 < n
    · go_enter Try.func8, Try.ntmps8
      go_wp2_with (first | (go_at_call 18; refine (hm.out _).mono ?_; rintro e w1 ⟨rfl, hww⟩; subst hww) | (go_at_call 19; refine (hv.out _).mono ?_; rintro e w1 ⟨r, rfl, k, hww⟩; subst hww))
      go_ret2
      exact ⟨rfl, k, rfl⟩
    · go_enter Try.func8, Try.ntmps8
      go_wp2_with (first | (go_at_call 18; refine (hm.out _).mono ?_; rintro e w1 ⟨rfl, hww⟩; subst hww) | (go_at_call 19; refine (hv.out _).mono ?_; rintro e w1 ⟨r, rfl, k, hww⟩; subst hww))
      go_ret2
      exact ⟨rfl, k, rfl⟩
end Go.Proofs.Ytnlohjcjboelgaa
