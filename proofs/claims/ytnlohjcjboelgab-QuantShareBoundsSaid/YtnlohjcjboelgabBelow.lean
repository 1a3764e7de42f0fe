import Derived.Test.YtnlohjcjboelgabWide
namespace Go.Proofs.Ytnlohjcjboelgab
open Go.RowKit Go.Lib
set_option linter.unusedVariables false
theorem below_drewN {B : Nat} {a w : World} (h : Below B a w) (n : Nat) : Below B a (w.drewN n) := ⟨h.os, h.tape, h.output, h.size, h.block⟩
theorem dparts (n : Nat) : n = d3 n * 79228162514264337593543950336 + d2 n * 18446744073709551616 + d1 n * 4294967296 + d0 n ∧ d2 n < 4294967296 ∧ d1 n < 4294967296 ∧ d0 n < 4294967296 := by
  unfold d0 d1 d2 d3
  omega
theorem dparts_mk (n a b c e : Nat) (h : n = a * 79228162514264337593543950336 + b * 18446744073709551616 + c * 4294967296 + e) (hb : b < 4294967296) (hc : c < 4294967296) (he : e < 4294967296) : d3 n = a ∧ d2 n = b ∧ d1 n = c ∧ d0 n = e := by
  unfold d0 d1 d2 d3
  omega
theorem d3_lt (n : Nat) (h : n < 340282366920938463463374607431768211456) : d3 n < 4294967296 := by unfold d3; omega
theorem plus_any (n k : Nat) (hn : n < 170141183460469231731687303715884105728) (hk : k < 9223372036854775808) (w : World) :
    Calls Try.prog 17 #[digs n, .int .i64 (k : Int)] w fun e w' => e = .returned (digs (n + k)) ∧ Below w.heap.size w w' := by
  have h3 : d3 n < 2147483648 := by unfold d3; omega
  obtain ⟨e, l2, l1, l0⟩ := dparts n
  obtain ⟨r3, r2, r1, r0⟩ := dparts_mk (n + k) (d3 n + (d2 n + (d1 n + k / 4294967296 + (d0 n + k % 4294967296) / 4294967296) / 4294967296) / 4294967296)
    ((d2 n + (d1 n + k / 4294967296 + (d0 n + k % 4294967296) / 4294967296) / 4294967296) % 4294967296) ((d1 n + k / 4294967296 + (d0 n + k % 4294967296) / 4294967296) % 4294967296) ((d0 n + k % 4294967296) % 4294967296)
    (by omega) (by omega) (by omega) (by omega)
  unfold digs
  rw [r3, r2, r1, r0]
  clear r3 r2 r1 r0 e
  generalize d3 n = a3 at *
  generalize d2 n = a2 at *
  generalize d1 n = a1 at *
  generalize d0 n = a0 at *
  exact plus_walk a0 a1 a2 a3 k (k % 4294967296 : Nat) (k / 4294967296 : Nat) (a0 + k % 4294967296 : Nat) (a1 + k / 4294967296 : Nat) (a1 + k / 4294967296 + (a0 + k % 4294967296) / 4294967296 : Nat)
    (a2 + (a1 + k / 4294967296 + (a0 + k % 4294967296) / 4294967296) / 4294967296 : Nat) _ _ _ _ w (by omega) (maskI k) (by omega) (by omega) (by omega) (by omega) (by omega)
    (by omega) (by omega) (by omega) (by omega) (by omega) (by omega) (by omega) (by omega) (by omega) (by omega) (by omega) (maskI _) (by omega) (maskI _) (by omega) (maskI _)
    (by omega) (by omega) (by omega) (by omega) (by omega) (by omega) (by omega) (by omega) (by omega) (by omega)
set_option maxHeartbeats 4000000 in
set_option maxRecDepth 100000 in
theorem below_walk (a0 a1 a2 a3 b0 b1 b2 b3 : Int) (r : Bool) (w : World)
    (h : (¬ a3 = b3 ∧ r = decide (a3 < b3)) ∨ (a3 = b3 ∧ ¬ a2 = b2 ∧ r = decide (a2 < b2)) ∨ (a3 = b3 ∧ a2 = b2 ∧ ¬ a1 = b1 ∧ r = decide (a1 < b1)) ∨ (a3 = b3 ∧ a2 = b2 ∧ a1 = b1 ∧ ¬ a0 = b0 ∧ r = decide (a0 < b0)) ∨ (a3 = b3 ∧ a2 = b2 ∧ a1 = b1 ∧ a0 = b0 ∧ r = false)) :
    Calls Try.prog 18 #[.agg #[.int .i64 a0, .int .i64 a1, .int .i64 a2, .int .i64 a3], .agg #[.int .i64 b0, .int .i64 b1, .int .i64 b2, .int .i64 b3]] w fun e w' => e = .returned (.bool r) ∧ Below w.heap.size w w' := by
  rcases h with ⟨n, hr⟩ | ⟨e3, n, hr⟩ | ⟨e3, e2, n, hr⟩ | ⟨e3, e2, e1, n, hr⟩ | ⟨e3, e2, e1, e0, hr⟩
  all_goals have HR := hid hr
  all_goals clear hr
  · go_enter Try.func18, Try.ntmps18
    go_wp2
    refine wp_loop_rounds 5 ?_
    rw [rounds_succ]; go_wp2; go_quiet (fail); go_wp2; go_quiet (fail); go_wp2
    go_ret
    exact ⟨ret_bool HR.out.symm, by (repeat (refine below_drewN ?_ _)); go_grown⟩
  · subst e3
    go_enter Try.func18, Try.ntmps18
    go_wp2
    refine wp_loop_rounds 5 ?_
    iterate 1 (rw [rounds_succ]; go_wp2; go_quiet (fail); go_wp2)
    rw [rounds_succ]; go_wp2; go_quiet (fail); go_wp2; go_quiet (fail); go_wp2
    go_ret
    exact ⟨ret_bool HR.out.symm, by (repeat (refine below_drewN ?_ _)); go_grown⟩
  · subst e3 e2
    go_enter Try.func18, Try.ntmps18
    go_wp2
    refine wp_loop_rounds 5 ?_
    iterate 2 (rw [rounds_succ]; go_wp2; go_quiet (fail); go_wp2)
    rw [rounds_succ]; go_wp2; go_quiet (fail); go_wp2; go_quiet (fail); go_wp2
    go_ret
    exact ⟨ret_bool HR.out.symm, by (repeat (refine below_drewN ?_ _)); go_grown⟩
  · subst e3 e2 e1
    go_enter Try.func18, Try.ntmps18
    go_wp2
    refine wp_loop_rounds 5 ?_
    iterate 3 (rw [rounds_succ]; go_wp2; go_quiet (fail); go_wp2)
    rw [rounds_succ]; go_wp2; go_quiet (fail); go_wp2; go_quiet (fail); go_wp2
    go_ret
    exact ⟨ret_bool HR.out.symm, by (repeat (refine below_drewN ?_ _)); go_grown⟩
  · subst e3 e2 e1 e0
    go_enter Try.func18, Try.ntmps18
    go_wp2
    refine wp_loop_rounds 5 ?_
    iterate 4 (rw [rounds_succ]; go_wp2; go_quiet (fail); go_wp2)
    rw [rounds_succ]; go_wp2
    go_ret
    exact ⟨ret_bool HR.out.symm, by (repeat (refine below_drewN ?_ _)); go_grown⟩
theorem below_any (n m : Nat) (w : World) :
    Calls Try.prog 18 #[digs n, digs m] w fun e w' => e = .returned (.bool (decide (n < m))) ∧ Below w.heap.size w w' := by
  obtain ⟨en, n2, n1, n0⟩ := dparts n
  obtain ⟨em, m2, m1, m0⟩ := dparts m
  refine below_walk _ _ _ _ _ _ _ _ _ w ?_
  generalize d3 n = a3 at *
  generalize d2 n = a2 at *
  generalize d1 n = a1 at *
  generalize d0 n = a0 at *
  generalize d3 m = b3 at *
  generalize d2 m = b2 at *
  generalize d1 m = b1 at *
  generalize d0 m = b0 at *
  by_cases e3 : a3 = b3
  · by_cases e2 : a2 = b2
    · by_cases e1 : a1 = b1
      · by_cases e0 : a0 = b0
        · refine Or.inr (Or.inr (Or.inr (Or.inr ⟨by omega, by omega, by omega, by omega, ?_⟩)))
          rw [decide_eq_false_iff_not]; omega
        · refine Or.inr (Or.inr (Or.inr (Or.inl ⟨by omega, by omega, by omega, by omega, ?_⟩)))
          rw [decide_eq_decide]; omega
      · refine Or.inr (Or.inr (Or.inl ⟨by omega, by omega, by omega, ?_⟩))
        rw [decide_eq_decide]; omega
    · refine Or.inr (Or.inl ⟨by omega, by omega, ?_⟩)
      rw [decide_eq_decide]; omega
  · refine Or.inl ⟨by omega, ?_⟩
    rw [decide_eq_decide]; omega
end Go.Proofs.Ytnlohjcjboelgab
