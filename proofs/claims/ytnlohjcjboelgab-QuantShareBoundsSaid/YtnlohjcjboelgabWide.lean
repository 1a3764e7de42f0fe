import Derived.Test.YtnlohjcjboelgabShare
import Derived.Handy
namespace Go.Proofs.Ytnlohjcjboelgab
open Go.RowKit Go.Lib
set_option linter.unusedVariables false
/-- The four digits, to the base 2^32, of a number, the least first. -/
def d0 (n : Nat) : Nat := n % 4294967296
def d1 (n : Nat) : Nat := n / 4294967296 % 4294967296
def d2 (n : Nat) : Nat := n / 18446744073709551616 % 4294967296
def d3 (n : Nat) : Nat := n / 79228162514264337593543950336
def digs (n : Nat) : Value := .agg #[.int .i64 (d0 n : Nat), .int .i64 (d1 n : Nat), .int .i64 (d2 n : Nat), .int .i64 (d3 n : Nat)]
set_option maxHeartbeats 4000000 in
set_option maxRecDepth 100000 in
theorem wide_walk (a b al ah bl bh x1 p0 m1 x2 m2 y k x3 m3 x4 p1 p2 p3 : Int) (w : World)
    (eah : a / 4294967296 = ah) (ebh : b / 4294967296 = bh)
    (ea1 : bits .and .i64 a 4294967295 = al) (eb1 : bits .and .i64 b 4294967295 = bl)
    (bal : 0 ≤ al) (bal' : al < 4294967296) (bbl : 0 ≤ bl) (bbl' : bl < 4294967296) (bah : 0 ≤ ah) (bah' : ah < 4294967296) (bbh : 0 ≤ bh) (bbh' : bh < 4294967296)
    (e1 : IntKind.u64.wrap (al * bl) = x1) (e2 : bits .and .u64 x1 4294967295 = p0) (e3 : IntKind.u64.wrap (al * bh) = m1)
    (bp0 : 0 ≤ p0) (bp0' : p0 < 4294967296)
    (e4 : IntKind.u64.wrap (x1 / 4294967296 + m1) = x2) (e5 : bits .and .u64 x2 4294967295 = k) (e6 : IntKind.u64.wrap (ah * bl) = m2) (e7 : IntKind.u64.wrap (k + m2) = y)
    (e8 : bits .and .u64 y 4294967295 = p1) (bp1 : 0 ≤ p1) (bp1' : p1 < 4294967296)
    (e9 : IntKind.u64.wrap (x2 / 4294967296 + y / 4294967296) = x3) (e10 : IntKind.u64.wrap (ah * bh) = m3) (e11 : IntKind.u64.wrap (x3 + m3) = x4)
    (e12 : bits .and .u64 x4 4294967295 = p2) (bp2 : 0 ≤ p2) (bp2' : p2 < 4294967296)
    (e13 : x4 / 4294967296 = p3) (bp3 : 0 ≤ p3) (bp3' : p3 < 4294967296) :
    Calls Try.prog 16 #[.int .i64 a, .int .i64 b] w fun e w' => e = .returned (.agg #[.int .i64 p0, .int .i64 p1, .int .i64 p2, .int .i64 p3]) ∧ Below w.heap.size w w' := by
  go_enter Try.func16, Try.ntmps16
  go_wp2
  refine bodyPost_ret (v := .agg #[.int .i64 p0, .int .i64 p1, .int .i64 p2, .int .i64 p3]) (by simp [results, Try.results16, go_sem]) rfl ⟨rfl, ?_⟩
  go_grown
theorem and32 (n : Int) : bits .and .i64 n 4294967295 = n % 4294967296 := by
  have h : (BitVec.ofInt 64 4294967295).toNat = 2 ^ 32 - 1 := by decide
  have key : (BitVec.ofInt 64 n &&& BitVec.ofInt 64 4294967295).toNat = (n % ((2 ^ 64 : Nat) : Int)).toNat % 2 ^ 32 := by
    rw [BitVec.toNat_and, BitVec.toNat_ofInt, h, Nat.and_two_pow_sub_one_eq_mod]
  show IntKind.i64.wrap ((BitVec.ofInt 64 n &&& BitVec.ofInt 64 4294967295).toNat : Nat) = n % 4294967296
  rw [key, IntKind.wrap_i64]
  omega
theorem maskI (a : Nat) : bits .and .i64 (a : Int) 4294967295 = ((a % 4294967296 : Nat) : Int) := by rw [and32]; omega
theorem mulW {a b : Nat} (ha : a ≤ 4294967295) (hb : b ≤ 4294967295) : IntKind.u64.wrap ((a : Int) * (b : Int)) = ((a * b : Nat) : Int) := by
  have := Lib.half_mul_le ha hb
  rw [← Int.natCast_mul, wrapN _ (by omega)]
theorem wide_num (P M1 M2 M3 N : Nat) (h0 : P ≤ 18446744065119617025) (h1 : M1 ≤ 18446744065119617025) (h2 : M2 ≤ 18446744065119617025) (h3 : M3 ≤ 4611686014132420609) (hN : N = M3 * 18446744073709551616 + (M2 + M1) * 4294967296 + P) :
    d0 N = P % 4294967296 ∧ d1 N = ((P / 4294967296 + M1) % 4294967296 + M2) % 4294967296 ∧
    d2 N = ((P / 4294967296 + M1) / 4294967296 + ((P / 4294967296 + M1) % 4294967296 + M2) / 4294967296 + M3) % 4294967296 ∧
    d3 N = ((P / 4294967296 + M1) / 4294967296 + ((P / 4294967296 + M1) % 4294967296 + M2) / 4294967296 + M3) / 4294967296 := by
  subst hN
  unfold d0 d1 d2 d3
  refine ⟨by omega, by omega, by omega, by omega⟩
theorem wide_any (a b : Nat) (ha : a < 9223372036854775808) (hb : b < 9223372036854775808) (w : World) :
    Calls Try.prog 16 #[.int .i64 (a : Int), .int .i64 (b : Int)] w fun e w' => e = .returned (digs (a * b)) ∧ Below w.heap.size w w' := by
  have hP := Lib.half_mul_le (a := a % 4294967296) (b := b % 4294967296) (by omega) (by omega)
  have hM1 := Lib.half_mul_le (a := a % 4294967296) (b := b / 4294967296) (by omega) (by omega)
  have hM2 := Lib.half_mul_le (a := a / 4294967296) (b := b % 4294967296) (by omega) (by omega)
  have hM3 : a / 4294967296 * (b / 4294967296) ≤ 4611686014132420609 := Nat.mul_le_mul (show a / 4294967296 ≤ 2147483647 by omega) (show b / 4294967296 ≤ 2147483647 by omega)
  have e : a * b = (a / 4294967296) * (b / 4294967296) * (4294967296 * 4294967296) + ((a / 4294967296) * (b % 4294967296) + (a % 4294967296) * (b / 4294967296)) * 4294967296 + (a % 4294967296) * (b % 4294967296) := by
    rw [← Lib.split_mul, Nat.div_add_mod' a 4294967296, Nat.div_add_mod' b 4294967296]
  have w1 := mulW (a := a % 4294967296) (b := b % 4294967296) (by omega) (by omega)
  have w2 := mulW (a := a % 4294967296) (b := b / 4294967296) (by omega) (by omega)
  have w3 := mulW (a := a / 4294967296) (b := b % 4294967296) (by omega) (by omega)
  have w4 := mulW (a := a / 4294967296) (b := b / 4294967296) (by omega) (by omega)
  obtain ⟨r0, r1, r2, r3⟩ := wide_num _ _ _ _ (a * b) hP hM1 hM2 hM3 e
  unfold digs
  rw [r0, r1, r2, r3]
  generalize (a % 4294967296) * (b % 4294967296) = P at *
  generalize (a % 4294967296) * (b / 4294967296) = M1 at *
  generalize (a / 4294967296) * (b % 4294967296) = M2 at *
  generalize (a / 4294967296) * (b / 4294967296) = M3 at *
  clear e r0 r1 r2 r3
  refine wide_walk a b (a % 4294967296 : Nat) (a / 4294967296 : Nat) (b % 4294967296 : Nat) (b / 4294967296 : Nat) P _ M1 (P / 4294967296 + M1 : Nat) M2 ((P / 4294967296 + M1) % 4294967296 + M2 : Nat) ((P / 4294967296 + M1) % 4294967296 : Nat)
    ((P / 4294967296 + M1) / 4294967296 + ((P / 4294967296 + M1) % 4294967296 + M2) / 4294967296 : Nat) M3 ((P / 4294967296 + M1) / 4294967296 + ((P / 4294967296 + M1) % 4294967296 + M2) / 4294967296 + M3 : Nat) _ _ _ w
    (by omega) (by omega) (maskI a) (maskI b) (by omega) (by omega) (by omega) (by omega) (by omega) (by omega) (by omega) (by omega)
    w1 (maskN P (by omega)) w2 (by omega) (by omega) ?_ (maskN _ (by omega)) w3 ?_ (maskN _ (by omega)) (by omega) (by omega) ?_ w4 ?_ (maskN _ (by omega)) (by omega) (by omega) (divN _) (by omega) (by omega)
  · rw [divN, addN, wrapN _ (by omega)]
  · rw [addN, wrapN _ (by omega)]
  · rw [divN, divN, addN, wrapN _ (by omega)]
  · rw [addN, wrapN _ (by omega)]
set_option maxHeartbeats 4000000 in
set_option maxRecDepth 100000 in
theorem plus_walk (a0 a1 a2 a3 k kl kh c0 c1 f1 f2 f3 e0 e1 e2 : Int) (w : World) (hk : 0 ≤ k)
    (ekl : bits .and .i64 k 4294967295 = kl) (ekh : k / 4294967296 = kh) (bkl : 0 ≤ kl) (bkl' : kl < 4294967296) (bkh : 0 ≤ kh) (bkh' : kh < 4294967296)
    (b0 : 0 ≤ a0) (b0' : a0 < 4294967296) (b1 : 0 ≤ a1) (b1' : a1 < 4294967296) (b2 : 0 ≤ a2) (b2' : a2 < 4294967296) (b3 : 0 ≤ a3) (b3' : a3 < 4294967296)
    (g0 : a0 + kl = c0) (g1 : a1 + kh = c1) (g2 : c1 + c0 / 4294967296 = f1) (g3 : bits .and .i64 c0 4294967295 = e0)
    (g4 : a2 + f1 / 4294967296 = f2) (g5 : bits .and .i64 f1 4294967295 = e1) (g6 : a3 + f2 / 4294967296 = f3) (g7 : bits .and .i64 f2 4294967295 = e2)
    (bc0 : 0 ≤ c0) (bc0' : c0 < 8589934592) (bc1 : 0 ≤ c1) (bc1' : c1 < 8589934592) (bf1 : 0 ≤ f1) (bf1' : f1 < 8589934592) (bf2 : 0 ≤ f2) (bf2' : f2 < 8589934592) (bf3 : 0 ≤ f3) (bf3' : f3 < 8589934592) :
    Calls Try.prog 17 #[.agg #[.int .i64 a0, .int .i64 a1, .int .i64 a2, .int .i64 a3], .int .i64 k] w fun e w' => e = .returned (.agg #[.int .i64 e0, .int .i64 e1, .int .i64 e2, .int .i64 f3]) ∧ Below w.heap.size w w' := by
  go_enter Try.func17, Try.ntmps17
  go_wp2
  refine wp_loop_rounds 4 ?_
  iterate 3 (all_goals (rw [rounds_succ]; go_wp2; go_region; all_goals go_wp2))
  all_goals (rw [rounds_succ]; go_wp2)
  all_goals (refine bodyPost_ret (v := .agg #[.int .i64 e0, .int .i64 e1, .int .i64 e2, .int .i64 f3]) (by simp [results, Try.results17, go_sem]) rfl ⟨rfl, ?_⟩; go_grown)
end Go.Proofs.Ytnlohjcjboelgab
