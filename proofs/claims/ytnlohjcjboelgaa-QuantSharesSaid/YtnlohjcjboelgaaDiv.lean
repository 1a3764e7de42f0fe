import Derived.Test.YtnlohjcjboelgaaLen
import Derived.Test.YtnlohjcjboelgaaMul
import Derived.Deep.QuietTactic
import Derived.BigQuiet
namespace Go.Proofs.Ytnlohjcjboelgaa
open Go.RowKit Go.Lib
set_option maxHeartbeats 4000000 in
set_option maxRecDepth 100000 in
theorem div_short (lo y : Nat) (hl : lo < 18446744073709551616) (hy : y < 18446744073709551616) (h0 : 0 < y) (w : World) :
    Calls Try.prog 19 #[.int .u64 (0 : Int), .int .u64 (lo : Int), .int .u64 (y : Int)] w fun e w' => ∃ r, e = .returned (.tuple #[.int .u64 ((lo / y : Nat) : Int), .int .u64 r]) ∧ ∃ n, w' = w.drewN n := by
  have hw : IntKind.u64.wrap ((lo : Int) / (y : Int)) = ((lo / y : Nat) : Int) := by
    rw [← Int.natCast_ediv]; exact wrapN _ (Nat.lt_of_le_of_lt (Nat.div_le_self _ _) hl)
  go_enter Try.func19, Try.ntmps19
  go_wp2
  go_quiet (fail)
  go_wp2
  go_ret2
  exact ⟨_, rfl, _, rfl⟩
theorem mul_bound {q v : Int} (h0 : 0 ≤ q) (h1 : q < 4294967296) (h2 : 0 ≤ v) (h3 : v < 4294967296) : IntKind.u64.wrap (q * v) = q * v := by
  rw [IntKind.wrap_u64]
  have a := Int.mul_nonneg h0 h2
  have b : q * v ≤ 4294967295 * 4294967295 := Int.mul_le_mul (by omega) (by omega) h2 (by omega)
  omega
/-- What one step of the division must know: Q is the quotient of u * 2^32 + d. -/
def Quo (u v1 v0 d Q : Int) : Prop := 0 ≤ Q ∧ Q < 4294967296 ∧ ∀ q r, 0 ≤ q → 0 ≤ r → q * v1 + r = u → (Q < q ↔ 4294967296 * r + d < q * v0)
theorem quo_mk (u v1 v0 d v : Nat) (h1 : 0 < v1) (hv : v = v1 * 4294967296 + v0) (hu : u < v) (hd : d < 4294967296) : Quo u v1 v0 d ((u * 4294967296 + d) / v : Nat) := by
  refine ⟨Int.natCast_nonneg _, Int.ofNat_lt.2 (step_lt u d v hu hd), ?_⟩
  intro q r hq hr e
  obtain ⟨q, rfl⟩ := Int.eq_ofNat_of_zero_le hq
  obtain ⟨r, rfl⟩ := Int.eq_ofNat_of_zero_le hr
  have e' : q * v1 + r = u := by exact_mod_cast e
  have := step_gt u d q r v1 v0 h1 e'
  rw [← hv] at this
  rw [Int.ofNat_lt, this]
  rw [← Int.natCast_mul]
  generalize q * v0 = m
  omega
theorem quo_test {u v1 v0 d Q q r : Int} (h : Quo u v1 v0 d Q) (h0 : 0 ≤ q) (hr : 0 ≤ r) (e : q * v1 + r = u) (hle : Q ≤ q) (hq : q < 4294967296) (b0 : 0 ≤ v0) (b1 : v0 < 4294967296) :
    (Q < q ∧ ∃ m, IntKind.u64.wrap (q * v0) = m ∧ 4294967296 * r + d < m) ∨ (q = Q ∧ ∃ m, IntKind.u64.wrap (q * v0) = m ∧ ¬ 4294967296 * r + d < m) := by
  have k := h.2.2 q r h0 hr e
  by_cases c : Q < q
  · exact Or.inl ⟨c, _, mul_bound h0 hq b0 b1, k.1 c⟩
  · exact Or.inr ⟨by omega, _, mul_bound h0 hq b0 b1, fun n => c (k.2 n)⟩
theorem quo_end {u v1 v0 d Q q r : Int} (h : Quo u v1 v0 d Q) (hd : 0 ≤ d) (c : Q < q) (hq : q ≤ 4294967297) (e : q * v1 + r = u) (b0 : 0 ≤ v0) (b1 : v0 < 4294967296) (hr : 4294967296 ≤ r + v1) : q - 1 = Q := by
  have hQ := h.1
  have k := h.2.2 (q - 1) (r + v1) (by omega) (by omega) (by rw [Int.sub_mul]; omega)
  apply Classical.byContradiction
  intro n
  have := k.1 (by omega)
  have b : (q - 1) * v0 ≤ 4294967296 * 4294967295 := Int.mul_le_mul (by omega) (by omega) b0 (by omega)
  omega
theorem quo_next {v1 q r u : Int} (e : q * v1 + r = u) : (q - 1) * v1 + (r + v1) = u := by rw [Int.sub_mul]; omega

set_option maxHeartbeats 4000000 in
set_option maxRecDepth 100000 in
theorem div_walk (hi lo y s V u l v1 v0 d1 d0 q0 r0 Q1 R1 p0 t0 Q0 : Int) (w : World)
    (h1 : 0 < hi) (h2 : hi < y) (hs0 : 0 ≤ s) (hs : s ≤ 63)
    (HL : Hid (∀ W, Calls Try.prog 27 #[.int .u64 y] W fun e w' => e = .returned (.int .i64 s) ∧ w' = W))
    (eV : IntKind.u64.wrap (y * 2 ^ s.toNat) = V)
    (ev1 : V / 4294967296 = v1) (ev0 : bits .and .u64 V 4294967295 = v0) (hv1 : 2147483648 ≤ v1) (hv1' : v1 < 4294967296) (hv0 : 0 ≤ v0) (hv0' : v0 < 4294967296)
    (eu : bits .or .u64 (IntKind.u64.wrap (hi * 2 ^ s.toNat)) (lo / 2 ^ (64 - s).toNat) = u)
    (el : IntKind.u64.wrap (lo * 2 ^ s.toNat) = l)
    (ed1 : l / 4294967296 = d1) (ed0 : bits .and .u64 l 4294967295 = d0)
    (hd1 : 0 ≤ d1) (hd1' : d1 < 4294967296) (hd0 : 0 ≤ d0) (hd0' : d0 < 4294967296)
    (eq0 : IntKind.u64.wrap (u.tdiv v1) = q0) (er0 : IntKind.u64.wrap (u - IntKind.u64.wrap (q0 * v1)) = r0)
    (bq0 : 0 ≤ q0 ∧ q0 ≤ 4294967297) (br0 : 0 ≤ r0 ∧ r0 < 4294967296)
    (T1 : Hid (q0 * v1 + r0 = u ∧ Q1 ≤ q0)) (K1 : Hid (Quo u v1 v0 d1 Q1))
    (eR : IntKind.u64.wrap (IntKind.u64.wrap (IntKind.u64.wrap (u * 4294967296) + d1) - IntKind.u64.wrap (Q1 * V)) = R1)
    (ep0 : IntKind.u64.wrap (R1.tdiv v1) = p0) (et0 : IntKind.u64.wrap (R1 - IntKind.u64.wrap (p0 * v1)) = t0)
    (bp0 : 0 ≤ p0 ∧ p0 ≤ 4294967297) (bt0 : 0 ≤ t0 ∧ t0 < 4294967296)
    (T0 : Hid (p0 * v1 + t0 = R1 ∧ Q0 ≤ p0)) (K0 : Hid (Quo R1 v1 v0 d0 Q0)) (bQ1 : 0 ≤ Q1 ∧ Q1 < 4294967296) (bQ0 : 0 ≤ Q0 ∧ Q0 < 4294967296) :
    Calls Try.prog 19 #[.int .u64 hi, .int .u64 lo, .int .u64 y] w fun e w' => ∃ r, e = .returned (.tuple #[.int .u64 (Q1 * 4294967296 + Q0), .int .u64 r]) ∧ ∃ n, w' = w.drewN n := by
  obtain ⟨bq1, bq2⟩ := bq0
  obtain ⟨br1, br2⟩ := br0
  obtain ⟨bp1, bp2⟩ := bp0
  obtain ⟨bt1, bt2⟩ := bt0
  obtain ⟨bQ11, bQ12⟩ := bQ1
  obtain ⟨bQ01, bQ02⟩ := bQ0
  go_enter Try.func19, Try.ntmps19
  go_wp2_with (go_at_call 27; refine (HL.out _).mono ?_; rintro e w1 ⟨rfl, hww⟩; subst hww)
  go_loop [15, 16] (fun a b => ∃ q r : Int, a = .int .u64 q ∧ b = .int .u64 r ∧ 0 ≤ r ∧ r < 4294967296 ∧ 0 ≤ q ∧ q ≤ 4294967297 ∧ Hid (q * v1 + r = u ∧ Q1 ≤ q)) (fun a _ => (intOf a).toNat)
  case atStart => exact ⟨_, _, rfl, rfl, br1, br2, bq1, bq2, T1⟩
  case round =>
    obtain ⟨q, r, rfl, rfl, hr1, hr2, hq1, hq2, T⟩ := hrel
    by_cases c : 4294967296 ≤ q
    · have hlt : Q1 < q := by omega
      by_cases cb : 4294967296 ≤ r + v1
      · have en := quo_end K1.out hd1 hlt hq2 T.out.1 hv0 hv0' cb
        go_wp2
        clear T hr1 hr2 hq1 hq2
        go_loop [18, 16] (fun a b => ∃ q r : Int, a = .int .u64 q ∧ b = .int .u64 r ∧ 0 ≤ r ∧ r < 4294967296 ∧ 0 ≤ q ∧ q ≤ 4294967297 ∧ Hid (q * v1 + r = R1 ∧ Q0 ≤ q)) (fun a _ => (intOf a).toNat)
        case atStart => exact ⟨_, _, rfl, rfl, bt1, bt2, bp1, bp2, T0⟩
        case round =>
          obtain ⟨q, r, rfl, rfl, hr1, hr2, hq1, hq2, T⟩ := hrel
          by_cases c : 4294967296 ≤ q
          · have hlt : Q0 < q := by omega
            by_cases cb : 4294967296 ≤ r + v1
            · have en := quo_end K0.out hd0 hlt hq2 T.out.1 hv0 hv0' cb
              go_wp2
              go_ret2
              exact ⟨⟨_, rfl⟩, 0, rfl⟩
            · have TT := hid (And.intro (quo_next T.out.1) (show Q0 ≤ q - 1 by omega))
              go_wp2
              go_round
              case rel => exact ⟨_, _, rfl, rfl, by omega, by omega, by omega, by omega, TT⟩
              case measure => simp [intOf]; omega
          · rcases quo_test K0.out hq1 hr1 T.out.1 T.out.2 (by omega) hv0 hv0' with ⟨hlt, m, hm, hgt⟩ | ⟨heq, m, hm, hgt⟩
            · by_cases cb : 4294967296 ≤ r + v1
              · have en := quo_end K0.out hd0 hlt hq2 T.out.1 hv0 hv0' cb
                go_wp2
                go_ret2
                exact ⟨⟨_, rfl⟩, 0, rfl⟩
              · have TT := hid (And.intro (quo_next T.out.1) (show Q0 ≤ q - 1 by omega))
                go_wp2
                go_round
                case rel => exact ⟨_, _, rfl, rfl, by omega, by omega, by omega, by omega, TT⟩
                case measure => simp [intOf]; omega
            · subst heq
              go_wp2
              go_ret2
              exact ⟨⟨_, rfl⟩, 0, rfl⟩
      · have TT := hid (And.intro (quo_next T.out.1) (show Q1 ≤ q - 1 by omega))
        go_wp2
        go_round
        case rel => exact ⟨_, _, rfl, rfl, by omega, by omega, by omega, by omega, TT⟩
        case measure => simp [intOf]; omega
    · rcases quo_test K1.out hq1 hr1 T.out.1 T.out.2 (by omega) hv0 hv0' with ⟨hlt, m, hm, hgt⟩ | ⟨heq, m, hm, hgt⟩
      · by_cases cb : 4294967296 ≤ r + v1
        · have en := quo_end K1.out hd1 hlt hq2 T.out.1 hv0 hv0' cb
          go_wp2
          clear T hr1 hr2 hq1 hq2
          go_loop [18, 16] (fun a b => ∃ q r : Int, a = .int .u64 q ∧ b = .int .u64 r ∧ 0 ≤ r ∧ r < 4294967296 ∧ 0 ≤ q ∧ q ≤ 4294967297 ∧ Hid (q * v1 + r = R1 ∧ Q0 ≤ q)) (fun a _ => (intOf a).toNat)
          case atStart => exact ⟨_, _, rfl, rfl, bt1, bt2, bp1, bp2, T0⟩
          case round =>
            obtain ⟨q, r, rfl, rfl, hr1, hr2, hq1, hq2, T⟩ := hrel
            by_cases c : 4294967296 ≤ q
            · have hlt : Q0 < q := by omega
              by_cases cb : 4294967296 ≤ r + v1
              · have en := quo_end K0.out hd0 hlt hq2 T.out.1 hv0 hv0' cb
                go_wp2
                go_ret2
                exact ⟨⟨_, rfl⟩, 0, rfl⟩
              · have TT := hid (And.intro (quo_next T.out.1) (show Q0 ≤ q - 1 by omega))
                go_wp2
                go_round
                case rel => exact ⟨_, _, rfl, rfl, by omega, by omega, by omega, by omega, TT⟩
                case measure => simp [intOf]; omega
            · rcases quo_test K0.out hq1 hr1 T.out.1 T.out.2 (by omega) hv0 hv0' with ⟨hlt, m, hm, hgt⟩ | ⟨heq, m, hm, hgt⟩
              · by_cases cb : 4294967296 ≤ r + v1
                · have en := quo_end K0.out hd0 hlt hq2 T.out.1 hv0 hv0' cb
                  go_wp2
                  go_ret2
                  exact ⟨⟨_, rfl⟩, 0, rfl⟩
                · have TT := hid (And.intro (quo_next T.out.1) (show Q0 ≤ q - 1 by omega))
                  go_wp2
                  go_round
                  case rel => exact ⟨_, _, rfl, rfl, by omega, by omega, by omega, by omega, TT⟩
                  case measure => simp [intOf]; omega
              · subst heq
                go_wp2
                go_ret2
                exact ⟨⟨_, rfl⟩, 0, rfl⟩
        · have TT := hid (And.intro (quo_next T.out.1) (show Q1 ≤ q - 1 by omega))
          go_wp2
          go_round
          case rel => exact ⟨_, _, rfl, rfl, by omega, by omega, by omega, by omega, TT⟩
          case measure => simp [intOf]; omega
      · subst heq
        go_wp2
        clear T hr1 hr2 hq1 hq2
        go_loop [18, 16] (fun a b => ∃ q r : Int, a = .int .u64 q ∧ b = .int .u64 r ∧ 0 ≤ r ∧ r < 4294967296 ∧ 0 ≤ q ∧ q ≤ 4294967297 ∧ Hid (q * v1 + r = R1 ∧ Q0 ≤ q)) (fun a _ => (intOf a).toNat)
        case atStart => exact ⟨_, _, rfl, rfl, bt1, bt2, bp1, bp2, T0⟩
        case round =>
          obtain ⟨q, r, rfl, rfl, hr1, hr2, hq1, hq2, T⟩ := hrel
          by_cases c : 4294967296 ≤ q
          · have hlt : Q0 < q := by omega
            by_cases cb : 4294967296 ≤ r + v1
            · have en := quo_end K0.out hd0 hlt hq2 T.out.1 hv0 hv0' cb
              go_wp2
              go_ret2
              exact ⟨⟨_, rfl⟩, 0, rfl⟩
            · have TT := hid (And.intro (quo_next T.out.1) (show Q0 ≤ q - 1 by omega))
              go_wp2
              go_round
              case rel => exact ⟨_, _, rfl, rfl, by omega, by omega, by omega, by omega, TT⟩
              case measure => simp [intOf]; omega
          · rcases quo_test K0.out hq1 hr1 T.out.1 T.out.2 (by omega) hv0 hv0' with ⟨hlt, m, hm, hgt⟩ | ⟨heq, m, hm, hgt⟩
            · by_cases cb : 4294967296 ≤ r + v1
              · have en := quo_end K0.out hd0 hlt hq2 T.out.1 hv0 hv0' cb
                go_wp2
                go_ret2
                exact ⟨⟨_, rfl⟩, 0, rfl⟩
              · have TT := hid (And.intro (quo_next T.out.1) (show Q0 ≤ q - 1 by omega))
                go_wp2
                go_round
                case rel => exact ⟨_, _, rfl, rfl, by omega, by omega, by omega, by omega, TT⟩
                case measure => simp [intOf]; omega
            · subst heq
              go_wp2
              go_ret2
              exact ⟨⟨_, rfl⟩, 0, rfl⟩
end Go.Proofs.Ytnlohjcjboelgaa
