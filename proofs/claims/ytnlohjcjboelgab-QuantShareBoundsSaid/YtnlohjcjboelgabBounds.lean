import Derived.Test.YtnlohjcjboelgabRows
import Derived.Test.YtnlohjcjboelgabBelow
import Derived.Deep.RegionHeld3
import Derived.WalkKit
import Derived.ProofKit
import Derived.OpenShut
namespace Go.Proofs.Ytnlohjcjboelgab.quantShareBounds
open Go.ChangeShapes Go.WideShapes Go.ChangeAt Go.RowKit
set_option linter.unusedVariables false

theorem own : ownKnob Try.prog.godebug = none := by kernel_rfl

set_option maxHeartbeats 1000000 in
theorem fixedShare_any (w : World) : Calls Try.prog 14 #[] w fun e w' => e = .returned (.bool true) ∧ ∃ n, w' = w.drewN n := by
  have h := share_any 1 3 100 (by decide) (by decide) (by decide) (by decide) w
  rw [show shareN 1 3 100 = (33, 0) by decide] at h
  have H := hid h
  clear h
  go_enter Try.func14, Try.ntmps14
  go_wp2_with (go_at_call 15; refine H.out.mono ?_; rintro e w1 ⟨rfl, k, hww⟩; subst hww)
  go_ret
  exact ⟨rfl, k, rfl⟩
/-- A new block of four, read later. -/
theorem four (W w1 : World) (a b c d : Value) (t : TypeId) (hb : Below (W.heap.size + 1) (W.alloc (.cells #[a, b, c, d] t)) w1) :
    w1.cell? ⟨W.heap.size, 0, none⟩ = some a ∧ w1.cell? ⟨W.heap.size, 1, none⟩ = some b ∧ w1.cell? ⟨W.heap.size, 2, none⟩ = some c ∧ w1.cell? ⟨W.heap.size, 3, none⟩ = some d := by
  have h : w1.heap[W.heap.size]? = some (.cells #[a, b, c, d] t) := by
    rw [hb.block _ (by omega)]
    show (W.heap.push _)[W.heap.size]? = _
    simp
  have h' : ∃ hlt : W.heap.size < w1.heap.size, w1.heap[W.heap.size] = .cells #[a, b, c, d] t := by
    obtain ⟨hl, e⟩ := Array.getElem?_eq_some_iff.1 h
    exact ⟨hl, e⟩
  refine ⟨?_, ?_, ?_, ?_⟩ <;> simp [World.cell?, h]
/-- Two blocks of four. -/
def Eight (W : World) (b c : Nat) (x0 x1 x2 x3 y0 y1 y2 y3 : Value) : Prop :=
  W.cell? ⟨b, 0, none⟩ = some x0 ∧ W.cell? ⟨b, 1, none⟩ = some x1 ∧ W.cell? ⟨b, 2, none⟩ = some x2 ∧ W.cell? ⟨b, 3, none⟩ = some x3 ∧
  W.cell? ⟨c, 0, none⟩ = some y0 ∧ W.cell? ⟨c, 1, none⟩ = some y1 ∧ W.cell? ⟨c, 2, none⟩ = some y2 ∧ W.cell? ⟨c, 3, none⟩ = some y3
theorem Eight.keep {W w1 : World} {b c : Nat} {x0 x1 x2 x3 y0 y1 y2 y3 : Value} (h : Eight W b c x0 x1 x2 x3 y0 y1 y2 y3) (hb : Below W.heap.size W w1) (h1 : b < W.heap.size) (h2 : c < W.heap.size) : Eight w1 b c x0 x1 x2 x3 y0 y1 y2 y3 := by
  unfold Eight
  rw [hb.cell (p := ⟨b, 0, none⟩) h1, hb.cell (p := ⟨b, 1, none⟩) h1, hb.cell (p := ⟨b, 2, none⟩) h1, hb.cell (p := ⟨b, 3, none⟩) h1, hb.cell (p := ⟨c, 0, none⟩) h2, hb.cell (p := ⟨c, 1, none⟩) h2, hb.cell (p := ⟨c, 2, none⟩) h2, hb.cell (p := ⟨c, 3, none⟩) h2]
  exact h
theorem eight_new {W : World} {b : Nat} {t : TypeId} {x0 x1 x2 x3 y0 y1 y2 y3 : Value} (hb : b < W.heap.size) (k0 : W.cell? ⟨b, 0, none⟩ = some x0) (k1 : W.cell? ⟨b, 1, none⟩ = some x1) (k2 : W.cell? ⟨b, 2, none⟩ = some x2) (k3 : W.cell? ⟨b, 3, none⟩ = some x3) :
    Eight (W.alloc (.cells #[y0, y1, y2, y3] t)).drew b W.heap.size x0 x1 x2 x3 y0 y1 y2 y3 := by
  have o := four W _ y0 y1 y2 y3 t (Below.refl _ _)
  have hb2 : Below W.heap.size W (W.alloc (.cells #[y0, y1, y2, y3] t)) := (Below.refl _ _).alloc (Nat.le_refl _) _
  refine ⟨?_, ?_, ?_, ?_, o.1, o.2.1, o.2.2.1, o.2.2.2⟩
  · exact (hb2.cell (p := ⟨b, 0, none⟩) hb).trans k0
  · exact (hb2.cell (p := ⟨b, 1, none⟩) hb).trans k1
  · exact (hb2.cell (p := ⟨b, 2, none⟩) hb).trans k2
  · exact (hb2.cell (p := ⟨b, 3, none⟩) hb).trans k3
theorem bcell {W w1 : World} (hb : Below W.heap.size W w1) : (∀ b o, b < W.heap.size → w1.cell? ⟨b, o, none⟩ = W.cell? ⟨b, o, none⟩) ∧ (∀ b o, b < W.heap.size → w1.frozen? ⟨b, o, none⟩ = W.frozen? ⟨b, o, none⟩) :=
  ⟨fun b o h => hb.cell (p := ⟨b, o, none⟩) h, fun b o h => hb.frozen (p := ⟨b, o, none⟩) h⟩
set_option maxHeartbeats 1000000 in
theorem walk_bad (p q s : Int) (h : p < 0 ∨ s < 0 ∨ q < 1) (w : World) :
    Calls Try.prog 5 #[.int .i64 p, .int .i64 q, .int .i64 s] w fun e w' => e = .returned (.bool true) ∧ Below w.heap.size w w' := by
  have HS := hid (fun W => fixedShare_any W)
  have HZ := hid (fun W => share_zero p q s h W)
  have h3 : p < 0 ∨ (¬ p < 0 ∧ s < 0) ∨ (¬ p < 0 ∧ ¬ s < 0 ∧ q < 1) := by omega
  clear h
  rcases h3 with a | ⟨a, b⟩ | ⟨a, b, c⟩
  all_goals
    go_enter Try.func5, Try.ntmps5
    go_wp2_with (first | (go_at_call 14; refine (HS.out _).mono ?_; rintro e w1 ⟨rfl, k, hww⟩; subst hww) | (go_at_call 15; refine (HZ.out _).mono ?_; rintro e w1 ⟨rfl, hww⟩; subst hww))
    go_ret
    exact ⟨rfl, below_drewN (Below.refl _ _) _⟩
set_option maxHeartbeats 4000000 in
theorem walk_over (p q s x0 x1 x2 x3 y0 y1 y2 y3 z0 z1 z2 z3 : Int) (w : World) (hp : ¬ p < 0) (hs : ¬ s < 0) (hq : ¬ q < 1)
    (HZ : Hid (∀ W, Calls Try.prog 15 #[.int .i64 p, .int .i64 q, .int .i64 s] W fun e w' => e = .returned (.tuple #[.int .i64 0, .int .i64 28]) ∧ ∃ n, w' = W.drewN n))
    (HX : Hid (∀ W, Calls Try.prog 16 #[.int .i64 p, .int .i64 s] W fun e w' => e = .returned (.agg #[.int .i64 x0, .int .i64 x1, .int .i64 x2, .int .i64 x3]) ∧ Below W.heap.size W w'))
    (HY : Hid (∀ W, Calls Try.prog 16 #[.int .i64 9223372036854775807, .int .i64 q] W fun e w' => e = .returned (.agg #[.int .i64 y0, .int .i64 y1, .int .i64 y2, .int .i64 y3]) ∧ Below W.heap.size W w'))
    (HP : Hid (∀ W, Calls Try.prog 17 #[.agg #[.int .i64 y0, .int .i64 y1, .int .i64 y2, .int .i64 y3], .int .i64 q] W fun e w' => e = .returned (.agg #[.int .i64 z0, .int .i64 z1, .int .i64 z2, .int .i64 z3]) ∧ Below W.heap.size W w'))
    (HB : Hid (∀ W, Calls Try.prog 18 #[.agg #[.int .i64 x0, .int .i64 x1, .int .i64 x2, .int .i64 x3], .agg #[.int .i64 z0, .int .i64 z1, .int .i64 z2, .int .i64 z3]] W fun e w' => e = .returned (.bool false) ∧ Below W.heap.size W w')) :
    Calls Try.prog 5 #[.int .i64 p, .int .i64 q, .int .i64 s] w fun e w' => e = .returned (.bool true) ∧ Below w.heap.size w w' := by
  have HS := hid (fun W => fixedShare_any W)
  go_enter Try.func5, Try.ntmps5
  go_wp2_with (first | (go_at_call 14; refine (HS.out _).mono ?_; rintro e w1 ⟨rfl, k, hww⟩; subst hww) | (go_at_call 15; refine (HZ.out _).mono ?_; rintro e w1 ⟨rfl, k2, hww⟩; subst hww) | fail)
  refine (HX.out _).mono ?_
  rintro e w1 ⟨rfl, hb⟩
  have HB1 := hid (show Below w.heap.size w w1 from (below_drewN (Below.refl _ _) (k + k2)).trans hb)
  clear hb
  go_wp2_with fail
  refine (HY.out _).mono ?_
  rintro e w2 ⟨rfl, hb2⟩
  rw [World.size_alloc] at hb2
  have HB2 := hid hb2
  have hz2 : w1.heap.size < w2.heap.size := by have := hb2.size; simp at this; omega
  clear hb2
  go_wp2_with fail
  refine (HP.out _).mono ?_
  rintro e w3 ⟨rfl, hb3⟩
  have HB3 := hid hb3
  have hz3 : w2.heap.size ≤ w3.heap.size := hb3.size
  obtain ⟨k0, k1, k2, k3⟩ := four w1 w3 _ _ _ _ _ (HB2.out.trans (hb3.mono (by omega)))
  clear hb3
  have hz13 : w1.heap.size < w3.heap.size := by omega
  go_wp2_with fail
  refine (HB.out _).mono ?_
  rintro e w4 ⟨rfl, hb4⟩
  go_wp2_with fail
  go_ret
  have g1 := HB1.out
  have s1 := g1.size
  have g2 : Below w.heap.size w w2 := (g1.alloc s1 _).trans (HB2.out.mono (by omega))
  have g3 : Below w.heap.size w w3 := g2.trans (HB3.out.mono (by omega))
  exact ⟨rfl, (g3.alloc (by omega) _).trans (hb4.mono (by simp; omega))⟩
set_option maxHeartbeats 4000000 in
theorem walk_fits (p q s n x0 x1 x2 x3 y0 y1 y2 y3 z0 z1 z2 z3 : Int) (w : World) (hp : ¬ p < 0) (hs : ¬ s < 0) (hq : ¬ q < 1) (hn : 0 ≤ n) (hmax : max n 0 = n)
    (HZ : Hid (∀ W, Calls Try.prog 15 #[.int .i64 p, .int .i64 q, .int .i64 s] W fun e w' => e = .returned (.tuple #[.int .i64 n, .int .i64 0]) ∧ ∃ n, w' = W.drewN n))
    (HX : Hid (∀ W, Calls Try.prog 16 #[.int .i64 p, .int .i64 s] W fun e w' => e = .returned (.agg #[.int .i64 x0, .int .i64 x1, .int .i64 x2, .int .i64 x3]) ∧ Below W.heap.size W w'))
    (HY : Hid (∀ W, Calls Try.prog 16 #[.int .i64 n, .int .i64 q] W fun e w' => e = .returned (.agg #[.int .i64 y0, .int .i64 y1, .int .i64 y2, .int .i64 y3]) ∧ Below W.heap.size W w'))
    (HP : Hid (∀ W, Calls Try.prog 17 #[.agg #[.int .i64 y0, .int .i64 y1, .int .i64 y2, .int .i64 y3], .int .i64 q] W fun e w' => e = .returned (.agg #[.int .i64 z0, .int .i64 z1, .int .i64 z2, .int .i64 z3]) ∧ Below W.heap.size W w'))
    (HB : Hid (∀ W, Calls Try.prog 18 #[.agg #[.int .i64 x0, .int .i64 x1, .int .i64 x2, .int .i64 x3], .agg #[.int .i64 y0, .int .i64 y1, .int .i64 y2, .int .i64 y3]] W fun e w' => e = .returned (.bool false) ∧ Below W.heap.size W w'))
    (HC : Hid (∀ W, Calls Try.prog 18 #[.agg #[.int .i64 x0, .int .i64 x1, .int .i64 x2, .int .i64 x3], .agg #[.int .i64 z0, .int .i64 z1, .int .i64 z2, .int .i64 z3]] W fun e w' => e = .returned (.bool true) ∧ Below W.heap.size W w')) :
    Calls Try.prog 5 #[.int .i64 p, .int .i64 q, .int .i64 s] w fun e w' => e = .returned (.bool true) ∧ Below w.heap.size w w' := by
  have HS := hid (fun W => fixedShare_any W)
  go_enter Try.func5, Try.ntmps5
  go_wp2_with (first | (go_at_call 14; refine (HS.out _).mono ?_; rintro e w1 ⟨rfl, k, hww⟩; subst hww) | (go_at_call 15; refine (HZ.out _).mono ?_; rintro e w1 ⟨rfl, k2, hww⟩; subst hww) | fail)
  refine (HX.out _).mono ?_
  rintro e w1 ⟨rfl, hb⟩
  have HB1 := hid (show Below w.heap.size w w1 from (below_drewN (Below.refl _ _) (k + k2)).trans hb)
  clear hb
  go_wp2_with fail
  refine (HY.out _).mono ?_
  rintro e w2 ⟨rfl, hb2⟩
  rw [World.size_alloc] at hb2
  have HB2 := hid hb2
  have hz2 : w1.heap.size < w2.heap.size := by have := hb2.size; simp at this; omega
  obtain ⟨k0, k1, k2, k3⟩ := four w1 w2 _ _ _ _ _ hb2
  clear hb2
  go_wp2_with fail
  have T0 : Eight (w2.alloc (.cells #[.int .i64 y0, .int .i64 y1, .int .i64 y2, .int .i64 y3] 38)).drew w1.heap.size w2.heap.size (.int .i64 x0) (.int .i64 x1) (.int .i64 x2) (.int .i64 x3) (.int .i64 y0) (.int .i64 y1) (.int .i64 y2) (.int .i64 y3) :=
    eight_new (by omega) k0 k1 k2 k3
  have zs : (w2.alloc (.cells #[.int .i64 y0, .int .i64 y1, .int .i64 y2, .int .i64 y3] 38)).drew.heap.size = w2.heap.size + 1 := by simp
  clear k0 k1 k2 k3
  go_region_held3 (fun W => W.cell? ⟨w1.heap.size, 0, none⟩ = some (.int .i64 x0) ∧ W.cell? ⟨w1.heap.size, 1, none⟩ = some (.int .i64 x1) ∧ W.cell? ⟨w1.heap.size, 2, none⟩ = some (.int .i64 x2) ∧ W.cell? ⟨w1.heap.size, 3, none⟩ = some (.int .i64 x3) ∧ W.cell? ⟨w2.heap.size, 0, none⟩ = some (.int .i64 y0) ∧ W.cell? ⟨w2.heap.size, 1, none⟩ = some (.int .i64 y1) ∧ W.cell? ⟨w2.heap.size, 2, none⟩ = some (.int .i64 y2) ∧ W.cell? ⟨w2.heap.size, 3, none⟩ = some (.int .i64 y3))
    (first | exact T0 | exact T1 | exact T2 | exact T3)
    (first
      | (go_at_call_of 18 y0; refine (HB.out _).mono ?_; rintro e w3 ⟨rfl, hb3⟩; have T1 := T0.keep hb3 (by omega) (by omega))
      | (go_at_call_of 17 y0; refine (HP.out _).mono ?_; rintro e w4 ⟨rfl, hb4⟩; have T2 := T1.keep hb4 (by have := hb3.size; omega) (by have := hb3.size; omega))
      | (go_at_call_of 18 z0; refine (HC.out _).mono ?_; rintro e w5 ⟨rfl, hb5⟩; have T3 := T2.keep hb5 (by have := hb3.size; have := hb4.size; omega) (by have := hb3.size; have := hb4.size; omega)))
  go_wp2_with fail
  go_ret
  have g1 := HB1.out
  have s1 := g1.size
  have s3 := hb3.size
  have s4 := hb4.size
  have g2 : Below w.heap.size w w2 := (g1.alloc s1 _).trans (HB2.out.mono (by omega))
  have g3 : Below w.heap.size w w3 := ((g2.alloc (by omega) _).drew).trans (hb3.mono (by omega))
  have g4 : Below w.heap.size w w4 := g3.trans (hb4.mono (by omega))
  exact ⟨rfl, g4.trans (hb5.mono (by omega))⟩
theorem wf_i64 {a : Int} (h : (Lit.int .i64 a).wf = true) : -9223372036854775808 ≤ a ∧ a ≤ 9223372036854775807 := by
  simp [Lit.wf] at h
  exact h
theorem walk (a0 : Int) (a1 : Int) (a2 : Int) (w0 : (Lit.int .i64 a0).wf = true) (w1 : (Lit.int .i64 a1).wf = true) (w2 : (Lit.int .i64 a2).wf = true) (w : World) :
    Calls Try.prog 5 #[.int .i64 a0, .int .i64 a1, .int .i64 a2] w fun e w' => e = .returned (.bool true) ∧ Below w.heap.size w w' := by
  by_cases bad : a0 < 0 ∨ a2 < 0 ∨ a1 < 1
  · exact walk_bad a0 a1 a2 bad w
  have i0 : -9223372036854775808 ≤ a0 ∧ a0 ≤ 9223372036854775807 := wf_i64 w0
  have i1 : -9223372036854775808 ≤ a1 ∧ a1 ≤ 9223372036854775807 := wf_i64 w1
  have i2 : -9223372036854775808 ≤ a2 ∧ a2 ≤ 9223372036854775807 := wf_i64 w2
  clear w0 w1 w2
  obtain ⟨p, rfl⟩ := Int.eq_ofNat_of_zero_le (show 0 ≤ a0 by omega)
  obtain ⟨q, rfl⟩ := Int.eq_ofNat_of_zero_le (show 0 ≤ a1 by omega)
  obtain ⟨s, rfl⟩ := Int.eq_ofNat_of_zero_le (show 0 ≤ a2 by omega)
  have hs := fun W => share_any p q s (by omega) (by omega) (by omega) (by omega) W
  have hx := fun W => wide_any p s (by omega) (by omega) W
  unfold shareN at hs
  have q1 : 0 < q := by omega
  by_cases ov : 9223372036854775807 < p * s / q
  · simp only [if_pos ov] at hs
    have hy := fun W => wide_any 9223372036854775807 q (by omega) (by omega) W
    have hp := fun W => plus_any (9223372036854775807 * q) q (by omega) (by omega) W
    have hb := fun W => below_any (p * s) (9223372036854775807 * q + q) W
    have : ¬ p * s < 9223372036854775807 * q + q := by
      have h1 : 9223372036854775808 ≤ p * s / q := ov
      rw [Nat.le_div_iff_mul_le q1] at h1
      omega
    rw [decide_eq_false this] at hb
    exact walk_over p q s _ _ _ _ _ _ _ _ _ _ _ _ w (by omega) (by omega) (by omega) (hid hs) (hid hx) (hid hy) (hid hp) (hid hb)
  · simp only [if_neg ov] at hs
    have d := Nat.div_add_mod (p * s) q
    have l := Nat.mod_lt (p * s) q1
    rw [Nat.mul_comm] at d
    have nb : p * s / q * q < 170141183460469231731687303715884105728 := by
      have := Nat.mul_lt_mul'' (show p * s / q < 9223372036854775808 by omega) (show q < 9223372036854775808 by omega)
      omega
    have hy := fun W => wide_any (p * s / q) q (by omega) (by omega) W
    have hp := fun W => plus_any (p * s / q * q) q nb (by omega) W
    have hb := fun W => below_any (p * s) (p * s / q * q) W
    have hc := fun W => below_any (p * s) (p * s / q * q + q) W
    rw [decide_eq_false (by omega)] at hb
    rw [decide_eq_true (by omega)] at hc
    exact walk_fits p q s (p * s / q : Nat) _ _ _ _ _ _ _ _ _ _ _ _ w (by omega) (by omega) (by omega) (Int.natCast_nonneg _) (Int.max_eq_left (Int.natCast_nonneg _)) (hid hs) (hid hx) (hid hy) (hid hp) (hid hb) (hid hc)

set_option maxRecDepth 100000 in
theorem lifted (os : Os) (started : os.Started) (H : Type) (enc : TypeId × Value → H) :
    ReturnsInHanded {} Try.checked os 5 .any (Rows.quantShareBoundsSpec.pre6 enc Try.prog Try.f5 Rows.quantShareBoundsRow.domain false) (Rows.quantShareBoundsSpec.post enc Try.prog Try.f5 false true false false) := by
  refine returnsInHanded_of_change (C := Try.checked) own started (by kernel_rfl) Try.func5
    (ChangeSpec.witness6 (enc := enc) (C := Try.checked) false ⟨#[], #[.int .i64 0, .int .i64 0, .int .i64 0], []⟩ 8 (by kernel_rfl) (by kernel_rfl) (by kernel_rfl) (by kernel_rfl)) ?_
  intro W base args ds gs before hval0 hW hcnd _
  have hval : ∀ (j : Nat) t v, Try.f5.params[j]? = some t → args[j]? = some v → Value.okWide Try.prog W .any base t v := hval0
  have hW' := hW
  obtain ⟨p, q, hA0, hV, rfl, hfz, hnd⟩ := hW
  have hA : DataW.TrodAll enc Try.prog W 0 (fun _ => true) true Try.f5.params.toList args.toList ds p := hA0
  rw [Try.params5] at hA hval
  obtain ⟨v0, vs0, d0, ds0, p0, q0, hargs, rfl, rfl, h0, r0⟩ := trodAll_cons hA
  obtain ⟨v1, vs1, d1, ds1, p1, q1, rfl, rfl, rfl, h1, r1⟩ := trodAll_cons r0
  obtain ⟨v2, vs2, d2, ds2, p2, q2, rfl, rfl, rfl, h2, r2⟩ := trodAll_cons r1
  obtain ⟨rfl, rfl, rfl⟩ := trodAll_nil r2
  obtain rfl : args = #[v0, v1, v2] := by cases args; simp_all
  obtain ⟨rfl, rfl⟩ := trodVars_none hV
  obtain ⟨a0, rfl, rfl, rfl, w0⟩ := open_int Try.underlying3 (hval 0 3 v0 rfl rfl) h0
  obtain ⟨a1, rfl, rfl, rfl, w1⟩ := open_int Try.underlying3 (hval 1 3 v1 rfl rfl) h1
  obtain ⟨a2, rfl, rfl, rfl, w2⟩ := open_int Try.underlying3 (hval 2 3 v2 rfl rfl) h2
  clear hA0 hval0
  simp only [List.append_nil] at hW'
  refine (walk a0 a1 a2 w0 w1 w2 W).mono fun e W' ⟨he, hb⟩ => ?_
  subst he
  refine ⟨_, rfl, [.lit (.int .i64 a0), .lit (.int .i64 a1), .lit (.int .i64 a2)], [], [], [], [], [], hW', ?_, ?_, ?_, hb.frame _, fun h => by cases h⟩
  · exact trodAll_cons_mk (shut_bool Try.underlying4 _) trodAll_mk0
  · exact trodAll_cons_mk (shut_int Try.underlying3 w0) (trodAll_cons_mk (shut_int Try.underlying3 w1) (trodAll_cons_mk (shut_int Try.underlying3 w2) trodAll_mk0))
  · rfl

theorem over : Rows.quantShareBoundsRow.holds Try.pinned (OpenSpec.ofChange Rows.quantShareBoundsSpec) :=
  OpenClaim.holds_of_wide 5 Try.f5 rfl rfl rfl rfl rfl rfl rfl ⟨rfl, rfl, rfl, rfl, rfl⟩ rfl rfl rfl rfl rfl (by kernel_rfl) Try.func5 (by kernel_rfl)
    (of_decide_eq_true (by kernel_rfl)) (by unfold Func.isWrapper; first | (rw [if_pos (by decide +kernel)]; kernel_rfl) | (rw [if_neg (by decide +kernel)]; exact ⟨rfl, rfl⟩))
    (fun os started H enc _ => lifted os started H enc)

theorem proved : Rows.QuantShareBoundsSaid :=
  over
end Go.Proofs.Ytnlohjcjboelgab.quantShareBounds
namespace Go.Proofs.Ytnlohjcjboelgab
/-- THE STATEMENT, AS IT IS HANDED IN. -/
theorem quantShareBounds_holds : Rows.QuantShareBoundsSaid := quantShareBounds.proved
end Go.Proofs.Ytnlohjcjboelgab
