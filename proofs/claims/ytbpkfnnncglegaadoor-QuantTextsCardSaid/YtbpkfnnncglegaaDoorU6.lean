import Derived.Test.YtbpkfnnncglegaaDoorU5
namespace Go.Proofs.YtbpkfnnncglegaaDoor.L
open Go.RowKit
set_option linter.unusedVariables false
set_option linter.unusedSimpArgs false
def pI (i : Nat) : Nat := if i ≤ 6 then 3 * i else 10 * (i - 6)
def mI (i : Nat) : Nat := if i ≤ 6 then 1 else 5 ^ (10 * (i - 6))
def wI (i : Nat) : Nat := if i ≤ 6 then 1000 ^ i else 1024 ^ (i - 6)
theorem wm (i : Nat) : wI i * mI i = 10 ^ pI i := by
  unfold wI mI pI
  by_cases h : i ≤ 6
  · rw [if_pos h, if_pos h, if_pos h, Nat.mul_one, Nat.pow_mul]
  · rw [if_neg h, if_neg h, if_neg h]
    have e1 : 1024 ^ (i - 6) = 2 ^ (10 * (i - 6)) := by rw [Nat.pow_mul]
    rw [e1, ← Nat.mul_pow]
theorem mI_pos (i : Nat) : 0 < mI i := by
  unfold mI
  split
  · decide
  · exact Nat.pow_pos (by decide)
theorem wI_pos (i : Nat) : 0 < wI i := by
  unfold wI
  split
  · exact Nat.pow_pos (by decide)
  · exact Nat.pow_pos (by decide)
theorem pI_le (i : Nat) (hi : i < 13) : pI i ≤ 60 := by
  unfold pI
  split <;> omega
/-- The text of n in the i-th unit. -/
def txU (n i low : Nat) : List UInt8 := Lib.decDigits (n / wI i) ++ frB (n * mI i) (pI i) low ++ uI i
theorem pow19 {n k : Nat} (hn : n ≤ 9223372036854775807) (h : 10 ^ k ≤ n) : k < 19 := by
  apply Classical.byContradiction
  intro h1
  have h2 : 10 ^ 19 ≤ 10 ^ k := Nat.pow_le_pow_right (by decide) (by omega)
  have h3 : (10 : Nat) ^ 19 = 10000000000000000000 := by decide
  omega
theorem dec19 {u : Nat} (h : u ≤ 9223372036854775807) : (Lib.decDigits u).length ≤ 19 := by
  rw [Lib.decDigits_length]
  apply Classical.byContradiction
  intro h1
  have h2 := Lib.nDigits_pos u
  have h3 : 10 ^ (Lib.nDigits u - 1) ≤ u := by
    apply Classical.byContradiction
    intro h4
    have h5 : u < 10 ^ (Lib.nDigits u - 1) := by omega
    have : ∀ (m v : Nat), v < 10 ^ m → 1 ≤ m → Lib.nDigits v ≤ m := by
      intro m
      induction m with
      | zero => intro v _ h; omega
      | succ m ih =>
        intro v hv _
        by_cases h10 : v < 10
        · rw [Lib.nDigits_small h10]; omega
        · rw [Lib.nDigits_big h10]
          have hm : 1 ≤ m := by
            apply Classical.byContradiction
            intro h0
            have : m = 0 := by omega
            subst this
            simp at hv
            omega
          have := ih (v / 10) (by rw [Nat.pow_succ] at hv; omega) hm
          omega
    have := this _ u h5 (by omega)
    omega
  have := pow19 h h3
  omega
theorem wr_0_sf0 : (Option.getD Tryd.f10.body Code.skip) = .seq (hdC (Option.getD Tryd.f10.body Code.skip)) (rtC (Option.getD Tryd.f10.body Code.skip)) := by kernel_rfl
theorem wr_0_sf1 : (rtC (Option.getD Tryd.f10.body Code.skip)) = .seq (hdC (rtC (Option.getD Tryd.f10.body Code.skip))) (rtC (rtC (Option.getD Tryd.f10.body Code.skip))) := by kernel_rfl
theorem wr_0_sf2 : (rtC (rtC (Option.getD Tryd.f10.body Code.skip))) = .seq (hdC (rtC (rtC (Option.getD Tryd.f10.body Code.skip)))) (rtC (rtC (rtC (Option.getD Tryd.f10.body Code.skip)))) := by kernel_rfl
theorem wr_0_sf3 : (rtC (rtC (rtC (Option.getD Tryd.f10.body Code.skip)))) = .seq (hdC (rtC (rtC (rtC (Option.getD Tryd.f10.body Code.skip))))) (rtC (rtC (rtC (rtC (Option.getD Tryd.f10.body Code.skip))))) := by kernel_rfl
theorem wr_0_sf4 : (rtC (rtC (rtC (rtC (Option.getD Tryd.f10.body Code.skip))))) = .seq (hdC (rtC (rtC (rtC (rtC (Option.getD Tryd.f10.body Code.skip)))))) (rtC (rtC (rtC (rtC (rtC (Option.getD Tryd.f10.body Code.skip)))))) := by kernel_rfl
set_option maxHeartbeats 8000000 in
set_option maxRecDepth 100000 in
theorem wr_0 (w : World) (out : List UInt8) (n i : Nat)  {t2 t3 t4 t5 t6 t7 t8 t9 t10 t11 t12 t13 t14 t15 t16 t17 t18 t19 t20 t21 t22 t23 t24 t25 t26 t27 t28 t29 t30 t31 t32 t33 t34 t35 t36 t37 t38 t39 t40 t41 t42 t43 t44 t45 t46 t47 t48 t49 t50 t51 t52 t53 t54 t55 t56 t57 t58 t59 t60 t61 t62 t63 t64 t65 t66 t67 t68 t69 t70 t71 t72 t73 t74 t75 t76 t77 t78 t79 t80 t81 t82 t83 t84 t85 t86 t87 t88 t89 t90 t91 t92 t93 t94 t95 t96 t97 t98 t99 t100 t101 t102 t103 t104 t105 t106 t107 t108 t109 : Value}
    (hn : n ≤ 9223372036854775807) (hi : i < 13)
    (nx : ∀ (W' : World) (da : Option Addr) (m dc : Nat) {y0 y2 y3 y4 y6 y8 y9 y10 y11 y12 y13 y14 y15 y16 y17 y18 y19 y20 y21 y22 y23 y24 y25 y26 y27 y28 y29 y30 y31 y32 y33 y34 y35 y36 y37 y38 y39 y40 y41 y42 y43 y44 y45 y46 y47 y48 y49 y50 y51 y52 y53 y54 y55 y56 y57 y58 y59 y60 y61 y62 y63 y64 y65 y66 y67 y68 y69 y70 y71 y72 y73 y74 y75 y76 y77 y78 y79 y80 y81 y82 y83 y84 y85 y86 y87 y88 y89 y90 y91 y92 y93 y94 y95 y96 y97 y98 y99 y100 y101 y102 y103 y104 y105 y106 y107 y108 y109 : Value}, OwnI W' w.heap.size (.slice da m dc) (dl (n * mI i) m) → n * mI i < 10 ^ m → m ≤ 100 → Below w.heap.size w W' → Code.wp Tryd.prog (rtC (rtC (rtC (rtC (rtC (Option.getD Tryd.f10.body Code.skip)))))) (bodyPost Tryd.prog Tryd.f10 (fun e w' => e = .returned (.string (S out)) ∧ Below w.heap.size w w')) { tmps := #[y0, .int .i64 (i : Int), y2, y3, y4, .slice da m dc, y6, .int .i64 (pI i : Int), y8, y9, y10, y11, y12, y13, y14, y15, y16, y17, y18, y19, y20, y21, y22, y23, y24, y25, y26, y27, y28, y29, y30, y31, y32, y33, y34, y35, y36, y37, y38, y39, y40, y41, y42, y43, y44, y45, y46, y47, y48, y49, y50, y51, y52, y53, y54, y55, y56, y57, y58, y59, y60, y61, y62, y63, y64, y65, y66, y67, y68, y69, y70, y71, y72, y73, y74, y75, y76, y77, y78, y79, y80, y81, y82, y83, y84, y85, y86, y87, y88, y89, y90, y91, y92, y93, y94, y95, y96, y97, y98, y99, y100, y101, y102, y103, y104, y105, y106, y107, y108, y109], defers := [] } W') :
    Code.wp Tryd.prog (Option.getD Tryd.f10.body Code.skip) (bodyPost Tryd.prog Tryd.f10 (fun e w' => e = .returned (.string (S out)) ∧ Below w.heap.size w w')) { tmps := #[.int .i64 (n : Int), .int .i64 (i : Int), t2, t3, t4, t5, t6, t7, t8, t9, t10, t11, t12, t13, t14, t15, t16, t17, t18, t19, t20, t21, t22, t23, t24, t25, t26, t27, t28, t29, t30, t31, t32, t33, t34, t35, t36, t37, t38, t39, t40, t41, t42, t43, t44, t45, t46, t47, t48, t49, t50, t51, t52, t53, t54, t55, t56, t57, t58, t59, t60, t61, t62, t63, t64, t65, t66, t67, t68, t69, t70, t71, t72, t73, t74, t75, t76, t77, t78, t79, t80, t81, t82, t83, t84, t85, t86, t87, t88, t89, t90, t91, t92, t93, t94, t95, t96, t97, t98, t99, t100, t101, t102, t103, t104, t105, t106, t107, t108, t109], defers := [] } w := by
  rw [wr_0_sf0, wr_0_sf1, wr_0_sf2, wr_0_sf3, wr_0_sf4]
  generalize hT : (rtC (rtC (rtC (rtC (rtC (Option.getD Tryd.f10.body Code.skip)))))) = TL at *
  clear hT
  simp only [hdC, rtC, Option.getD, Tryd.f10]
  have NX := hid nx
  have HNN := hid hn
  have HPW := hid (fun dv D m B W h1 h2 h3 h4 => power_any dv D m (10 * (i - 6)) B W h1 h2 h3 h4)
  have O0 := hid (show OwnI (w.alloc (.cells #[] 3)) w.heap.size (.slice (some ⟨w.heap.size, 0, none⟩) 0 0) (dl n 0) from World.ownsRow_made w #[] 0 (Nat.le_refl _) (Nat.zero_le _) rfl)
  have B0 := hid (belowA w (.cells #[] 3))
  clear nx
  go_upto_region 2 with (fail)
  generalize w.alloc (.cells #[] 3) = X at O0 B0 ⊢
  go_wp2_with fail
  go_loopw [5, 6] (fun d v wr => ∃ k q : Nat, k ≤ 19 ∧ v = .int .i64 (q : Int) ∧ q ≤ 9223372036854775807 ∧ Hid (n / 10 ^ k = q) ∧ Hid (OwnI wr w.heap.size d (dl n k)) ∧ Hid (Below w.heap.size w wr)) (fun _ v _ => (intOf v).toNat)
  case atStart => exact ⟨0, n, by omega, rfl, hn, hid (by simp), O0, B0⟩
  case round =>
    clear O0 B0
    obtain ⟨k, q, hk, rfl, hq, HQ, HO, HB⟩ := hrel
    by_cases h0 : 0 < q
    · have hk19 : k < 19 := pow19 HNN.out (by
        have h1 := HQ.out
        have hp : 0 < 10 ^ k := Nat.pow_pos (by decide)
        apply Classical.byContradiction
        intro h2
        rw [Nat.div_eq_of_lt (by omega)] at h1
        omega)
      have g1 : (0 : Int) < (q : Int) := by omega
      have HDD := hid (show (q : Int) % 10 = ((n / 10 ^ k % 10 : Nat) : Int) by rw [HQ.out]; rfl)
      have HNX := hid (show n / 10 ^ (k + 1) = q / 10 by rw [Nat.pow_succ, ← Nat.div_div_eq_div_mul, HQ.out])
      have e2 := tmod10 q
      have e3 := tdiv10 q
      obtain ⟨ov, oc, rfl⟩ := own_form HO.out
      rw [dl_len] at HO ⊢
      have HZ := hid HB.out.size
      have hk2 : k ≤ 1000 := by omega
      go_wp2_with (at_builtin; go_loud (refine wpList_dig rfl _ _ rfl w.heap.size (.slice ov k oc) n k _ HDD.out rfl HO.out rfl hk2 HZ.out ?_))
      intro v' w' ho' hb' hs'
      have HO' := hid ho'
      have HB' := hid (HB.out.trans hb')
      clear ho' hb' hs'
      obtain ⟨ov', oc', rfl⟩ := own_form HO'.out
      rw [dl_len] at HO' ⊢
      go_wp2_with fail
      refine ⟨⟨k + 1, q / 10, by omega, rfl, by omega, HNX, HO', HB'⟩, ?_⟩
      simp [intOf] <;> omega
    · obtain rfl : q = 0 := by omega
      have HL := hid (show n < 10 ^ k from by
        have hp : 0 < 10 ^ k := Nat.pow_pos (by decide)
        exact (Nat.div_eq_zero_iff_lt hp).1 HQ.out)
      obtain ⟨ov, oc, rfl⟩ := own_form HO.out
      rw [dl_len] at HO ⊢
      have HZ := hid HB.out.size
      by_cases h6 : i ≤ 6
      · have g1 : ¬ ((6 : Int) < (i : Int)) := by omega
        have HP := hid (show (3 : Int) * (i : Int) = (pI i : Int) by unfold pI; rw [if_pos h6]; omega)
        have HM := hid (show n * mI i = n by unfold mI; rw [if_pos h6, Nat.mul_one])
        have hk100 : k ≤ 100 := by omega
        clear HPW
        go_wp2_with fail
        rw [HP.out]
        exact NX.out _ _ _ _ (by rw [HM.out]; exact HO.out) (by rw [HM.out]; exact HL.out) hk100 HB.out
      · have g1 : (6 : Int) < (i : Int) := by omega
        have e6 : (10 : Int) * ((i : Int) - 6) = ((10 * (i - 6) : Nat) : Int) := by omega
        have HP := hid (show 10 * (i - 6) = pI i by unfold pI; rw [if_neg h6])
        have HM := hid (show n * 5 ^ (10 * (i - 6)) = n * mI i by unfold mI; rw [if_neg h6])
        have hkn : k + 10 * (i - 6) ≤ 400 := by omega
        have hk100 : k + 10 * (i - 6) ≤ 100 := by omega
        have HPO := hid (HPW.out (.slice ov k oc) n k w.heap.size wr HO.out HZ.out HL.out hkn)
        rw [HP.out] at e6 HPO hk100
        rw [← HP.out, HM.out] at HPO
        rw [HP.out] at HPO
        clear HPW
        go_wp2_with (go_at_call 13; refine HPO.out.mono ?_; rintro e w5 ⟨v5, m5, rfl, o5, l5, h5, b5⟩; have O5 := hid o5; have L5 := hid l5; have B5 := hid (bchS HB.out b5); clear o5 l5 b5; obtain ⟨a5, c5, rfl⟩ := own_form O5.out; rw [dl_len] at O5 ⊢; dsimp only)
        exact NX.out _ _ _ _ O5.out L5.out (by omega) B5.out

theorem written_any (n i low : Nat) (hn : n ≤ 9223372036854775807) (hi : i < 13) (hlw : Lw (n * mI i) (pI i) low) (w : World) :
    Calls Tryd.prog 10 #[.int .i64 (n : Int), .int .i64 (i : Int)] w fun e w' => e = .returned (.string (S (txU n i low))) ∧ Below w.heap.size w w' := by
  obtain ⟨out, hout⟩ : ∃ out, out = txU n i low := ⟨_, rfl⟩
  rw [← hout]
  have hp := pI_le i hi
  go_enter Tryd.func10, Tryd.ntmps10
  refine wr_0 w out n i hn hi ?_
  intro W1 da m dc
  intros
  rename_i h1 h2 h3 h4
  refine wr_5 w W1 out (n * mI i) (pI i) i w.heap.size da m dc h1 h2 (by omega) h4 (Nat.le_refl _) h4.size (by omega) ?_
  intro W2 da2 m2 dc2 top
  intros
  rename_i k1 k2 k3 k4 k5 k6
  refine wr_8 w W2 out (n * mI i) (pI i) i w.heap.size da2 m2 dc2 top k1 k2 k4 k3 k5 k6 ?_
  intro W3 hd
  intros
  rename_i j1 j2
  rw [whole_part (wm i) (mI_pos i)] at j2
  refine wr_10 w W3 out (n * mI i) (pI i) i w.heap.size da2 m2 dc2 low hd (own_low k1 j1) k4 k3 (bchS k6 j1) hlw ?_ ?_ hi
  · rw [hout, j2]
    rfl
  · rw [j2]
    have h5 : n / wI i ≤ 9223372036854775807 := Nat.le_trans (Nat.div_le_self _ _) hn
    have := dec19 h5
    omega
end Go.Proofs.YtbpkfnnncglegaaDoor.L
