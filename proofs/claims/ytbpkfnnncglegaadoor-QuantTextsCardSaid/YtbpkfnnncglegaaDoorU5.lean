import Derived.Test.YtbpkfnnncglegaaDoorU4
namespace Go.Proofs.YtbpkfnnncglegaaDoor.L
open Go.RowKit
set_option linter.unusedVariables false
set_option linter.unusedSimpArgs false
def uI (i : Nat) : List UInt8 := ([[], [107], [77], [71], [84], [80], [69], [75, 105], [77, 105], [71, 105], [84, 105], [80, 105], [69, 105]] : List (List UInt8)).getD i []
set_option maxHeartbeats 4000000 in
theorem unit_any (i : Nat) (hi : i < 13) (w : World) : Calls Tryd.prog 14 #[.int .i64 (i : Int)] w fun e w' => e = .returned (.string (S (uI i))) ∧ w' = w := by
  have h : i = 0 ∨ i = 1 ∨ i = 2 ∨ i = 3 ∨ i = 4 ∨ i = 5 ∨ i = 6 ∨ i = 7 ∨ i = 8 ∨ i = 9 ∨ i = 10 ∨ i = 11 ∨ i = 12 := by omega
  rcases h with rfl | rfl | rfl | rfl | rfl | rfl | rfl | rfl | rfl | rfl | rfl | rfl | rfl
  all_goals
    go_enter Tryd.func14, Tryd.ntmps14
    go_wp2
    go_ret
    exact ⟨rfl, rfl⟩
theorem uI_len (i : Nat) : (uI i).length ≤ 2 := by
  unfold uI
  rw [List.getD_eq_getElem?_getD]
  by_cases h : i < 13
  · have h : i = 0 ∨ i = 1 ∨ i = 2 ∨ i = 3 ∨ i = 4 ∨ i = 5 ∨ i = 6 ∨ i = 7 ∨ i = 8 ∨ i = 9 ∨ i = 10 ∨ i = 11 ∨ i = 12 := by omega
    rcases h with rfl | rfl | rfl | rfl | rfl | rfl | rfl | rfl | rfl | rfl | rfl | rfl | rfl <;> decide
  · rw [List.getElem?_eq_none (by simp; omega)]
    decide
set_option maxHeartbeats 8000000 in
set_option maxRecDepth 100000 in
theorem wr_10 (w X : World) (out : List UInt8) (D p i : Nat) (B : Nat) (da : Option Addr) (m dc low : Nat) (hd : List UInt8) {t0 t2 t3 t4 t6 t9 t10 t11 t12 t13 t14 t15 t16 t17 t18 t19 t20 t21 t22 t23 t24 t25 t26 t27 t28 t29 t30 t31 t32 t33 t34 t35 t36 t37 t38 t39 t40 t41 t42 t43 t44 t45 t46 t47 t48 t49 t50 t51 t52 t53 t54 t55 t56 t57 t58 t59 t60 t61 t62 t63 t64 t65 t66 t67 t68 t69 t70 t71 t72 t73 t74 t75 t76 t77 t78 t79 t80 t81 t82 t83 t84 t85 t86 t87 t88 t89 t90 t91 t92 t93 t94 t95 t96 t97 t98 t99 t100 t101 t102 t103 t104 t105 t106 t107 t108 t109 : Value}
    (hO : OwnI X B (.slice da m dc) (dl D m)) (hm : m ≤ 200) (hpm : p < m) (hlow : Below w.heap.size w X) (hlw : Lw D p low) (hout : out = hd ++ frB D p low ++ uI i) (hhd : hd.length ≤ 300) (hi : i < 13) :
    Code.wp Tryd.prog (rtC (rtC (rtC (rtC (rtC (rtC (rtC (rtC (rtC (rtC (Option.getD Tryd.f10.body Code.skip))))))))))) (bodyPost Tryd.prog Tryd.f10 (fun e w' => e = .returned (.string (S out)) ∧ Below w.heap.size w w')) { tmps := #[t0, .int .i64 (i : Int), t2, t3, t4, .slice da m dc, t6, .int .i64 (p : Int), .string (S hd), t9, t10, t11, t12, t13, t14, t15, t16, t17, t18, t19, t20, t21, t22, t23, t24, t25, t26, t27, t28, t29, t30, t31, t32, t33, t34, t35, t36, t37, t38, t39, t40, t41, t42, t43, t44, t45, t46, t47, t48, t49, t50, t51, t52, t53, t54, t55, t56, t57, t58, t59, t60, t61, t62, t63, t64, t65, t66, t67, t68, t69, t70, t71, t72, t73, t74, t75, t76, t77, t78, t79, t80, t81, t82, t83, t84, t85, t86, t87, t88, t89, t90, t91, t92, t93, t94, t95, t96, t97, t98, t99, t100, t101, t102, t103, t104, t105, t106, t107, t108, t109], defers := [] } X := by
  simp only [hdC, rtC, Option.getD, Tryd.f10]
  have O0 := hid hO
  have L0 := hid hlow
  have HU := hid (fun W => unit_any i hi W)
  have HLW := hid hlw
  have HUL := hid (uI_len i)
  have HOUT := hid hout
  clear hO hlow hlw hout
  go_wp2_with fail
  go_loop [11] (fun t => ∃ k : Nat, k ≤ p ∧ t = .int .i64 (k : Int) ∧ Hid (10 ^ k ∣ D)) (fun t => p - (intOf t).toNat)
  case atStart => exact ⟨0, Nat.zero_le _, rfl, hid ⟨D, by simp⟩⟩
  case round =>
    obtain ⟨k, hk, rfl, HK⟩ := hrel
    obtain ⟨g, ea, hc⟩ := own_cell O0.out (dl_len D m).symm k (by omega)
    subst ea
    rw [dl_get D m k (by omega)] at hc
    have HDV := hid (dvd_next HK.out)
    generalize D / 10 ^ k % 10 = q at hc HDV
    have g0 : (0 : Int) ≤ (k : Int) := by omega
    have g1 : (k : Int) < (m : Int) := by omega
    by_cases hgo : k < p ∧ q = 0
    · obtain ⟨h1, rfl⟩ := hgo
      have HK2 := hid (HDV.out.1 rfl)
      have g2 : (k : Int) < (p : Int) := by omega
      have g3 : (((0 : Nat) : Int) == 0) = true := rfl
      go_wp2_with fail
      refine ⟨⟨k + 1, h1, by go_num, HK2⟩, ?_⟩
      simp [intOf] <;> omega
    · have HKL := hid (show k = low from Lw.one ⟨hk, HK.out, by
        by_cases h1 : k = p
        · exact .inl h1
        · right
          intro h2
          exact hgo ⟨by omega, HDV.out.2 h2⟩⟩ HLW.out)
      rw [← HKL.out] at HOUT
      clear HKL HLW HK HDV
      by_cases hkp : k < p
      · have hq0 : q ≠ 0 := fun h => hgo ⟨hkp, h⟩
        have g2 : (k : Int) < (p : Int) := by omega
        have g3 : ((q : Int) == 0) = false := by simp; omega
        have HFR := hid (show frB D p k = 46 :: rng D k (p - k) by unfold frB; rw [if_pos hkp])
        have hlb : ¬ (9223372036854775807 < hd.length + 1) := by omega
        clear hgo
        go_wp2_with fail
        clear hc g3 hq0
        go_loopw [8, 12] (fun s t wr => ∃ (hd2 : List UInt8) (x : Nat), k ≤ x ∧ x ≤ p ∧ t = .int .i64 ((x : Int) - 1) ∧ s = .string (S hd2) ∧ Hid (hd2 ++ rng D k (x - k) = hd ++ 46 :: rng D k (p - k)) ∧ Hid (Below X.heap.size X wr)) (fun _ t _ => (intOf t + 1 - k).toNat)
        case atStart => exact ⟨hd ++ [46], p, by omega, Nat.le_refl _, rfl, by rw [← S_app], hid (by simp), hid (Below.refl _ _)⟩
        case round =>
          obtain ⟨hd2, x, hx1, hx2, rfl, rfl, HE, HB⟩ := hrel
          have HLN := hid (show hd2.length ≤ 501 by
            have h := congrArg List.length HE.out
            rw [List.length_append, List.length_append, List.length_cons, rng_len, rng_len] at h
            omega)
          by_cases hpx : k < x
          · obtain ⟨y, rfl⟩ : ∃ y, x = y + 1 := ⟨x - 1, by omega⟩
            have ey : ((y + 1 : Nat) : Int) - 1 = (y : Int) := by omega
            rw [ey]
            have f2 : (k : Int) ≤ (y : Int) := by omega
            have HRG := hid (show rng D k (y + 1 - k) = dgt D y :: rng D k (y - k) by
              have : y + 1 - k = (y - k) + 1 := by omega
              rw [this]
              show dgt D (k + (y - k)) :: _ = _
              have : k + (y - k) = y := by omega
              rw [this])
            obtain ⟨g2, ea2, hc⟩ := own_cell (own_low O0.out HB.out) (dl_len D m).symm y (by omega)
            cases ea2
            rw [dl_get D m y (by omega)] at hc
            have hq : D / 10 ^ y % 10 < 10 := Nat.mod_lt _ (by decide)
            have hcv := conv_own (one_row wr (dgt D y))
            rw [dgt_iv] at hcv
            generalize D / 10 ^ y % 10 = q at hc hq hcv
            generalize hdy : dgt D y = cy at hcv HRG
            have er := wrap8 q hq
            have HBA := hid (bchS HB.out (belowA wr (.cells #[.int .u8 (48 + (q : Int))] 5)))
            have hlb : ¬ (9223372036854775807 < hd2.length + 1) := by have := HLN.out; omega
            have f0 : (0 : Int) ≤ (y : Int) := by omega
            have f1 : (y : Int) < (m : Int) := by omega
            clear hdy
            go_wp2_with fail
            refine ⟨⟨hd2 ++ [cy], y, by omega, by omega, by congr 1, by rw [show (⟨#[cy]⟩ : ByteArray) = S [cy] from rfl, S_app], hid (by rw [← HE.out, HRG.out]; simp), HBA⟩, ?_⟩
            simp [intOf]
            omega
          · obtain rfl : x = k := by omega
            have f2 : ¬ ((x : Int) ≤ (x : Int) - 1) := by omega
            have HFI := hid (show hd2 = hd ++ frB D p x by
              have h := HE.out
              rw [Nat.sub_self] at h
              rw [HFR.out, ← h]
              simp [rng])
            have hlb2 : ¬ (9223372036854775807 < hd2.length + (uI i).length) := by have := HLN.out; have := HUL.out; omega
            rw [← HFI.out] at HOUT
            go_wp2_with (go_at_call 14; refine (HU.out _).mono ?_; rintro e w9 ⟨rfl, hww⟩; have hw9 := hww.symm; clear hww; subst hw9; dsimp only)
            go_ret
            refine ⟨?_, bchS L0.out HB.out⟩
            show Ending.returned (.string (S hd2 ++ S (uI i))) = _
            rw [S_app, HOUT.out]
      · obtain rfl : k = p := by omega
        have g2 : ¬ ((k : Int) < (k : Int)) := by omega
        have HFR := hid (show hd = hd ++ frB D k k by unfold frB; rw [if_neg (by omega)]; simp)
        have hlb2 : ¬ (9223372036854775807 < hd.length + (uI i).length) := by have := HUL.out; omega
        rw [← HFR.out] at HOUT
        go_wp2_with (go_at_call 14; refine (HU.out _).mono ?_; rintro e w9 ⟨rfl, hww⟩; have hw9 := hww.symm; clear hww; subst hw9; dsimp only)
        go_ret
        refine ⟨?_, L0.out⟩
        show Ending.returned (.string (S hd ++ S (uI i))) = _
        rw [S_app, HOUT.out]

end Go.Proofs.YtbpkfnnncglegaaDoor.L
