import Derived.Test.YtbpkfnnncglegaaDoorU3
namespace Go.Proofs.YtbpkfnnncglegaaDoor.L
open Go.RowKit
set_option linter.unusedVariables false
set_option linter.unusedSimpArgs false
theorem wr_8_sf8 : (rtC (rtC (rtC (rtC (rtC (rtC (rtC (rtC (Option.getD Tryd.f10.body Code.skip))))))))) = .seq (hdC (rtC (rtC (rtC (rtC (rtC (rtC (rtC (rtC (Option.getD Tryd.f10.body Code.skip)))))))))) (rtC (rtC (rtC (rtC (rtC (rtC (rtC (rtC (rtC (Option.getD Tryd.f10.body Code.skip)))))))))) := by kernel_rfl
theorem wr_8_sf9 : (rtC (rtC (rtC (rtC (rtC (rtC (rtC (rtC (rtC (Option.getD Tryd.f10.body Code.skip)))))))))) = .seq (hdC (rtC (rtC (rtC (rtC (rtC (rtC (rtC (rtC (rtC (Option.getD Tryd.f10.body Code.skip))))))))))) (rtC (rtC (rtC (rtC (rtC (rtC (rtC (rtC (rtC (rtC (Option.getD Tryd.f10.body Code.skip))))))))))) := by kernel_rfl
set_option maxHeartbeats 8000000 in
set_option maxRecDepth 100000 in
theorem wr_8 (w X : World) (out : List UInt8) (D p i : Nat) (B : Nat) (da : Option Addr) (m dc top : Nat) {t0 t2 t3 t4 t6 t10 t11 t12 t13 t14 t15 t16 t17 t18 t19 t20 t21 t22 t23 t24 t25 t26 t27 t28 t29 t30 t31 t32 t33 t34 t35 t36 t37 t38 t39 t40 t41 t42 t43 t44 t45 t46 t47 t48 t49 t50 t51 t52 t53 t54 t55 t56 t57 t58 t59 t60 t61 t62 t63 t64 t65 t66 t67 t68 t69 t70 t71 t72 t73 t74 t75 t76 t77 t78 t79 t80 t81 t82 t83 t84 t85 t86 t87 t88 t89 t90 t91 t92 t93 t94 t95 t96 t97 t98 t99 t100 t101 t102 t103 t104 t105 t106 t107 t108 t109 : Value}
    (hO : OwnI X B (.slice da m dc) (dl D m)) (hL : D < 10 ^ m) (hm : m ≤ 200) (hpm : p < m) (hmt : m = top + 1) (hlow : Below w.heap.size w X)
    (nx : ∀ (W' : World) (hd : List UInt8) {y0 y2 y3 y4 y6 y9 y10 y11 y12 y13 y14 y15 y16 y17 y18 y19 y20 y21 y22 y23 y24 y25 y26 y27 y28 y29 y30 y31 y32 y33 y34 y35 y36 y37 y38 y39 y40 y41 y42 y43 y44 y45 y46 y47 y48 y49 y50 y51 y52 y53 y54 y55 y56 y57 y58 y59 y60 y61 y62 y63 y64 y65 y66 y67 y68 y69 y70 y71 y72 y73 y74 y75 y76 y77 y78 y79 y80 y81 y82 y83 y84 y85 y86 y87 y88 y89 y90 y91 y92 y93 y94 y95 y96 y97 y98 y99 y100 y101 y102 y103 y104 y105 y106 y107 y108 y109 : Value}, Below X.heap.size X W' → hd = Lib.decDigits (D / 10 ^ p) → Code.wp Tryd.prog (rtC (rtC (rtC (rtC (rtC (rtC (rtC (rtC (rtC (rtC (Option.getD Tryd.f10.body Code.skip))))))))))) (bodyPost Tryd.prog Tryd.f10 (fun e w' => e = .returned (.string (S out)) ∧ Below w.heap.size w w')) { tmps := #[y0, .int .i64 (i : Int), y2, y3, y4, .slice da m dc, y6, .int .i64 (p : Int), .string (S hd), y9, y10, y11, y12, y13, y14, y15, y16, y17, y18, y19, y20, y21, y22, y23, y24, y25, y26, y27, y28, y29, y30, y31, y32, y33, y34, y35, y36, y37, y38, y39, y40, y41, y42, y43, y44, y45, y46, y47, y48, y49, y50, y51, y52, y53, y54, y55, y56, y57, y58, y59, y60, y61, y62, y63, y64, y65, y66, y67, y68, y69, y70, y71, y72, y73, y74, y75, y76, y77, y78, y79, y80, y81, y82, y83, y84, y85, y86, y87, y88, y89, y90, y91, y92, y93, y94, y95, y96, y97, y98, y99, y100, y101, y102, y103, y104, y105, y106, y107, y108, y109], defers := [] } W') :
    Code.wp Tryd.prog (rtC (rtC (rtC (rtC (rtC (rtC (rtC (rtC (Option.getD Tryd.f10.body Code.skip))))))))) (bodyPost Tryd.prog Tryd.f10 (fun e w' => e = .returned (.string (S out)) ∧ Below w.heap.size w w')) { tmps := #[t0, .int .i64 (i : Int), t2, t3, t4, .slice da m dc, t6, .int .i64 (p : Int), .string (S []), .int .i64 (top : Int), t10, t11, t12, t13, t14, t15, t16, t17, t18, t19, t20, t21, t22, t23, t24, t25, t26, t27, t28, t29, t30, t31, t32, t33, t34, t35, t36, t37, t38, t39, t40, t41, t42, t43, t44, t45, t46, t47, t48, t49, t50, t51, t52, t53, t54, t55, t56, t57, t58, t59, t60, t61, t62, t63, t64, t65, t66, t67, t68, t69, t70, t71, t72, t73, t74, t75, t76, t77, t78, t79, t80, t81, t82, t83, t84, t85, t86, t87, t88, t89, t90, t91, t92, t93, t94, t95, t96, t97, t98, t99, t100, t101, t102, t103, t104, t105, t106, t107, t108, t109], defers := [] } X := by
  rw [wr_8_sf8, wr_8_sf9]
  generalize hT : (rtC (rtC (rtC (rtC (rtC (rtC (rtC (rtC (rtC (rtC (Option.getD Tryd.f10.body Code.skip))))))))))) = TL at *
  clear hT
  simp only [hdC, rtC, Option.getD, Tryd.f10]
  have NX := hid nx
  have O0 := hid hO
  have HT0 := hid (show D < 10 ^ (top + 1) by rw [← hmt]; exact hL)
  have htm : top < m := by omega
  have htp : p ≤ top := by omega
  clear nx hO hlow hmt
  go_wp2_with fail
  go_loop [9] (fun t => ∃ k : Nat, p ≤ k ∧ k < m ∧ t = .int .i64 (k : Int) ∧ Hid (D < 10 ^ (k + 1))) (fun t => (intOf t).toNat)
  case atStart => exact ⟨top, htp, htm, rfl, HT0⟩
  case round =>
    obtain ⟨k, hk, hkm, rfl, HK⟩ := hrel
    obtain ⟨g, ea, hc⟩ := own_cell O0.out (dl_len D m).symm k hkm
    subst ea
    rw [dl_get D m k hkm] at hc
    have hq : D / 10 ^ k % 10 < 10 := Nat.mod_lt _ (by decide)
    have HQ := hid (show D / 10 ^ k % 10 = D / 10 ^ k from Nat.mod_eq_of_lt (by rw [Nat.div_lt_iff_lt_mul (Nat.pow_pos (by decide)), Nat.mul_comm, ← Nat.pow_succ]; exact HK.out))
    generalize hqe : D / 10 ^ k % 10 = q at hc hq HQ
    have g0 : (0 : Int) ≤ (k : Int) := by omega
    have g1 : (k : Int) < (m : Int) := by omega
    by_cases hstop : k = p ∨ q ≠ 0
    · have HDEC := hid (show Lib.decDigits (D / 10 ^ p) = rng D p (k + 1 - p) by
        have e1 : k + 1 - p = (k - p) + 1 := by omega
        rw [e1, rng_div D p]
        refine dec_rng (k - p) (D / 10 ^ p) ?_ ?_
        · rw [Nat.div_lt_iff_lt_mul (Nat.pow_pos (by decide)), ← Nat.pow_add]
          have : k - p + 1 + p = k + 1 := by omega
          rw [this]
          exact HK.out
        · rcases hstop with h | h
          · left; omega
          · right
            rw [Nat.le_div_iff_mul_le (Nat.pow_pos (by decide)), ← Nat.pow_add]
            have : k - p + p = k := by omega
            rw [this]
            have h1 : D / 10 ^ k ≠ 0 := by rw [← HQ.out]; exact h
            have h2 : ¬ D < 10 ^ k := fun h3 => h1 (Nat.div_eq_of_lt h3)
            omega)
      have htest : ¬ ((p : Int) < (k : Int)) ∨ ((p : Int) < (k : Int) ∧ ((q : Int) == 0) = false) := by
        rcases hstop with h | h
        · left; omega
        · by_cases h2 : p < k
          · right; exact ⟨by omega, by simp; omega⟩
          · left; omega
      clear hstop
      clear hqe HQ
      have HKM := hid hkm
      rcases htest with g2 | ⟨g2, g3⟩
      all_goals
        go_wp2_with fail
        clear hc
        go_loopw [8, 10] (fun s t wr => ∃ (hd : List UInt8) (x : Nat), p ≤ x ∧ x ≤ k + 1 ∧ t = .int .i64 ((x : Int) - 1) ∧ s = .string (S hd) ∧ Hid (hd ++ rng D p (x - p) = rng D p (k + 1 - p)) ∧ Hid (Below X.heap.size X wr)) (fun _ t _ => (intOf t + 1 - p).toNat)
        case atStart => exact ⟨[], k + 1, by omega, Nat.le_refl _, by congr 1; omega, rfl, hid rfl, hid (Below.refl _ _)⟩
        case round =>
          obtain ⟨hd, x, hx1, hx2, rfl, rfl, HE, HB⟩ := hrel
          have HLN := hid (show hd.length ≤ 201 by
            have h := congrArg List.length HE.out
            rw [List.length_append, rng_len, rng_len] at h
            omega)
          by_cases hpx : p < x
          · obtain ⟨y, rfl⟩ : ∃ y, x = y + 1 := ⟨x - 1, by omega⟩
            have ey : ((y + 1 : Nat) : Int) - 1 = (y : Int) := by omega
            rw [ey]
            have f2 : (p : Int) ≤ (y : Int) := by omega
            have HRG := hid (show rng D p (y + 1 - p) = dgt D y :: rng D p (y - p) by
              have : y + 1 - p = (y - p) + 1 := by omega
              rw [this]
              show dgt D (p + (y - p)) :: _ = _
              have : p + (y - p) = y := by omega
              rw [this])
            obtain ⟨g2, ea2, hc⟩ := own_cell (own_low O0.out HB.out) (dl_len D m).symm y (by omega)
            cases ea2
            rw [dl_get D m y (by omega)] at hc
            have hq : D / 10 ^ y % 10 < 10 := Nat.mod_lt _ (by decide)
            have hcv := conv_own (one_row wr (dgt D y))
            rw [dgt_iv] at hcv
            generalize D / 10 ^ y % 10 = q at hc hq hcv
            generalize hdy : dgt D y = cy at hcv HRG
            have HDY := hid hdy
            have er := wrap8 q hq
            have HBA := hid (bchS HB.out (belowA wr (.cells #[.int .u8 (48 + (q : Int))] 5)))
            have hlb : ¬ (9223372036854775807 < hd.length + 1) := by have := HLN.out; omega
            have f0 : (0 : Int) ≤ (y : Int) := by omega
            have f1 : (y : Int) < (m : Int) := by omega
            clear hdy
            go_wp2_with fail
            refine ⟨⟨hd ++ [cy], y, by omega, by omega, by congr 1, by rw [show (⟨#[cy]⟩ : ByteArray) = S [cy] from rfl, S_app], hid (by rw [← HE.out, HRG.out]; simp), HBA⟩, ?_⟩
            simp [intOf]
            omega
          · obtain rfl : x = p := by omega
            have f2 : ¬ ((x : Int) ≤ (x : Int) - 1) := by omega
            have HFI := hid (show hd = Lib.decDigits (D / 10 ^ x) by
              have h := HE.out
              rw [Nat.sub_self] at h
              rw [HDEC.out, ← h]
              simp [rng])
            go_wp2_with fail
            exact NX.out _ _ HB.out HFI.out
    · have h1 : p < k := by omega
      have h2 : q = 0 := by omega
      subst h2
      obtain ⟨y, rfl⟩ : ∃ y, k = y + 1 := ⟨k - 1, by omega⟩
      have HK' := hid (show D < 10 ^ (y + 1) by
        have h := HQ.out
        have hp : 0 < 10 ^ (y + 1) := Nat.pow_pos (by decide)
        exact (Nat.div_eq_zero_iff_lt hp).1 h.symm)
      have g2 : (p : Int) < ((y + 1 : Nat) : Int) := by omega
      have g3 : (((0 : Nat) : Int) == 0) = true := rfl
      have ey : ((y + 1 : Nat) : Int) - 1 = (y : Int) := by omega
      have hyp : p ≤ y := by omega
      have hym : y < m := by omega
      clear hstop hqe HQ HK
      go_wp2_with fail
      refine ⟨⟨y, hyp, hym, by congr 1, HK'⟩, ?_⟩
      simp [intOf] <;> omega

end Go.Proofs.YtbpkfnnncglegaaDoor.L
