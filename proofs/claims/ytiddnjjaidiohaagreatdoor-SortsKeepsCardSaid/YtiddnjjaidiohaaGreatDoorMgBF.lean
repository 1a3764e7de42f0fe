import Derived.Test.YtiddnjjaidiohaaGreatDoorKe
import Derived.Test.YtiddnjjaidiohaaGreatDoorMgAZ
namespace Go.Proofs.YtiddnjjaidiohaaGreatDoor.L.Kp
open Go.RowKit Go.Shelf
set_option linter.unusedVariables false
set_option linter.unusedSimpArgs false
theorem sf_14 : (rtC (rtC (rtC (rtC (rtC (rtC (rtC (rtC (rtC (rtC (rtC (rtC (rtC (rtC (Option.getD Tryz.f7.body Code.skip))))))))))))))) = .seq (hdC (rtC (rtC (rtC (rtC (rtC (rtC (rtC (rtC (rtC (rtC (rtC (rtC (rtC (rtC (Option.getD Tryz.f7.body Code.skip)))))))))))))))) (rtC (rtC (rtC (rtC (rtC (rtC (rtC (rtC (rtC (rtC (rtC (rtC (rtC (rtC (rtC (Option.getD Tryz.f7.body Code.skip)))))))))))))))) := by kernel_rfl
set_option maxHeartbeats 16000000 in
set_option maxRecDepth 100000 in
theorem seg_14 (w : World) (base tb fb mb gr : Nat) (a a2 : Option Addr) (n cap mc : Nat) (fc fi fz sc : Int) (vw : Value) (T : List Pt) (X : World) (ks : Nat → Value) (xs : List Value) {t0 t3 t4 t9 t10 t11 t12 t13 t14 t15 t16 t17 t18 t19 t20 t21 t22 t23 t24 t25 t26 t27 t28 t29 t30 t31 t32 t33 t34 t35 t36 t37 t38 t39 t40 t41 t42 t43 t44 t45 t46 t47 t48 t49 t50 t51 t52 t53 t54 t55 t56 t57 t58 t59 t60 t61 t62 t63 t64 t65 t66 t67 t68 t69 t70 t71 t72 t73 t74 t75 t76 t77 t78 t79 t80 t81 t82 t83 t84 t85 t86 t87 t88 t89 t90 t91 t92 t93 t94 t95 t96 t97 t98 t99 t100 t101 t102 t103 t104 t105 t106 t107 t108 t109 t110 t111 t112 t113 t114 t115 t116 t117 t118 t119 t120 t121 t122 t123 t124 t125 t126 t127 t128 t129 t130 t131 t132 t133 t134 t135 t136 t137 t138 t139 t140 t141 t142 t143 t144 t145 t146 t147 t148 t149 t150 t151 t152 t153 t154 t155 t156 t157 t158 t159 t160 t161 t162 t163 t164 t165 t166 t167 t168 t169 t170 t171 t172 t173 t174 t175 t176 t177 t178 t179 t180 t181 t182 t183 t184 t185 t186 t187 t188 t189 t190 t191 t192 t193 t194 t195 t196 t197 t198 t199 t200 t201 t202 t203 t204 t205 t206 t207 t208 t209 t210 t211 t212 t213 t214 t215 t216 t217 t218 t219 t220 t221 t222 t223 t224 t225 t226 t227 t228 t229 t230 t231 t232 t233 t234 t235 t236 t237 t238 t239 t240 t241 t242 t243 t244 t245 t246 t247 t248 t249 t250 t251 t252 t253 t254 t255 t256 t257 t258 t259 t260 t261 t262 t263 t264 t265 t266 t267 t268 t269 t270 t271 t272 t273 t274 t275 t276 t277 t278 t279 t280 t281 t282 t283 t284 t285 t286 t287 t288 t289 t290 t291 t292 t293 t294 : Value}
    (hK : Kst w X base tb fb mb gr a a2 n cap mc fc fi fz T ks xs) (hs : sumK T T.length ≤ 100000)
    (nx : ∀ (W' : World) {y0 y3 y4 y9 y10 y11 y12 y13 y14 y15 y16 y17 y18 y19 y20 y21 y22 y23 y24 y25 y26 y27 y28 y29 y30 y31 y32 y33 y34 y35 y36 y37 y38 y39 y40 y41 y42 y43 y44 y45 y46 y47 y48 y49 y50 y51 y52 y53 y54 y55 y56 y57 y58 y59 y60 y61 y62 y63 y64 y65 y66 y67 y68 y69 y70 y71 y72 y73 y74 y75 y76 y77 y78 y79 y80 y81 y82 y83 y84 y85 y86 y87 y88 y89 y90 y91 y92 y93 y94 y95 y96 y97 y98 y99 y100 y101 y102 y103 y104 y105 y106 y107 y108 y109 y110 y111 y112 y113 y114 y115 y116 y117 y118 y119 y120 y121 y122 y123 y124 y125 y126 y127 y128 y129 y130 y131 y132 y133 y134 y135 y136 y137 y138 y139 y140 y141 y142 y143 y144 y145 y146 y147 y148 y149 y150 y151 y152 y153 y154 y155 y156 y157 y158 y159 y160 y161 y162 y163 y164 y165 y166 y167 y168 y169 y170 y171 y172 y173 y174 y175 y176 y177 y178 y179 y180 y181 y182 y183 y184 y185 y186 y187 y188 y189 y190 y191 y192 y193 y194 y195 y196 y197 y198 y199 y200 y201 y202 y203 y204 y205 y206 y207 y208 y209 y210 y211 y212 y213 y214 y215 y216 y217 y218 y219 y220 y221 y222 y223 y224 y225 y226 y227 y228 y229 y230 y231 y232 y233 y234 y235 y236 y237 y238 y239 y240 y241 y242 y243 y244 y245 y246 y247 y248 y249 y250 y251 y252 y253 y254 y255 y256 y257 y258 y259 y260 y261 y262 y263 y264 y265 y266 y267 y268 y269 y270 y271 y272 y273 y274 y275 y276 y277 y278 y279 y280 y281 y282 y283 y284 y285 y286 y287 y288 y289 y290 y291 y292 y293 y294 : Value}, Kmd w W' base mb a2 n mc (Tk T n) ks → Below base X W' → Code.wp Tryz.prog (rtC (rtC (rtC (rtC (rtC (rtC (rtC (rtC (rtC (rtC (rtC (rtC (rtC (rtC (rtC (Option.getD Tryz.f7.body Code.skip)))))))))))))))) (bodyPost Tryz.prog Tryz.f7 (fun e w' => e = .returned (.bool true) ∧ Below w.heap.size w w')) { tmps := #[y0, .int .i64 sc, .pointer (some ⟨tb, 0, none⟩), y3, y4, vw, .pointer (some ⟨fb, 0, none⟩), .pointer (some ⟨mb, 0, none⟩), .slice (some ⟨gr, 0, none⟩) n n, y9, y10, y11, y12, y13, y14, y15, y16, y17, y18, y19, y20, y21, y22, y23, y24, y25, y26, y27, y28, y29, y30, y31, y32, y33, y34, y35, y36, y37, y38, y39, y40, y41, y42, y43, y44, y45, y46, y47, y48, y49, y50, y51, y52, y53, y54, y55, y56, y57, y58, y59, y60, y61, y62, y63, y64, y65, y66, y67, y68, y69, y70, y71, y72, y73, y74, y75, y76, y77, y78, y79, y80, y81, y82, y83, y84, y85, y86, y87, y88, y89, y90, y91, y92, y93, y94, y95, y96, y97, y98, y99, y100, y101, y102, y103, y104, y105, y106, y107, y108, y109, y110, y111, y112, y113, y114, y115, y116, y117, y118, y119, y120, y121, y122, y123, y124, y125, y126, y127, y128, y129, y130, y131, y132, y133, y134, y135, y136, y137, y138, y139, y140, y141, y142, y143, y144, y145, y146, y147, y148, y149, y150, y151, y152, y153, y154, y155, y156, y157, y158, y159, y160, y161, y162, y163, y164, y165, y166, y167, y168, y169, y170, y171, y172, y173, y174, y175, y176, y177, y178, y179, y180, y181, y182, y183, y184, y185, y186, y187, y188, y189, y190, y191, y192, y193, y194, y195, y196, y197, y198, y199, y200, y201, y202, y203, y204, y205, y206, y207, y208, y209, y210, y211, y212, y213, y214, y215, y216, y217, y218, y219, y220, y221, y222, y223, y224, y225, y226, y227, y228, y229, y230, y231, y232, y233, y234, y235, y236, y237, y238, y239, y240, y241, y242, y243, y244, y245, y246, y247, y248, y249, y250, y251, y252, y253, y254, y255, y256, y257, y258, y259, y260, y261, y262, y263, y264, y265, y266, y267, y268, y269, y270, y271, y272, y273, y274, y275, y276, y277, y278, y279, y280, y281, y282, y283, y284, y285, y286, y287, y288, y289, y290, y291, y292, y293, y294], defers := [] } W') :
    Code.wp Tryz.prog (rtC (rtC (rtC (rtC (rtC (rtC (rtC (rtC (rtC (rtC (rtC (rtC (rtC (rtC (Option.getD Tryz.f7.body Code.skip))))))))))))))) (bodyPost Tryz.prog Tryz.f7 (fun e w' => e = .returned (.bool true) ∧ Below w.heap.size w w')) { tmps := #[t0, .int .i64 sc, .pointer (some ⟨tb, 0, none⟩), t3, t4, vw, .pointer (some ⟨fb, 0, none⟩), .pointer (some ⟨mb, 0, none⟩), .slice (some ⟨gr, 0, none⟩) n n, t9, t10, t11, t12, t13, t14, t15, t16, t17, t18, t19, t20, t21, t22, t23, t24, t25, t26, t27, t28, t29, t30, t31, t32, t33, t34, t35, t36, t37, t38, t39, t40, t41, t42, t43, t44, t45, t46, t47, t48, t49, t50, t51, t52, t53, t54, t55, t56, t57, t58, t59, t60, t61, t62, t63, t64, t65, t66, t67, t68, t69, t70, t71, t72, t73, t74, t75, t76, t77, t78, t79, t80, t81, t82, t83, t84, t85, t86, t87, t88, t89, t90, t91, t92, t93, t94, t95, t96, t97, t98, t99, t100, t101, t102, t103, t104, t105, t106, t107, t108, t109, t110, t111, t112, t113, t114, t115, t116, t117, t118, t119, t120, t121, t122, t123, t124, t125, t126, t127, t128, t129, t130, t131, t132, t133, t134, t135, t136, t137, t138, t139, t140, t141, t142, t143, t144, t145, t146, t147, t148, t149, t150, t151, t152, t153, t154, t155, t156, t157, t158, t159, t160, t161, t162, t163, t164, t165, t166, t167, t168, t169, t170, t171, t172, t173, t174, t175, t176, t177, t178, t179, t180, t181, t182, t183, t184, t185, t186, t187, t188, t189, t190, t191, t192, t193, t194, t195, t196, t197, t198, t199, t200, t201, t202, t203, t204, t205, t206, t207, t208, t209, t210, t211, t212, t213, t214, t215, t216, t217, t218, t219, t220, t221, t222, t223, t224, t225, t226, t227, t228, t229, t230, t231, t232, t233, t234, t235, t236, t237, t238, t239, t240, t241, t242, t243, t244, t245, t246, t247, t248, t249, t250, t251, t252, t253, t254, t255, t256, t257, t258, t259, t260, t261, t262, t263, t264, t265, t266, t267, t268, t269, t270, t271, t272, t273, t274, t275, t276, t277, t278, t279, t280, t281, t282, t283, t284, t285, t286, t287, t288, t289, t290, t291, t292, t293, t294], defers := [] } X := by
  rw [sf_14]
  generalize hT : (rtC (rtC (rtC (rtC (rtC (rtC (rtC (rtC (rtC (rtC (rtC (rtC (rtC (rtC (rtC (Option.getD Tryz.f7.body Code.skip)))))))))))))))) = TL at *
  clear hT
  simp only [hdC, rtC, bdC, Option.getD, Tryz.f7]
  have NX := hid nx
  have HN := hid hK.len
  have hn5 : n ≤ 100000 := by
    have h0 := sumK_mono T (Nat.zero_le T.length)
    have h1 : sumK T 0 = T.length := rfl
    have h2 := hK.len
    omega
  have I0 := hid (show Kmd w X base mb a2 n mc (Tk T 0) ks from ⟨hK.low, hK.bse, hK.mbx, hK.mine⟩)
  have x7 := cell_of_one hK.mbx
  clear nx hK hs
  go_wp2_with fail
  clear x7
  go_loopw [251] (fun i wr => ∃ k : Nat, k ≤ n ∧ i = .int .i64 (k : Int) ∧ Hid (Kmd w wr base mb a2 n mc (Tk T k) ks) ∧ Hid (Below base X wr)) (fun i _ => n - (intOf i).toNat)
  case atStart => exact ⟨0, Nat.zero_le _, rfl, I0, hid (Below.refl _ _)⟩
  case round =>
    clear I0
    obtain ⟨k, hk, rfl, IV, HB⟩ := hrel
    have x7 := cell_of_one IV.out.mbx
    by_cases hkn : k < n
    · obtain ⟨gp, ea⟩ : ∃ gp, a2 = some ⟨gp, 0, none⟩ := by
        rcases IV.out.mine.row.2 with ⟨_, e0⟩ | ⟨g, cap, cur, e, _⟩
        · omega
        · cases e; exact ⟨g, rfl⟩
      subst ea
      have q0 := row_cell IV.out.mine.row (k * 4 + 0) (by omega)
      rw [CP_get _ ks k 0 (by decide) hkn] at q0
      have q2 := row_cell IV.out.mine.row (k * 4 + 2) (by omega)
      rw [CP_get _ ks k 2 (by decide) hkn] at q2
      have f2 := row_frz IV.out.mine.row (k * 4 + 2)
      simp only [Nat.add_zero, List.getElem?_cons_zero, List.getElem?_cons_succ] at q0 q2
      have HPT := hid (Tk_at T k)
      rw [Tk_at T k] at q0 q2
      obtain ⟨p, hp⟩ : ∃ p, p = pt T k := ⟨_, rfl⟩
      have HP := hid hp
      rw [← hp] at q0 q2
      obtain ⟨kd, tx, nu, zs⟩ := p
      simp only at q0 q2
      have g1 : (k : Int) < (n : Int) := by omega
      have g2 : (0 : Int) ≤ (k : Int) := by omega
      have g3 : ((k : Int) * 4).toNat = k * 4 := by omega
      have HK1 := hid (show k + 1 ≤ n by omega)
      clear hp
      by_cases h14 : kd = 14
      · subst h14
        have HNX := hid (IV.out.next hkn HN.out (by rw [← HP.out]) )
        rw [← HP.out] at HNX
        simp only at HNX
        go_upto_region 53 with (fail)
        go_region
        have FN := HNX.out wr.drew (Below.refl _ _).drew
        have HI := hid FN.1
        have HJ := hid (HB.out.trans FN.2)
        clear FN
        (try simp only [Exit.inBlock, Exit.then])
        go_wp2_with fail
        refine ⟨⟨k + 1, HK1.out, by go_num, HI, HJ⟩, ?_⟩
        have h3 := HK1.out
        simp [intOf]
        omega
      · have e14 : (kd == 14) = false := by simpa using h14
        have HT1 := hid (show Tk T (k + 1) = Tk T k from Tk_skip T k (by rw [← HN.out]; exact hkn) (by rw [← HP.out]; exact h14))
        go_wp2_with fail
        refine ⟨⟨k + 1, HK1.out, by go_num, by rw [HT1.out]; exact IV, HB⟩, ?_⟩
        have h3 := HK1.out
        simp [intOf]
        omega
    · obtain rfl : k = n := by omega
      go_wp2_with fail
      exact NX.out _ IV.out HB.out

end Go.Proofs.YtiddnjjaidiohaaGreatDoor.L.Kp
namespace Go.Proofs.YtiddnjjaidiohaaGreatDoor.L.Kp
open Go.RowKit Go.Shelf
set_option linter.unusedVariables false
set_option linter.unusedSimpArgs false
set_option maxHeartbeats 16000000 in
set_option maxRecDepth 100000 in
theorem seg_15 (w X : World) (base mb : Nat) (a2 : Option Addr) (n mc : Nat) (sc : Int) (T : List Pt) (ks : Nat → Value) {t0 t2 t3 t4 t5 t6 t8 t9 t10 t11 t12 t13 t14 t15 t16 t17 t18 t19 t20 t21 t22 t23 t24 t25 t26 t27 t28 t29 t30 t31 t32 t33 t34 t35 t36 t37 t38 t39 t40 t41 t42 t43 t44 t45 t46 t47 t48 t49 t50 t51 t52 t53 t54 t55 t56 t57 t58 t59 t60 t61 t62 t63 t64 t65 t66 t67 t68 t69 t70 t71 t72 t73 t74 t75 t76 t77 t78 t79 t80 t81 t82 t83 t84 t85 t86 t87 t88 t89 t90 t91 t92 t93 t94 t95 t96 t97 t98 t99 t100 t101 t102 t103 t104 t105 t106 t107 t108 t109 t110 t111 t112 t113 t114 t115 t116 t117 t118 t119 t120 t121 t122 t123 t124 t125 t126 t127 t128 t129 t130 t131 t132 t133 t134 t135 t136 t137 t138 t139 t140 t141 t142 t143 t144 t145 t146 t147 t148 t149 t150 t151 t152 t153 t154 t155 t156 t157 t158 t159 t160 t161 t162 t163 t164 t165 t166 t167 t168 t169 t170 t171 t172 t173 t174 t175 t176 t177 t178 t179 t180 t181 t182 t183 t184 t185 t186 t187 t188 t189 t190 t191 t192 t193 t194 t195 t196 t197 t198 t199 t200 t201 t202 t203 t204 t205 t206 t207 t208 t209 t210 t211 t212 t213 t214 t215 t216 t217 t218 t219 t220 t221 t222 t223 t224 t225 t226 t227 t228 t229 t230 t231 t232 t233 t234 t235 t236 t237 t238 t239 t240 t241 t242 t243 t244 t245 t246 t247 t248 t249 t250 t251 t252 t253 t254 t255 t256 t257 t258 t259 t260 t261 t262 t263 t264 t265 t266 t267 t268 t269 t270 t271 t272 t273 t274 t275 t276 t277 t278 t279 t280 t281 t282 t283 t284 t285 t286 t287 t288 t289 t290 t291 t292 t293 t294 : Value}
    (hK : Kmd w X base mb a2 n mc T ks) (hn : n = T.length) (hs : sumK T T.length ≤ 100000) (hgv : Gv w) :
    Code.wp Tryz.prog (rtC (rtC (rtC (rtC (rtC (rtC (rtC (rtC (rtC (rtC (rtC (rtC (rtC (rtC (rtC (Option.getD Tryz.f7.body Code.skip)))))))))))))))) (bodyPost Tryz.prog Tryz.f7 (fun e w' => e = .returned (.bool true) ∧ Below w.heap.size w w')) { tmps := #[t0, .int .i64 sc, t2, t3, t4, t5, t6, .pointer (some ⟨mb, 0, none⟩), t8, t9, t10, t11, t12, t13, t14, t15, t16, t17, t18, t19, t20, t21, t22, t23, t24, t25, t26, t27, t28, t29, t30, t31, t32, t33, t34, t35, t36, t37, t38, t39, t40, t41, t42, t43, t44, t45, t46, t47, t48, t49, t50, t51, t52, t53, t54, t55, t56, t57, t58, t59, t60, t61, t62, t63, t64, t65, t66, t67, t68, t69, t70, t71, t72, t73, t74, t75, t76, t77, t78, t79, t80, t81, t82, t83, t84, t85, t86, t87, t88, t89, t90, t91, t92, t93, t94, t95, t96, t97, t98, t99, t100, t101, t102, t103, t104, t105, t106, t107, t108, t109, t110, t111, t112, t113, t114, t115, t116, t117, t118, t119, t120, t121, t122, t123, t124, t125, t126, t127, t128, t129, t130, t131, t132, t133, t134, t135, t136, t137, t138, t139, t140, t141, t142, t143, t144, t145, t146, t147, t148, t149, t150, t151, t152, t153, t154, t155, t156, t157, t158, t159, t160, t161, t162, t163, t164, t165, t166, t167, t168, t169, t170, t171, t172, t173, t174, t175, t176, t177, t178, t179, t180, t181, t182, t183, t184, t185, t186, t187, t188, t189, t190, t191, t192, t193, t194, t195, t196, t197, t198, t199, t200, t201, t202, t203, t204, t205, t206, t207, t208, t209, t210, t211, t212, t213, t214, t215, t216, t217, t218, t219, t220, t221, t222, t223, t224, t225, t226, t227, t228, t229, t230, t231, t232, t233, t234, t235, t236, t237, t238, t239, t240, t241, t242, t243, t244, t245, t246, t247, t248, t249, t250, t251, t252, t253, t254, t255, t256, t257, t258, t259, t260, t261, t262, t263, t264, t265, t266, t267, t268, t269, t270, t271, t272, t273, t274, t275, t276, t277, t278, t279, t280, t281, t282, t283, t284, t285, t286, t287, t288, t289, t290, t291, t292, t293, t294], defers := [] } X := by
  have hG : GdT T := gdt_of hs
  have KS := hid hK
  have HPL := hid (hK.pls hn)
  have GVX := hid (hgv.low hK.low)
  have HST := hid (fun v1 v2 n ty W h1 h2 h3 => same_types v1 v2 n ty W h1 h2 h3)
  have HCK := hid (fun W h1 h2 => check_any a2 T mc sc W h1 hG h2)
  have HCP := hid (fun W h1 => copied_pl a2 T mc W h1 hG hs)
  have HRK := hid (fun a' cap' W h1 => rcheck_any a' T cap' sc W h1 hG)
  rw [← hn] at HCK HCP HRK
  have x7 := cell_of_one hK.mbx
  have XM := hid hK.mbx
  have LOW := hid hK.low
  clear hK hn hs hgv hG
  simp only [hdC, rtC, bdC, Option.getD, Tryz.f7]
  go_upto_region 56 with (first
    | (go_at_call 10; refine (HCP.out _ HPL.out).mono ?_; rintro e w3 ⟨a3, c3, rfl, p3, l3⟩; have P3 := hid p3; have L3 := hid l3; clear p3 l3; dsimp only)
    | (go_at_call 11; refine (HRK.out _ _ _ P3.out.pl).mono ?_; rintro e w6 ⟨v6, f6, rfl, l6, hr6⟩; obtain ⟨fc, fi, fz, rfl⟩ := hr6.form; have R6 := hid hr6; have L6 := hid (bchS L3.out l6); clear l6 hr6; dsimp only))
  have HB6 := hid (belowA w6 (.cells #[.int .i64 fc, .int .i64 fi, .int .i64 fz] 33))
  have HX6 := hid (heap_alloc_new w6 (.cells #[.int .i64 fc, .int .i64 fi, .int .i64 fz] 33))
  have L7 := hid (bchS L6.out HB6.out)
  generalize w6.alloc (.cells #[.int .i64 fc, .int .i64 fi, .int .i64 fz] 33) = W7 at *
  have X7 := hid ((L7.out.block _ (lt_blk XM.out)).trans XM.out)
  clear x7
  have y7 := cell_of_one X7.out
  go_upto_region 57 with (go_at_call 12; refine (HCK.out _ (HPL.out.low L7.out).pl (GVX.out.low L7.out)).mono ?_; rintro e w8 ⟨v8, ev8, rfl, l8, hr8⟩; have R8 := hid hr8; have L8 := hid l8; clear l8 hr8; dsimp only)
  obtain ⟨⟨m, ty, hm, t1, t2⟩, hif⟩ := ck_uni R8.out R6.out (bchS HB6.out L8.out)
  have TT1 := hid t1
  have TT2 := hid t2
  have HIF := hid hif
  have HFX := hid ((L8.out.block _ (lt_blk HX6.out)).trans HX6.out)
  clear t1 t2 hif y7
  generalize w6.heap.size = fb at *
  go_wp2_with (first
        | (go_at_call 13; refine (HST.out _ _ m ty _ TT1.out TT2.out (by omega)).mono ?_; rintro e w4 ⟨rfl, l4⟩; have L4 := hid l4; clear l4; have ⟨⟨z0, z1, z2⟩, _⟩ := rc3 ((L4.out.block _ (lt_blk HFX.out)).trans HFX.out); dsimp only)
        | (go_at_call 14; refine (HIF.out _ L4.out).mono ?_; rintro e w6 ⟨rfl, l6⟩; have L6' := hid l6; clear l6; dsimp only))
  go_ret
  exact ⟨rfl, bchS (bchS (bchS (bchS LOW.out L7.out) L8.out) L4.out) L6'.out⟩
end Go.Proofs.YtiddnjjaidiohaaGreatDoor.L.Kp
