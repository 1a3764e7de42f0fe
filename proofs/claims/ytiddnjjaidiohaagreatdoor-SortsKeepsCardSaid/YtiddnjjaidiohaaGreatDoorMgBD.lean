import Derived.Test.YtiddnjjaidiohaaGreatDoorKd
import Derived.Test.YtiddnjjaidiohaaGreatDoorKe
namespace Go.Proofs.YtiddnjjaidiohaaGreatDoor.L.Kp
open Go.RowKit Go.Shelf
set_option linter.unusedVariables false
set_option linter.unusedSimpArgs false
theorem sf_6 : (rtC (rtC (rtC (rtC (rtC (rtC (Option.getD Tryz.f7.body Code.skip))))))) = .seq (hdC (rtC (rtC (rtC (rtC (rtC (rtC (Option.getD Tryz.f7.body Code.skip)))))))) (rtC (rtC (rtC (rtC (rtC (rtC (rtC (Option.getD Tryz.f7.body Code.skip)))))))) := by kernel_rfl
set_option maxHeartbeats 16000000 in
set_option maxRecDepth 100000 in
theorem seg_6 (w : World) (base tb fb mb gr : Nat) (a a2 : Option Addr) (n cap mc : Nat) (fc fi fz sc : Int) (vw : Value) (T : List Pt) (X : World) (ks : Nat → Value) (xs : List Value) {t0 t3 t4 t9 t10 t11 t12 t13 t14 t15 t16 t17 t18 t19 t20 t21 t22 t23 t24 t25 t26 t27 t28 t29 t30 t31 t32 t33 t34 t35 t36 t37 t38 t39 t40 t41 t42 t43 t44 t45 t46 t47 t48 t49 t50 t51 t52 t53 t54 t55 t56 t57 t58 t59 t60 t61 t62 t63 t64 t65 t66 t67 t68 t69 t70 t71 t72 t73 t74 t75 t76 t77 t78 t79 t80 t81 t82 t83 t84 t85 t86 t87 t88 t89 t90 t91 t92 t93 t94 t95 t96 t97 t98 t99 t100 t101 t102 t103 t104 t105 t106 t107 t108 t109 t110 t111 t112 t113 t114 t115 t116 t117 t118 t119 t120 t121 t122 t123 t124 t125 t126 t127 t128 t129 t130 t131 t132 t133 t134 t135 t136 t137 t138 t139 t140 t141 t142 t143 t144 t145 t146 t147 t148 t149 t150 t151 t152 t153 t154 t155 t156 t157 t158 t159 t160 t161 t162 t163 t164 t165 t166 t167 t168 t169 t170 t171 t172 t173 t174 t175 t176 t177 t178 t179 t180 t181 t182 t183 t184 t185 t186 t187 t188 t189 t190 t191 t192 t193 t194 t195 t196 t197 t198 t199 t200 t201 t202 t203 t204 t205 t206 t207 t208 t209 t210 t211 t212 t213 t214 t215 t216 t217 t218 t219 t220 t221 t222 t223 t224 t225 t226 t227 t228 t229 t230 t231 t232 t233 t234 t235 t236 t237 t238 t239 t240 t241 t242 t243 t244 t245 t246 t247 t248 t249 t250 t251 t252 t253 t254 t255 t256 t257 t258 t259 t260 t261 t262 t263 t264 t265 t266 t267 t268 t269 t270 t271 t272 t273 t274 t275 t276 t277 t278 t279 t280 t281 t282 t283 t284 t285 t286 t287 t288 t289 t290 t291 t292 t293 t294 : Value}
    (hx : X.heap[mb]? = some (.cells #[.slice a2 n mc] 26 (0, 0))) (hM : OwnP X base (.slice a2 n mc) T ks n) (hR : X.ownsRow base 58 1 (.slice (some ⟨gr, 0, none⟩) n n) n xs) (hn : n = T.length) (hs : sumK T T.length ≤ 100000)
    (nx : ∀ (W' : World) (ks' : Nat → Value) (xs' : List Value) {y0 y3 y4 y9 y10 y11 y12 y13 y14 y15 y16 y17 y18 y19 y20 y21 y22 y23 y24 y25 y26 y27 y28 y29 y30 y31 y32 y33 y34 y35 y36 y37 y38 y39 y40 y41 y42 y43 y44 y45 y46 y47 y48 y49 y50 y51 y52 y53 y54 y55 y56 y57 y58 y59 y60 y61 y62 y63 y64 y65 y66 y67 y68 y69 y70 y71 y72 y73 y74 y75 y76 y77 y78 y79 y80 y81 y82 y83 y84 y85 y86 y87 y88 y89 y90 y91 y92 y93 y94 y95 y96 y97 y98 y99 y100 y101 y102 y103 y104 y105 y106 y107 y108 y109 y110 y111 y112 y113 y114 y115 y116 y117 y118 y119 y120 y121 y122 y123 y124 y125 y126 y127 y128 y129 y130 y131 y132 y133 y134 y135 y136 y137 y138 y139 y140 y141 y142 y143 y144 y145 y146 y147 y148 y149 y150 y151 y152 y153 y154 y155 y156 y157 y158 y159 y160 y161 y162 y163 y164 y165 y166 y167 y168 y169 y170 y171 y172 y173 y174 y175 y176 y177 y178 y179 y180 y181 y182 y183 y184 y185 y186 y187 y188 y189 y190 y191 y192 y193 y194 y195 y196 y197 y198 y199 y200 y201 y202 y203 y204 y205 y206 y207 y208 y209 y210 y211 y212 y213 y214 y215 y216 y217 y218 y219 y220 y221 y222 y223 y224 y225 y226 y227 y228 y229 y230 y231 y232 y233 y234 y235 y236 y237 y238 y239 y240 y241 y242 y243 y244 y245 y246 y247 y248 y249 y250 y251 y252 y253 y254 y255 y256 y257 y258 y259 y260 y261 y262 y263 y264 y265 y266 y267 y268 y269 y270 y271 y272 y273 y274 y275 y276 y277 y278 y279 y280 y281 y282 y283 y284 y285 y286 y287 y288 y289 y290 y291 y292 y293 y294 : Value}, Kro X W' base gr n n mc a2 T ks' xs' → Code.wp Tryz.prog (rtC (rtC (rtC (rtC (rtC (rtC (rtC (Option.getD Tryz.f7.body Code.skip)))))))) (bodyPost Tryz.prog Tryz.f7 (fun e w' => e = .returned (.bool true) ∧ Below w.heap.size w w')) { tmps := #[y0, .int .i64 sc, .pointer (some ⟨tb, 0, none⟩), y3, y4, vw, .pointer (some ⟨fb, 0, none⟩), .pointer (some ⟨mb, 0, none⟩), .slice (some ⟨gr, 0, none⟩) n n, y9, y10, y11, y12, y13, y14, y15, y16, y17, y18, y19, y20, y21, y22, y23, y24, y25, y26, y27, y28, y29, y30, y31, y32, y33, y34, y35, y36, y37, y38, y39, y40, y41, y42, y43, y44, y45, y46, y47, y48, y49, y50, y51, y52, y53, y54, y55, y56, y57, y58, y59, y60, y61, y62, y63, y64, y65, y66, y67, y68, y69, y70, y71, y72, y73, y74, y75, y76, y77, y78, y79, y80, y81, y82, y83, y84, y85, y86, y87, y88, y89, y90, y91, y92, y93, y94, y95, y96, y97, y98, y99, y100, y101, y102, y103, y104, y105, y106, y107, y108, y109, y110, y111, y112, y113, y114, y115, y116, y117, y118, y119, y120, y121, y122, y123, y124, y125, y126, y127, y128, y129, y130, y131, y132, y133, y134, y135, y136, y137, y138, y139, y140, y141, y142, y143, y144, y145, y146, y147, y148, y149, y150, y151, y152, y153, y154, y155, y156, y157, y158, y159, y160, y161, y162, y163, y164, y165, y166, y167, y168, y169, y170, y171, y172, y173, y174, y175, y176, y177, y178, y179, y180, y181, y182, y183, y184, y185, y186, y187, y188, y189, y190, y191, y192, y193, y194, y195, y196, y197, y198, y199, y200, y201, y202, y203, y204, y205, y206, y207, y208, y209, y210, y211, y212, y213, y214, y215, y216, y217, y218, y219, y220, y221, y222, y223, y224, y225, y226, y227, y228, y229, y230, y231, y232, y233, y234, y235, y236, y237, y238, y239, y240, y241, y242, y243, y244, y245, y246, y247, y248, y249, y250, y251, y252, y253, y254, y255, y256, y257, y258, y259, y260, y261, y262, y263, y264, y265, y266, y267, y268, y269, y270, y271, y272, y273, y274, y275, y276, y277, y278, y279, y280, y281, y282, y283, y284, y285, y286, y287, y288, y289, y290, y291, y292, y293, y294], defers := [] } W') :
    Code.wp Tryz.prog (rtC (rtC (rtC (rtC (rtC (rtC (Option.getD Tryz.f7.body Code.skip))))))) (bodyPost Tryz.prog Tryz.f7 (fun e w' => e = .returned (.bool true) ∧ Below w.heap.size w w')) { tmps := #[t0, .int .i64 sc, .pointer (some ⟨tb, 0, none⟩), t3, t4, vw, .pointer (some ⟨fb, 0, none⟩), .pointer (some ⟨mb, 0, none⟩), .slice (some ⟨gr, 0, none⟩) n n, t9, t10, t11, t12, t13, t14, t15, t16, t17, t18, t19, t20, t21, t22, t23, t24, t25, t26, t27, t28, t29, t30, t31, t32, t33, t34, t35, t36, t37, t38, t39, t40, t41, t42, t43, t44, t45, t46, t47, t48, t49, t50, t51, t52, t53, t54, t55, t56, t57, t58, t59, t60, t61, t62, t63, t64, t65, t66, t67, t68, t69, t70, t71, t72, t73, t74, t75, t76, t77, t78, t79, t80, t81, t82, t83, t84, t85, t86, t87, t88, t89, t90, t91, t92, t93, t94, t95, t96, t97, t98, t99, t100, t101, t102, t103, t104, t105, t106, t107, t108, t109, t110, t111, t112, t113, t114, t115, t116, t117, t118, t119, t120, t121, t122, t123, t124, t125, t126, t127, t128, t129, t130, t131, t132, t133, t134, t135, t136, t137, t138, t139, t140, t141, t142, t143, t144, t145, t146, t147, t148, t149, t150, t151, t152, t153, t154, t155, t156, t157, t158, t159, t160, t161, t162, t163, t164, t165, t166, t167, t168, t169, t170, t171, t172, t173, t174, t175, t176, t177, t178, t179, t180, t181, t182, t183, t184, t185, t186, t187, t188, t189, t190, t191, t192, t193, t194, t195, t196, t197, t198, t199, t200, t201, t202, t203, t204, t205, t206, t207, t208, t209, t210, t211, t212, t213, t214, t215, t216, t217, t218, t219, t220, t221, t222, t223, t224, t225, t226, t227, t228, t229, t230, t231, t232, t233, t234, t235, t236, t237, t238, t239, t240, t241, t242, t243, t244, t245, t246, t247, t248, t249, t250, t251, t252, t253, t254, t255, t256, t257, t258, t259, t260, t261, t262, t263, t264, t265, t266, t267, t268, t269, t270, t271, t272, t273, t274, t275, t276, t277, t278, t279, t280, t281, t282, t283, t284, t285, t286, t287, t288, t289, t290, t291, t292, t293, t294], defers := [] } X := by
  rw [sf_6]
  generalize hT : (rtC (rtC (rtC (rtC (rtC (rtC (rtC (Option.getD Tryz.f7.body Code.skip)))))))) = TL at *
  clear hT
  simp only [hdC, rtC, bdC, Option.getD, Tryz.f7]
  have NX := hid nx
  have HX := hid hx
  have HS := hid hs
  have HN := hid hn
  have hn5 : n ≤ 100000 := by
    have h0 := sumK_mono T (Nat.zero_le T.length)
    have h1 : sumK T 0 = T.length := rfl
    omega
  have I0 := hid (show Kro X X base gr 0 n mc a2 T ks xs from ⟨But2.refl _ _ _, hM, hR, fun j hj => absurd hj (Nat.not_lt_zero j), fun j hj => absurd hj (Nat.not_lt_zero j)⟩)
  have c0 := cell_of_one hx
  have HMP := hid (show ∀ gp, a2 = some ⟨gp, 0, none⟩ → mb ≠ gp from fun gp e => by
    rw [e] at hM hx
    exact blk_ne hM.row hx (by decide))
  have HMR := hid (show mb ≠ gr from blk_ne hR hx (by decide))
  clear nx hx hM hR hn hs
  go_wp2_with fail
  clear c0
  go_loopw [49] (fun i wr => ∃ (k : Nat) (ks : Nat → Value) (xs : List Value), k ≤ n ∧ i = .int .i64 (k : Int) ∧ Hid (Kro X wr base gr k n mc a2 T ks xs)) (fun i _ => n - (intOf i).toNat)
  case atStart => exact ⟨0, ks, xs, Nat.zero_le _, rfl, I0⟩
  case round =>
    clear I0
    obtain ⟨k, ks, xs, hk, rfl, IV⟩ := hrel
    by_cases hkn : k < n
    · obtain ⟨gp, ea⟩ : ∃ gp, a2 = some ⟨gp, 0, none⟩ := by
        rcases IV.out.mine.row.2 with ⟨_, e0⟩ | ⟨g, cap, cur, e, _⟩
        · omega
        · cases e; exact ⟨g, rfl⟩
      subst ea
      have HX2 := hid (show wr.heap[mb]? = some (.cells #[.slice (some ⟨gp, 0, none⟩) n mc] 26 (0, 0)) from by
        refine (IV.out.but.block mb (lt_blk HX.out) ?_ ?_).trans HX.out
        · intro e
          exact HMP.out gp rfl (by simpa [Value.ownBlock] using e)
        · intro e
          exact HMR.out (by simpa using e))
      have HKL := hid (show (pt T k).kids.length ≤ 100000 from Nat.le_trans (sumK_kid T (by rw [← HN.out]; exact hkn)) HS.out)
      have g1 : (k : Int) < (n : Int) := by omega
      have HK1 := hid (show k + 1 ≤ n by omega)
      go_upto_region 11 with (fail)
      refine keep_11 (by assumption) (by kernel_rfl) (by kernel_rfl) wr base gp gr mb mc k n T ks xs HX2.out IV.out.mine IV.out.room hkn hn5 HKL.out (fun c a a' w h => by cases h.2.1) (fun W' rv => ?_)
      intros
      rename_i q1 q2 q3 q4
      have HI := hid (IV.out.next hkn q1 q2 q3 q4)
      clear q1 q2 q3 q4
      go_wp2_with fail
      refine ⟨⟨k + 1, _, _, HK1.out, by go_num, HI⟩, ?_⟩
      have h3 := HK1.out
      simp [intOf]
      omega
    · obtain rfl : k = n := by omega
      go_wp2_with fail
      exact NX.out _ _ _ IV.out

end Go.Proofs.YtiddnjjaidiohaaGreatDoor.L.Kp
namespace Go.Proofs.YtiddnjjaidiohaaGreatDoor.L.Kp
open Go.RowKit Go.Shelf
set_option linter.unusedVariables false
set_option linter.unusedSimpArgs false
theorem sf_7 : (rtC (rtC (rtC (rtC (rtC (rtC (rtC (Option.getD Tryz.f7.body Code.skip)))))))) = .seq (hdC (rtC (rtC (rtC (rtC (rtC (rtC (rtC (Option.getD Tryz.f7.body Code.skip))))))))) (rtC (rtC (rtC (rtC (rtC (rtC (rtC (rtC (Option.getD Tryz.f7.body Code.skip))))))))) := by kernel_rfl
theorem sf_8 : (rtC (rtC (rtC (rtC (rtC (rtC (rtC (rtC (Option.getD Tryz.f7.body Code.skip))))))))) = .seq (hdC (rtC (rtC (rtC (rtC (rtC (rtC (rtC (rtC (Option.getD Tryz.f7.body Code.skip)))))))))) (rtC (rtC (rtC (rtC (rtC (rtC (rtC (rtC (rtC (Option.getD Tryz.f7.body Code.skip)))))))))) := by kernel_rfl
set_option maxHeartbeats 16000000 in
set_option maxRecDepth 100000 in
theorem seg_7 (w : World) (base tb fb mb gr : Nat) (a a2 : Option Addr) (n cap mc : Nat) (fc fi fz sc : Int) (vw : Value) (T : List Pt) (X : World) (ks : Nat → Value) (xs : List Value) {t0 t3 t4 t9 t10 t11 t12 t13 t14 t15 t16 t17 t18 t19 t20 t21 t22 t23 t24 t25 t26 t27 t28 t29 t30 t31 t32 t33 t34 t35 t36 t37 t38 t39 t40 t41 t42 t43 t44 t45 t46 t47 t48 t49 t50 t51 t52 t53 t54 t55 t56 t57 t58 t59 t60 t61 t62 t63 t64 t65 t66 t67 t68 t69 t70 t71 t72 t73 t74 t75 t76 t77 t78 t79 t80 t81 t82 t83 t84 t85 t86 t87 t88 t89 t90 t91 t92 t93 t94 t95 t96 t97 t98 t99 t100 t101 t102 t103 t104 t105 t106 t107 t108 t109 t110 t111 t112 t113 t114 t115 t116 t117 t118 t119 t120 t121 t122 t123 t124 t125 t126 t127 t128 t129 t130 t131 t132 t133 t134 t135 t136 t137 t138 t139 t140 t141 t142 t143 t144 t145 t146 t147 t148 t149 t150 t151 t152 t153 t154 t155 t156 t157 t158 t159 t160 t161 t162 t163 t164 t165 t166 t167 t168 t169 t170 t171 t172 t173 t174 t175 t176 t177 t178 t179 t180 t181 t182 t183 t184 t185 t186 t187 t188 t189 t190 t191 t192 t193 t194 t195 t196 t197 t198 t199 t200 t201 t202 t203 t204 t205 t206 t207 t208 t209 t210 t211 t212 t213 t214 t215 t216 t217 t218 t219 t220 t221 t222 t223 t224 t225 t226 t227 t228 t229 t230 t231 t232 t233 t234 t235 t236 t237 t238 t239 t240 t241 t242 t243 t244 t245 t246 t247 t248 t249 t250 t251 t252 t253 t254 t255 t256 t257 t258 t259 t260 t261 t262 t263 t264 t265 t266 t267 t268 t269 t270 t271 t272 t273 t274 t275 t276 t277 t278 t279 t280 t281 t282 t283 t284 t285 t286 t287 t288 t289 t290 t291 t292 t293 t294 : Value}
    (hK : Kst w X base tb fb mb gr a a2 n cap mc fc fi fz T ks xs) (W0 : World) (hw0 : RkR T sc W0 vw (.agg #[.int .i64 fc, .int .i64 fi, .int .i64 fz])) (hb0 : Below W0.heap.size W0 X) (hG : GdT T) (hgv : Gv w) (TT : List Ty2) (hT1 : TT.length ≤ 1000) (hT2 : ∀ B W v ev, CkR T sc B W v ev → OwT W B v TT)
    (nx : ∀ (W' : World) (ga gc : Nat) (fl : List Value) {y0 y3 y4 y9 y11 y12 y13 y14 y15 y16 y17 y18 y19 y20 y21 y22 y23 y24 y25 y26 y27 y28 y29 y30 y31 y32 y33 y34 y35 y36 y37 y38 y39 y40 y41 y42 y43 y44 y45 y46 y47 y48 y49 y50 y51 y52 y53 y54 y55 y56 y57 y58 y59 y60 y61 y62 y63 y64 y65 y66 y67 y68 y69 y70 y71 y72 y73 y74 y75 y76 y77 y78 y79 y80 y81 y82 y83 y84 y85 y86 y87 y88 y89 y90 y91 y92 y93 y94 y95 y96 y97 y98 y99 y100 y101 y102 y103 y104 y105 y106 y107 y108 y109 y110 y111 y112 y113 y114 y115 y116 y117 y118 y119 y120 y121 y122 y123 y124 y125 y126 y127 y128 y129 y130 y131 y132 y133 y134 y135 y136 y137 y138 y139 y140 y141 y142 y143 y144 y145 y146 y147 y148 y149 y150 y151 y152 y153 y154 y155 y156 y157 y158 y159 y160 y161 y162 y163 y164 y165 y166 y167 y168 y169 y170 y171 y172 y173 y174 y175 y176 y177 y178 y179 y180 y181 y182 y183 y184 y185 y186 y187 y188 y189 y190 y191 y192 y193 y194 y195 y196 y197 y198 y199 y200 y201 y202 y203 y204 y205 y206 y207 y208 y209 y210 y211 y212 y213 y214 y215 y216 y217 y218 y219 y220 y221 y222 y223 y224 y225 y226 y227 y228 y229 y230 y231 y232 y233 y234 y235 y236 y237 y238 y239 y240 y241 y242 y243 y244 y245 y246 y247 y248 y249 y250 y251 y252 y253 y254 y255 y256 y257 y258 y259 y260 y261 y262 y263 y264 y265 y266 y267 y268 y269 y270 y271 y272 y273 y274 y275 y276 y277 y278 y279 y280 y281 y282 y283 y284 y285 y286 y287 y288 y289 y290 y291 y292 y293 y294 : Value}, Fm W' X.heap.size (.slice (some ⟨ga, 0, none⟩) 18 gc) fl (fun _ => TT) → Below X.heap.size X W' → Code.wp Tryz.prog (rtC (rtC (rtC (rtC (rtC (rtC (rtC (rtC (rtC (Option.getD Tryz.f7.body Code.skip)))))))))) (bodyPost Tryz.prog Tryz.f7 (fun e w' => e = .returned (.bool true) ∧ Below w.heap.size w w')) { tmps := #[y0, .int .i64 sc, .pointer (some ⟨tb, 0, none⟩), y3, y4, vw, .pointer (some ⟨fb, 0, none⟩), .pointer (some ⟨mb, 0, none⟩), .slice (some ⟨gr, 0, none⟩) n n, y9, .slice (some ⟨ga, 0, none⟩) 18 gc, y11, y12, y13, y14, y15, y16, y17, y18, y19, y20, y21, y22, y23, y24, y25, y26, y27, y28, y29, y30, y31, y32, y33, y34, y35, y36, y37, y38, y39, y40, y41, y42, y43, y44, y45, y46, y47, y48, y49, y50, y51, y52, y53, y54, y55, y56, y57, y58, y59, y60, y61, y62, y63, y64, y65, y66, y67, y68, y69, y70, y71, y72, y73, y74, y75, y76, y77, y78, y79, y80, y81, y82, y83, y84, y85, y86, y87, y88, y89, y90, y91, y92, y93, y94, y95, y96, y97, y98, y99, y100, y101, y102, y103, y104, y105, y106, y107, y108, y109, y110, y111, y112, y113, y114, y115, y116, y117, y118, y119, y120, y121, y122, y123, y124, y125, y126, y127, y128, y129, y130, y131, y132, y133, y134, y135, y136, y137, y138, y139, y140, y141, y142, y143, y144, y145, y146, y147, y148, y149, y150, y151, y152, y153, y154, y155, y156, y157, y158, y159, y160, y161, y162, y163, y164, y165, y166, y167, y168, y169, y170, y171, y172, y173, y174, y175, y176, y177, y178, y179, y180, y181, y182, y183, y184, y185, y186, y187, y188, y189, y190, y191, y192, y193, y194, y195, y196, y197, y198, y199, y200, y201, y202, y203, y204, y205, y206, y207, y208, y209, y210, y211, y212, y213, y214, y215, y216, y217, y218, y219, y220, y221, y222, y223, y224, y225, y226, y227, y228, y229, y230, y231, y232, y233, y234, y235, y236, y237, y238, y239, y240, y241, y242, y243, y244, y245, y246, y247, y248, y249, y250, y251, y252, y253, y254, y255, y256, y257, y258, y259, y260, y261, y262, y263, y264, y265, y266, y267, y268, y269, y270, y271, y272, y273, y274, y275, y276, y277, y278, y279, y280, y281, y282, y283, y284, y285, y286, y287, y288, y289, y290, y291, y292, y293, y294], defers := [] } W') :
    Code.wp Tryz.prog (rtC (rtC (rtC (rtC (rtC (rtC (rtC (Option.getD Tryz.f7.body Code.skip)))))))) (bodyPost Tryz.prog Tryz.f7 (fun e w' => e = .returned (.bool true) ∧ Below w.heap.size w w')) { tmps := #[t0, .int .i64 sc, .pointer (some ⟨tb, 0, none⟩), t3, t4, vw, .pointer (some ⟨fb, 0, none⟩), .pointer (some ⟨mb, 0, none⟩), .slice (some ⟨gr, 0, none⟩) n n, t9, t10, t11, t12, t13, t14, t15, t16, t17, t18, t19, t20, t21, t22, t23, t24, t25, t26, t27, t28, t29, t30, t31, t32, t33, t34, t35, t36, t37, t38, t39, t40, t41, t42, t43, t44, t45, t46, t47, t48, t49, t50, t51, t52, t53, t54, t55, t56, t57, t58, t59, t60, t61, t62, t63, t64, t65, t66, t67, t68, t69, t70, t71, t72, t73, t74, t75, t76, t77, t78, t79, t80, t81, t82, t83, t84, t85, t86, t87, t88, t89, t90, t91, t92, t93, t94, t95, t96, t97, t98, t99, t100, t101, t102, t103, t104, t105, t106, t107, t108, t109, t110, t111, t112, t113, t114, t115, t116, t117, t118, t119, t120, t121, t122, t123, t124, t125, t126, t127, t128, t129, t130, t131, t132, t133, t134, t135, t136, t137, t138, t139, t140, t141, t142, t143, t144, t145, t146, t147, t148, t149, t150, t151, t152, t153, t154, t155, t156, t157, t158, t159, t160, t161, t162, t163, t164, t165, t166, t167, t168, t169, t170, t171, t172, t173, t174, t175, t176, t177, t178, t179, t180, t181, t182, t183, t184, t185, t186, t187, t188, t189, t190, t191, t192, t193, t194, t195, t196, t197, t198, t199, t200, t201, t202, t203, t204, t205, t206, t207, t208, t209, t210, t211, t212, t213, t214, t215, t216, t217, t218, t219, t220, t221, t222, t223, t224, t225, t226, t227, t228, t229, t230, t231, t232, t233, t234, t235, t236, t237, t238, t239, t240, t241, t242, t243, t244, t245, t246, t247, t248, t249, t250, t251, t252, t253, t254, t255, t256, t257, t258, t259, t260, t261, t262, t263, t264, t265, t266, t267, t268, t269, t270, t271, t272, t273, t274, t275, t276, t277, t278, t279, t280, t281, t282, t283, t284, t285, t286, t287, t288, t289, t290, t291, t292, t293, t294], defers := [] } X := by
  rw [sf_7, sf_8]
  generalize hT : (rtC (rtC (rtC (rtC (rtC (rtC (rtC (rtC (rtC (Option.getD Tryz.f7.body Code.skip)))))))))) = TL at *
  clear hT
  simp only [hdC, rtC, bdC, Option.getD, Tryz.f7]
  obtain ⟨i1, hi1, hy0, hy1, hy2⟩ := info_parts infoS
  have NX := hid nx
  have KS := hid hK
  have HW0 := hid hw0
  have HB0 := hid hb0
  have HGV := hid hgv
  have HT2 := hid hT2
  have HST := hid (fun v1 v2 n ty W h1 h2 h3 => same_types v1 v2 n ty W h1 h2 h3)
  have HCK := hid (fun W h1 h2 => check_any a2 T mc sc W h1 hG h2)
  rw [← hK.len] at HCK
  obtain ⟨nt, hnt⟩ : ∃ nt, nt = TT.length := ⟨_, rfl⟩
  have HNT := hid hnt
  rw [← hnt] at hT1
  have F0 := hid (show Fk X X.heap.size (.slice none 0 0) [] TT 0 from ⟨World.ownsRow_nil _ _ _ _, fun j hj => absurd hj (by omega), fun i j hi => absurd hi (by omega)⟩)
  clear nx hK hw0 hb0 hgv hT2 hnt hG
  go_wp2_with fail
  go_loopw [10, 11] (fun va i wr => ∃ (k : Nat) (fl : List Value), k ≤ 18 ∧ i = .int .i64 k ∧ Hid (Fk wr X.heap.size va fl TT k) ∧ Hid (Below X.heap.size X wr)) (fun _ i _ => 18 - (intOf i).toNat)
  case atStart => exact ⟨0, [], by omega, rfl, F0, hid (Below.refl _ _)⟩
  case round =>
    obtain ⟨k, fl, hk, rfl, FK, HB⟩ := hrel
    clear F0
    have hzB := HB.out.size
    by_cases hlt : k < 18
    · have KR := hid (KS.out.below HB.out)
      have GVR := hid (HGV.out.low KR.out.low)
      have x7 := cell_of_one KR.out.mbx
      have g1 : (k : Int) < 18 := by omega
      go_upto_region 19 with (go_at_call 12; refine (HCK.out _ KR.out.pls.pl GVR.out).mono ?_; rintro e w3 ⟨v3, ev3, rfl, l3, r3⟩; have R3 := hid r3; have L3 := hid l3; clear l3 r3; dsimp only)
      have hz3 := L3.out.size
      have O3 := hid (HT2.out _ _ _ _ R3.out)
      obtain ⟨⟨m, ty, hm, q1, q2⟩, hif⟩ := ck_uni R3.out HW0.out (bchS (bchS HB0.out HB.out) L3.out)
      obtain ⟨a3, c3, rfl⟩ := OwT.form O3.out
      rw [← HNT.out] at O3 q1 ⊢
      have TT1 := hid q1
      have TT2 := hid q2
      have HIF := hid hif
      have HFX := hid ((L3.out.block _ (lt_blk KR.out.fbx)).trans KR.out.fbx)
      clear q1 q2 hif x7
      go_upto_region 21 with (first
        | (go_at_call 13; refine (HST.out _ _ m ty _ TT1.out TT2.out (by omega)).mono ?_; rintro e w4 ⟨rfl, l4⟩; have L4 := hid l4; clear l4; have ⟨⟨z0, z1, z2⟩, _⟩ := rc3 ((L4.out.block _ (lt_blk HFX.out)).trans HFX.out); dsimp only)
        | (go_at_call 14; refine (HIF.out _ L4.out).mono ?_; rintro e w6 ⟨rfl, l6⟩; have L6 := hid l6; clear l6; dsimp only))
      have L36 := hid (bchS (bchS L3.out L4.out) L6.out)
      have hz6 := L36.out.size
      have ALL6 := hid (FK.out.low L36.out).all
      have O6 := hid (OwT.low O3.out (bchS L4.out L6.out))
      obtain ⟨ga, gc, hvg⟩ : ∃ a c, u10 = .slice a k c := by
        rcases ALL6.out.2 with ⟨e, e0⟩ | ⟨g, cap, cur, e, _⟩
        · exact ⟨none, 0, by rw [e, e0]⟩
        · exact ⟨_, _, e⟩
      subst hvg
      clear TT1 TT2 HIF z0 z1 z2
      go_wp2_with (at_builtin; refine wpList_append_own _ rfl _ _ 64 rfl X.heap.size 31 i1 (.slice none 0 0) 1 24 Tryz.underlying64 hi1 hy0 hy1 hy2 rfl (by decide) _ _ _ rfl (World.ownsRow.alloc ALL6.out _) ⟨w6.heap.size, 0, none⟩ 1 1 [.slice a3 nt c3] rfl rfl (Ap.one_at _ _ _) (fun x hx => by simp at hx; subst hx; rfl) (by unfold maxLen; omega) (by omega) (by simp; omega) ?_)
      intro va' w5 hown5 hgrow5 _
      have F5 := hid (FK.out.snoc L36.out O6.out hzB (grown_alloc hgrow5) hown5)
      have B5 := hid ((bchS HB.out L36.out).trans (grown_below (grown_alloc hgrow5) (by omega) (fun b e => (row_lt ALL6.out e).1)))
      obtain ⟨a5, c5, hv5⟩ : ∃ a c, va' = .slice a (k + 1) c := by
        rcases hown5.2 with ⟨e, e0⟩ | ⟨g, cap, cur, e, _⟩
        · cases e0
        · exact ⟨_, _, e⟩
      subst hv5
      clear hown5 hgrow5
      go_wp2_with fail
      exact ⟨⟨k + 1, fl ++ [_], by omega, by go_num, F5, B5⟩, by simp [intOf]; omega⟩
    · have hk18 : k = 18 := by omega
      have hkd : decide ((k : Int) < 18) = false := by simp; omega
      have F0 := FK.out
      rw [hk18] at F0
      have FM := hid (show Fm wr X.heap.size u10 fl (fun _ => TT) from ⟨F0.all, F0.own, F0.sep⟩)
      clear F0 FK hk18
      obtain ⟨A, cp, hva, hA, hbA, hcell⟩ := FM.out.cell
      subst hva
      clear hcell
      go_wp2_with fail
      exact NX.out _ _ _ _ FM.out HB.out

end Go.Proofs.YtiddnjjaidiohaaGreatDoor.L.Kp
