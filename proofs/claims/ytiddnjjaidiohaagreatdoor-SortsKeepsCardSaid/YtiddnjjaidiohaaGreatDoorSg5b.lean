import Derived.Test.YtiddnjjaidiohaaGreatDoorMgAQ
namespace Go.Proofs.YtiddnjjaidiohaaGreatDoor.L
open Go.RowKit
set_option linter.unusedVariables false
set_option maxHeartbeats 8000000 in
set_option maxRecDepth 100000 in
theorem ty_8a (w W : World) (t rb qb tb pb b2 o2 L cap : Nat) (sc : Int) (tv : Value) (tx : ByteArray) (nu : Int) (ka : Option Addr) (m kc : Nat) (ga : Option Addr) (n gc : Nat) {t0 t5 t6 t7 t12 t13 t14 t15 t16 t17 t18 t19 t20 t21 t22 t23 t24 t25 t26 t27 t28 t29 t30 t31 t32 t33 t34 t35 t36 t37 t38 t39 t40 t41 t42 t43 t44 t45 t46 t47 t48 t49 t50 t51 t52 t53 t54 t55 t56 t57 t58 t59 t60 t61 t62 t63 t64 t65 t66 t67 t68 t69 t70 t71 t72 t73 t74 t75 t76 t77 t78 t79 t80 t81 t82 t83 t84 t85 t86 t87 t88 t89 t90 t91 t92 t93 t94 t95 t96 t97 t98 t99 t100 t101 t102 t103 t104 t105 t106 t107 t108 t109 t110 t111 t112 t113 t114 t115 t116 t117 t118 t119 t120 t121 t122 t123 t124 t125 t126 t127 t128 t129 t130 t131 t132 t133 t134 t135 t136 t137 t138 t139 t140 t141 t142 t143 t144 t145 t146 t147 t148 t149 t150 t151 t152 t153 t154 t155 t156 t157 t158 t159 t160 t161 t162 t163 t164 t165 t166 t167 t168 t169 t170 t171 t172 t173 t174 t175 t176 t177 t178 t179 t180 t181 t182 t183 t184 t185 t186 t187 t188 : Value}
    (hS : Tys w W rb qb tb pb (.slice (some ⟨b2, o2, none⟩) L cap) #[.int .i64 8, .string tx, .int .i64 nu, .slice ka m kc]) (hc : sc ≠ 2) :
    Code.wp Tryz.prog (rtC (rtC (rtC (rtC (Option.getD Tryz.f24.body Code.skip))))) (bodyPost Tryz.prog Tryz.f24 (fun e w' => TyE (some (143, (t : Int))) ((0, 0)) e ∧ Below w.heap.size w w')) { tmps := #[t0, .int .i64 (t : Int), .int .i64 sc, tv, .pointer (some ⟨tb, 0, none⟩), t5, t6, t7, .pointer (some ⟨rb, 0, none⟩), .pointer (some ⟨qb, 0, none⟩), .pointer (some ⟨pb, 0, none⟩), .slice ga n gc, t12, t13, t14, t15, t16, t17, t18, t19, t20, t21, t22, t23, t24, t25, t26, t27, t28, t29, t30, t31, t32, t33, t34, t35, t36, t37, t38, t39, t40, t41, t42, t43, t44, t45, t46, t47, t48, t49, t50, t51, t52, t53, t54, t55, t56, t57, t58, t59, t60, t61, t62, t63, t64, t65, t66, t67, t68, t69, t70, t71, t72, t73, t74, t75, t76, t77, t78, t79, t80, t81, t82, t83, t84, t85, t86, t87, t88, t89, t90, t91, t92, t93, t94, t95, t96, t97, t98, t99, t100, t101, t102, t103, t104, t105, t106, t107, t108, t109, t110, t111, t112, t113, t114, t115, t116, t117, t118, t119, t120, t121, t122, t123, t124, t125, t126, t127, t128, t129, t130, t131, t132, t133, t134, t135, t136, t137, t138, t139, t140, t141, t142, t143, t144, t145, t146, t147, t148, t149, t150, t151, t152, t153, t154, t155, t156, t157, t158, t159, t160, t161, t162, t163, t164, t165, t166, t167, t168, t169, t170, t171, t172, t173, t174, t175, t176, t177, t178, t179, t180, t181, t182, t183, t184, t185, t186, t187, t188], defers := [] } W := by
  have S := hid hS
  have HTY := hid rtyp_any
  have hrq := S.out.C.ne
  have hqr := Ne.symm hrq
  have ⟨⟨⟨r0, r1⟩, ⟨f0, f1⟩⟩, ⟨⟨q0, q1, q2⟩, ⟨h0, h1, h2⟩⟩⟩ := S.out.C.facts
  have ⟨p0, p1, p2, p3⟩ := cells4 S.out.prt
  have x0 := cell_of_one S.out.tree
  clear hS
  have g1 : (sc != 2) = true := by simpa using hc
  clear hc
  simp only [rtC, Option.getD, Tryz.f24]
  go_wp2_with fail
  (try simp only [Exit.inBlock, Exit.then])
  have FI := S.out.C.fin (.int .i64 0) (.int .i64 0) (.int .i64 143) (.int .i64 (t : Int)) (.int .i64 0)
  exact bodyPost_ret (res_tf rfl _ _ rb qb _ _ _ _ _ rfl rfl FI.1 FI.2.1) rfl ⟨⟨_, _, rfl, fun h => by cases h⟩, FI.2.2⟩
set_option maxHeartbeats 8000000 in
set_option maxRecDepth 100000 in
theorem ty_8b (w W : World) (t rb qb tb pb b2 o2 L cap : Nat) (sc : Int) (tv : Value) (tx : ByteArray) (nu : Int) (ka : Option Addr) (m kc : Nat) (ga : Option Addr) (n gc : Nat) {t0 t5 t6 t7 t12 t13 t14 t15 t16 t17 t18 t19 t20 t21 t22 t23 t24 t25 t26 t27 t28 t29 t30 t31 t32 t33 t34 t35 t36 t37 t38 t39 t40 t41 t42 t43 t44 t45 t46 t47 t48 t49 t50 t51 t52 t53 t54 t55 t56 t57 t58 t59 t60 t61 t62 t63 t64 t65 t66 t67 t68 t69 t70 t71 t72 t73 t74 t75 t76 t77 t78 t79 t80 t81 t82 t83 t84 t85 t86 t87 t88 t89 t90 t91 t92 t93 t94 t95 t96 t97 t98 t99 t100 t101 t102 t103 t104 t105 t106 t107 t108 t109 t110 t111 t112 t113 t114 t115 t116 t117 t118 t119 t120 t121 t122 t123 t124 t125 t126 t127 t128 t129 t130 t131 t132 t133 t134 t135 t136 t137 t138 t139 t140 t141 t142 t143 t144 t145 t146 t147 t148 t149 t150 t151 t152 t153 t154 t155 t156 t157 t158 t159 t160 t161 t162 t163 t164 t165 t166 t167 t168 t169 t170 t171 t172 t173 t174 t175 t176 t177 t178 t179 t180 t181 t182 t183 t184 t185 t186 t187 t188 : Value}
    (hS : Tys w W rb qb tb pb (.slice (some ⟨b2, o2, none⟩) L cap) #[.int .i64 8, .string tx, .int .i64 nu, .slice ka m kc]) (hc : sc = 2) (hs : tx.size ≤ maxLen) (gb go : Nat) (hga : ga = some ⟨gb, go, none⟩) (hgb : gb < W.heap.size) (hn : 0 < n) (k0 : W.cell? ⟨gb, go, none⟩ = some (.int .i64 1)) (hky : keyB tx = false) :
    Code.wp Tryz.prog (rtC (rtC (rtC (rtC (Option.getD Tryz.f24.body Code.skip))))) (bodyPost Tryz.prog Tryz.f24 (fun e w' => TyE (some (147, (t : Int))) ((0, 0)) e ∧ Below w.heap.size w w')) { tmps := #[t0, .int .i64 (t : Int), .int .i64 sc, tv, .pointer (some ⟨tb, 0, none⟩), t5, t6, t7, .pointer (some ⟨rb, 0, none⟩), .pointer (some ⟨qb, 0, none⟩), .pointer (some ⟨pb, 0, none⟩), .slice ga n gc, t12, t13, t14, t15, t16, t17, t18, t19, t20, t21, t22, t23, t24, t25, t26, t27, t28, t29, t30, t31, t32, t33, t34, t35, t36, t37, t38, t39, t40, t41, t42, t43, t44, t45, t46, t47, t48, t49, t50, t51, t52, t53, t54, t55, t56, t57, t58, t59, t60, t61, t62, t63, t64, t65, t66, t67, t68, t69, t70, t71, t72, t73, t74, t75, t76, t77, t78, t79, t80, t81, t82, t83, t84, t85, t86, t87, t88, t89, t90, t91, t92, t93, t94, t95, t96, t97, t98, t99, t100, t101, t102, t103, t104, t105, t106, t107, t108, t109, t110, t111, t112, t113, t114, t115, t116, t117, t118, t119, t120, t121, t122, t123, t124, t125, t126, t127, t128, t129, t130, t131, t132, t133, t134, t135, t136, t137, t138, t139, t140, t141, t142, t143, t144, t145, t146, t147, t148, t149, t150, t151, t152, t153, t154, t155, t156, t157, t158, t159, t160, t161, t162, t163, t164, t165, t166, t167, t168, t169, t170, t171, t172, t173, t174, t175, t176, t177, t178, t179, t180, t181, t182, t183, t184, t185, t186, t187, t188], defers := [] } W := by
  have S := hid hS
  have HTY := hid rtyp_any
  have hrq := S.out.C.ne
  have hqr := Ne.symm hrq
  have ⟨⟨⟨r0, r1⟩, ⟨f0, f1⟩⟩, ⟨⟨q0, q1, q2⟩, ⟨h0, h1, h2⟩⟩⟩ := S.out.C.facts
  have ⟨p0, p1, p2, p3⟩ := cells4 S.out.prt
  have x0 := cell_of_one S.out.tree
  clear hS
  have HKEY := hid (fun W => rkey_any tx W hs)
  rw [hky] at HKEY
  clear hky
  subst hc
  subst hga
  have HGB := hid hgb
  have HK0 := hid k0
  clear k0
  have g1 : (0 : Int) < (n : Int) := by omega
  simp only [rtC, Option.getD, Tryz.f24]
  go_wp2_with (go_at_call 34; refine (HKEY.out _).mono ?_; rintro e w2 ⟨rfl, l2⟩; have L2 := hid l2; clear l2; have S2 := hid (S.out.below L2.out); have ⟨p0, p1, p2, p3⟩ := cells4 S2.out.prt; have ⟨⟨⟨r0, r1⟩, ⟨f0, f1⟩⟩, ⟨⟨q0, q1, q2⟩, ⟨h0, h1, h2⟩⟩⟩ := S2.out.C.facts; have k0 := (L2.out.cell (p := ⟨gb, go, none⟩) HGB.out).trans HK0.out)
  (try simp only [Exit.inBlock, Exit.then])
  have FI := S2.out.C.fin (.int .i64 0) (.int .i64 0) (.int .i64 147) (.int .i64 (t : Int)) (.int .i64 0)
  exact bodyPost_ret (res_tf rfl _ _ rb qb _ _ _ _ _ rfl rfl FI.1 FI.2.1) rfl ⟨⟨_, _, rfl, fun h => by cases h⟩, FI.2.2⟩
set_option maxHeartbeats 8000000 in
set_option maxRecDepth 100000 in
theorem ty_8c (w W : World) (t rb qb tb pb b2 o2 L cap : Nat) (sc : Int) (tv : Value) (tx : ByteArray) (nu : Int) (ka : Option Addr) (m kc : Nat) (ga : Option Addr) (n gc : Nat) {t0 t5 t6 t7 t12 t13 t14 t15 t16 t17 t18 t19 t20 t21 t22 t23 t24 t25 t26 t27 t28 t29 t30 t31 t32 t33 t34 t35 t36 t37 t38 t39 t40 t41 t42 t43 t44 t45 t46 t47 t48 t49 t50 t51 t52 t53 t54 t55 t56 t57 t58 t59 t60 t61 t62 t63 t64 t65 t66 t67 t68 t69 t70 t71 t72 t73 t74 t75 t76 t77 t78 t79 t80 t81 t82 t83 t84 t85 t86 t87 t88 t89 t90 t91 t92 t93 t94 t95 t96 t97 t98 t99 t100 t101 t102 t103 t104 t105 t106 t107 t108 t109 t110 t111 t112 t113 t114 t115 t116 t117 t118 t119 t120 t121 t122 t123 t124 t125 t126 t127 t128 t129 t130 t131 t132 t133 t134 t135 t136 t137 t138 t139 t140 t141 t142 t143 t144 t145 t146 t147 t148 t149 t150 t151 t152 t153 t154 t155 t156 t157 t158 t159 t160 t161 t162 t163 t164 t165 t166 t167 t168 t169 t170 t171 t172 t173 t174 t175 t176 t177 t178 t179 t180 t181 t182 t183 t184 t185 t186 t187 t188 : Value}
    (hS : Tys w W rb qb tb pb (.slice (some ⟨b2, o2, none⟩) L cap) #[.int .i64 8, .string tx, .int .i64 nu, .slice ka m kc]) (hc : sc = 2) (hs : tx.size ≤ maxLen) (gb go : Nat) (hga : ga = some ⟨gb, go, none⟩) (hgb : gb < W.heap.size) (hn : 0 < n) (k0 : W.cell? ⟨gb, go, none⟩ = some (.int .i64 1)) (hky : keyB tx = true) :
    Code.wp Tryz.prog (rtC (rtC (rtC (rtC (Option.getD Tryz.f24.body Code.skip))))) (bodyPost Tryz.prog Tryz.f24 (fun e w' => TyE (none) ((1, 2)) e ∧ Below w.heap.size w w')) { tmps := #[t0, .int .i64 (t : Int), .int .i64 sc, tv, .pointer (some ⟨tb, 0, none⟩), t5, t6, t7, .pointer (some ⟨rb, 0, none⟩), .pointer (some ⟨qb, 0, none⟩), .pointer (some ⟨pb, 0, none⟩), .slice ga n gc, t12, t13, t14, t15, t16, t17, t18, t19, t20, t21, t22, t23, t24, t25, t26, t27, t28, t29, t30, t31, t32, t33, t34, t35, t36, t37, t38, t39, t40, t41, t42, t43, t44, t45, t46, t47, t48, t49, t50, t51, t52, t53, t54, t55, t56, t57, t58, t59, t60, t61, t62, t63, t64, t65, t66, t67, t68, t69, t70, t71, t72, t73, t74, t75, t76, t77, t78, t79, t80, t81, t82, t83, t84, t85, t86, t87, t88, t89, t90, t91, t92, t93, t94, t95, t96, t97, t98, t99, t100, t101, t102, t103, t104, t105, t106, t107, t108, t109, t110, t111, t112, t113, t114, t115, t116, t117, t118, t119, t120, t121, t122, t123, t124, t125, t126, t127, t128, t129, t130, t131, t132, t133, t134, t135, t136, t137, t138, t139, t140, t141, t142, t143, t144, t145, t146, t147, t148, t149, t150, t151, t152, t153, t154, t155, t156, t157, t158, t159, t160, t161, t162, t163, t164, t165, t166, t167, t168, t169, t170, t171, t172, t173, t174, t175, t176, t177, t178, t179, t180, t181, t182, t183, t184, t185, t186, t187, t188], defers := [] } W := by
  have S := hid hS
  have HTY := hid rtyp_any
  have hrq := S.out.C.ne
  have hqr := Ne.symm hrq
  have ⟨⟨⟨r0, r1⟩, ⟨f0, f1⟩⟩, ⟨⟨q0, q1, q2⟩, ⟨h0, h1, h2⟩⟩⟩ := S.out.C.facts
  have ⟨p0, p1, p2, p3⟩ := cells4 S.out.prt
  have x0 := cell_of_one S.out.tree
  clear hS
  have HKEY := hid (fun W => rkey_any tx W hs)
  rw [hky] at HKEY
  clear hky
  subst hc
  subst hga
  have HGB := hid hgb
  have HK0 := hid k0
  clear k0
  have g1 : (0 : Int) < (n : Int) := by omega
  simp only [rtC, Option.getD, Tryz.f24]
  go_wp2_with (first | (go_at_call 34; refine (HKEY.out _).mono ?_; rintro e w2 ⟨rfl, l2⟩; have L2 := hid l2; clear l2; have S2 := hid (S.out.below L2.out); have ⟨p0, p1, p2, p3⟩ := cells4 S2.out.prt; have ⟨⟨⟨r0, r1⟩, ⟨f0, f1⟩⟩, ⟨⟨q0, q1, q2⟩, ⟨h0, h1, h2⟩⟩⟩ := S2.out.C.facts; have k0 := (L2.out.cell (p := ⟨gb, go, none⟩) HGB.out).trans HK0.out) | (go_at_call 31; refine (HTY.out _ _ _).mono ?_; rintro e w9 ⟨rfl, l9⟩; have S9 := hid (S2.out.below l9); clear l9; have ⟨⟨⟨r0, r1⟩, ⟨f0, f1⟩⟩, ⟨⟨q0, q1, q2⟩, ⟨h0, h1, h2⟩⟩⟩ := S9.out.C.facts))
  (try simp only [Exit.inBlock, Exit.then])
  have FI := S9.out.C.fin (.int .i64 1) (.int .i64 2) (.int .i64 0) (.int .i64 0) (.int .i64 0)
  exact bodyPost_ret (res_tf rfl _ _ rb qb _ _ _ _ _ rfl rfl FI.1 FI.2.1) rfl ⟨⟨_, _, rfl, fun _ => rfl⟩, FI.2.2⟩
set_option maxHeartbeats 8000000 in
set_option maxRecDepth 100000 in
theorem ty_9a (w W : World) (t rb qb tb pb b2 o2 L cap : Nat) (sc : Int) (tv : Value) (tx : ByteArray) (nu : Int) (ka : Option Addr) (m kc : Nat) (ga : Option Addr) (n gc : Nat) {t0 t5 t6 t7 t12 t13 t14 t15 t16 t17 t18 t19 t20 t21 t22 t23 t24 t25 t26 t27 t28 t29 t30 t31 t32 t33 t34 t35 t36 t37 t38 t39 t40 t41 t42 t43 t44 t45 t46 t47 t48 t49 t50 t51 t52 t53 t54 t55 t56 t57 t58 t59 t60 t61 t62 t63 t64 t65 t66 t67 t68 t69 t70 t71 t72 t73 t74 t75 t76 t77 t78 t79 t80 t81 t82 t83 t84 t85 t86 t87 t88 t89 t90 t91 t92 t93 t94 t95 t96 t97 t98 t99 t100 t101 t102 t103 t104 t105 t106 t107 t108 t109 t110 t111 t112 t113 t114 t115 t116 t117 t118 t119 t120 t121 t122 t123 t124 t125 t126 t127 t128 t129 t130 t131 t132 t133 t134 t135 t136 t137 t138 t139 t140 t141 t142 t143 t144 t145 t146 t147 t148 t149 t150 t151 t152 t153 t154 t155 t156 t157 t158 t159 t160 t161 t162 t163 t164 t165 t166 t167 t168 t169 t170 t171 t172 t173 t174 t175 t176 t177 t178 t179 t180 t181 t182 t183 t184 t185 t186 t187 t188 : Value}
    (hS : Tys w W rb qb tb pb (.slice (some ⟨b2, o2, none⟩) L cap) #[.int .i64 9, .string tx, .int .i64 nu, .slice ka m kc]) (hc : sc ≠ 2) :
    Code.wp Tryz.prog (rtC (rtC (rtC (rtC (Option.getD Tryz.f24.body Code.skip))))) (bodyPost Tryz.prog Tryz.f24 (fun e w' => TyE (some (143, (t : Int))) ((0, 0)) e ∧ Below w.heap.size w w')) { tmps := #[t0, .int .i64 (t : Int), .int .i64 sc, tv, .pointer (some ⟨tb, 0, none⟩), t5, t6, t7, .pointer (some ⟨rb, 0, none⟩), .pointer (some ⟨qb, 0, none⟩), .pointer (some ⟨pb, 0, none⟩), .slice ga n gc, t12, t13, t14, t15, t16, t17, t18, t19, t20, t21, t22, t23, t24, t25, t26, t27, t28, t29, t30, t31, t32, t33, t34, t35, t36, t37, t38, t39, t40, t41, t42, t43, t44, t45, t46, t47, t48, t49, t50, t51, t52, t53, t54, t55, t56, t57, t58, t59, t60, t61, t62, t63, t64, t65, t66, t67, t68, t69, t70, t71, t72, t73, t74, t75, t76, t77, t78, t79, t80, t81, t82, t83, t84, t85, t86, t87, t88, t89, t90, t91, t92, t93, t94, t95, t96, t97, t98, t99, t100, t101, t102, t103, t104, t105, t106, t107, t108, t109, t110, t111, t112, t113, t114, t115, t116, t117, t118, t119, t120, t121, t122, t123, t124, t125, t126, t127, t128, t129, t130, t131, t132, t133, t134, t135, t136, t137, t138, t139, t140, t141, t142, t143, t144, t145, t146, t147, t148, t149, t150, t151, t152, t153, t154, t155, t156, t157, t158, t159, t160, t161, t162, t163, t164, t165, t166, t167, t168, t169, t170, t171, t172, t173, t174, t175, t176, t177, t178, t179, t180, t181, t182, t183, t184, t185, t186, t187, t188], defers := [] } W := by
  have S := hid hS
  have HTY := hid rtyp_any
  have hrq := S.out.C.ne
  have hqr := Ne.symm hrq
  have ⟨⟨⟨r0, r1⟩, ⟨f0, f1⟩⟩, ⟨⟨q0, q1, q2⟩, ⟨h0, h1, h2⟩⟩⟩ := S.out.C.facts
  have ⟨p0, p1, p2, p3⟩ := cells4 S.out.prt
  have x0 := cell_of_one S.out.tree
  clear hS
  have g1 : (sc != 2) = true := by simpa using hc
  clear hc
  simp only [rtC, Option.getD, Tryz.f24]
  go_wp2_with fail
  (try simp only [Exit.inBlock, Exit.then])
  have FI := S.out.C.fin (.int .i64 0) (.int .i64 0) (.int .i64 143) (.int .i64 (t : Int)) (.int .i64 0)
  exact bodyPost_ret (res_tf rfl _ _ rb qb _ _ _ _ _ rfl rfl FI.1 FI.2.1) rfl ⟨⟨_, _, rfl, fun h => by cases h⟩, FI.2.2⟩
set_option maxHeartbeats 8000000 in
set_option maxRecDepth 100000 in
theorem ty_9b (w W : World) (t rb qb tb pb b2 o2 L cap : Nat) (sc : Int) (tv : Value) (tx : ByteArray) (nu : Int) (ka : Option Addr) (m kc : Nat) (ga : Option Addr) (n gc : Nat) {t0 t5 t6 t7 t12 t13 t14 t15 t16 t17 t18 t19 t20 t21 t22 t23 t24 t25 t26 t27 t28 t29 t30 t31 t32 t33 t34 t35 t36 t37 t38 t39 t40 t41 t42 t43 t44 t45 t46 t47 t48 t49 t50 t51 t52 t53 t54 t55 t56 t57 t58 t59 t60 t61 t62 t63 t64 t65 t66 t67 t68 t69 t70 t71 t72 t73 t74 t75 t76 t77 t78 t79 t80 t81 t82 t83 t84 t85 t86 t87 t88 t89 t90 t91 t92 t93 t94 t95 t96 t97 t98 t99 t100 t101 t102 t103 t104 t105 t106 t107 t108 t109 t110 t111 t112 t113 t114 t115 t116 t117 t118 t119 t120 t121 t122 t123 t124 t125 t126 t127 t128 t129 t130 t131 t132 t133 t134 t135 t136 t137 t138 t139 t140 t141 t142 t143 t144 t145 t146 t147 t148 t149 t150 t151 t152 t153 t154 t155 t156 t157 t158 t159 t160 t161 t162 t163 t164 t165 t166 t167 t168 t169 t170 t171 t172 t173 t174 t175 t176 t177 t178 t179 t180 t181 t182 t183 t184 t185 t186 t187 t188 : Value}
    (hS : Tys w W rb qb tb pb (.slice (some ⟨b2, o2, none⟩) L cap) #[.int .i64 9, .string tx, .int .i64 nu, .slice ka m kc]) (hc : sc = 2) (hs : tx.size ≤ maxLen) (gb go : Nat) (hga : ga = some ⟨gb, go, none⟩) (hgb : gb < W.heap.size) (hn : 0 < n) (k0 : W.cell? ⟨gb, go, none⟩ = some (.int .i64 1)) (hky : keyB tx = false) :
    Code.wp Tryz.prog (rtC (rtC (rtC (rtC (Option.getD Tryz.f24.body Code.skip))))) (bodyPost Tryz.prog Tryz.f24 (fun e w' => TyE (some (147, (t : Int))) ((0, 0)) e ∧ Below w.heap.size w w')) { tmps := #[t0, .int .i64 (t : Int), .int .i64 sc, tv, .pointer (some ⟨tb, 0, none⟩), t5, t6, t7, .pointer (some ⟨rb, 0, none⟩), .pointer (some ⟨qb, 0, none⟩), .pointer (some ⟨pb, 0, none⟩), .slice ga n gc, t12, t13, t14, t15, t16, t17, t18, t19, t20, t21, t22, t23, t24, t25, t26, t27, t28, t29, t30, t31, t32, t33, t34, t35, t36, t37, t38, t39, t40, t41, t42, t43, t44, t45, t46, t47, t48, t49, t50, t51, t52, t53, t54, t55, t56, t57, t58, t59, t60, t61, t62, t63, t64, t65, t66, t67, t68, t69, t70, t71, t72, t73, t74, t75, t76, t77, t78, t79, t80, t81, t82, t83, t84, t85, t86, t87, t88, t89, t90, t91, t92, t93, t94, t95, t96, t97, t98, t99, t100, t101, t102, t103, t104, t105, t106, t107, t108, t109, t110, t111, t112, t113, t114, t115, t116, t117, t118, t119, t120, t121, t122, t123, t124, t125, t126, t127, t128, t129, t130, t131, t132, t133, t134, t135, t136, t137, t138, t139, t140, t141, t142, t143, t144, t145, t146, t147, t148, t149, t150, t151, t152, t153, t154, t155, t156, t157, t158, t159, t160, t161, t162, t163, t164, t165, t166, t167, t168, t169, t170, t171, t172, t173, t174, t175, t176, t177, t178, t179, t180, t181, t182, t183, t184, t185, t186, t187, t188], defers := [] } W := by
  have S := hid hS
  have HTY := hid rtyp_any
  have hrq := S.out.C.ne
  have hqr := Ne.symm hrq
  have ⟨⟨⟨r0, r1⟩, ⟨f0, f1⟩⟩, ⟨⟨q0, q1, q2⟩, ⟨h0, h1, h2⟩⟩⟩ := S.out.C.facts
  have ⟨p0, p1, p2, p3⟩ := cells4 S.out.prt
  have x0 := cell_of_one S.out.tree
  clear hS
  have HKEY := hid (fun W => rkey_any tx W hs)
  rw [hky] at HKEY
  clear hky
  subst hc
  subst hga
  have HGB := hid hgb
  have HK0 := hid k0
  clear k0
  have g1 : (0 : Int) < (n : Int) := by omega
  simp only [rtC, Option.getD, Tryz.f24]
  go_wp2_with (go_at_call 34; refine (HKEY.out _).mono ?_; rintro e w2 ⟨rfl, l2⟩; have L2 := hid l2; clear l2; have S2 := hid (S.out.below L2.out); have ⟨p0, p1, p2, p3⟩ := cells4 S2.out.prt; have ⟨⟨⟨r0, r1⟩, ⟨f0, f1⟩⟩, ⟨⟨q0, q1, q2⟩, ⟨h0, h1, h2⟩⟩⟩ := S2.out.C.facts; have k0 := (L2.out.cell (p := ⟨gb, go, none⟩) HGB.out).trans HK0.out)
  (try simp only [Exit.inBlock, Exit.then])
  have FI := S2.out.C.fin (.int .i64 0) (.int .i64 0) (.int .i64 147) (.int .i64 (t : Int)) (.int .i64 0)
  exact bodyPost_ret (res_tf rfl _ _ rb qb _ _ _ _ _ rfl rfl FI.1 FI.2.1) rfl ⟨⟨_, _, rfl, fun h => by cases h⟩, FI.2.2⟩
set_option maxHeartbeats 8000000 in
set_option maxRecDepth 100000 in
theorem ty_9c (w W : World) (t rb qb tb pb b2 o2 L cap : Nat) (sc : Int) (tv : Value) (tx : ByteArray) (nu : Int) (ka : Option Addr) (m kc : Nat) (ga : Option Addr) (n gc : Nat) {t0 t5 t6 t7 t12 t13 t14 t15 t16 t17 t18 t19 t20 t21 t22 t23 t24 t25 t26 t27 t28 t29 t30 t31 t32 t33 t34 t35 t36 t37 t38 t39 t40 t41 t42 t43 t44 t45 t46 t47 t48 t49 t50 t51 t52 t53 t54 t55 t56 t57 t58 t59 t60 t61 t62 t63 t64 t65 t66 t67 t68 t69 t70 t71 t72 t73 t74 t75 t76 t77 t78 t79 t80 t81 t82 t83 t84 t85 t86 t87 t88 t89 t90 t91 t92 t93 t94 t95 t96 t97 t98 t99 t100 t101 t102 t103 t104 t105 t106 t107 t108 t109 t110 t111 t112 t113 t114 t115 t116 t117 t118 t119 t120 t121 t122 t123 t124 t125 t126 t127 t128 t129 t130 t131 t132 t133 t134 t135 t136 t137 t138 t139 t140 t141 t142 t143 t144 t145 t146 t147 t148 t149 t150 t151 t152 t153 t154 t155 t156 t157 t158 t159 t160 t161 t162 t163 t164 t165 t166 t167 t168 t169 t170 t171 t172 t173 t174 t175 t176 t177 t178 t179 t180 t181 t182 t183 t184 t185 t186 t187 t188 : Value}
    (hS : Tys w W rb qb tb pb (.slice (some ⟨b2, o2, none⟩) L cap) #[.int .i64 9, .string tx, .int .i64 nu, .slice ka m kc]) (hc : sc = 2) (hs : tx.size ≤ maxLen) (gb go : Nat) (hga : ga = some ⟨gb, go, none⟩) (hgb : gb < W.heap.size) (hn : 0 < n) (k0 : W.cell? ⟨gb, go, none⟩ = some (.int .i64 1)) (hky : keyB tx = true) :
    Code.wp Tryz.prog (rtC (rtC (rtC (rtC (Option.getD Tryz.f24.body Code.skip))))) (bodyPost Tryz.prog Tryz.f24 (fun e w' => TyE (none) ((1, 2)) e ∧ Below w.heap.size w w')) { tmps := #[t0, .int .i64 (t : Int), .int .i64 sc, tv, .pointer (some ⟨tb, 0, none⟩), t5, t6, t7, .pointer (some ⟨rb, 0, none⟩), .pointer (some ⟨qb, 0, none⟩), .pointer (some ⟨pb, 0, none⟩), .slice ga n gc, t12, t13, t14, t15, t16, t17, t18, t19, t20, t21, t22, t23, t24, t25, t26, t27, t28, t29, t30, t31, t32, t33, t34, t35, t36, t37, t38, t39, t40, t41, t42, t43, t44, t45, t46, t47, t48, t49, t50, t51, t52, t53, t54, t55, t56, t57, t58, t59, t60, t61, t62, t63, t64, t65, t66, t67, t68, t69, t70, t71, t72, t73, t74, t75, t76, t77, t78, t79, t80, t81, t82, t83, t84, t85, t86, t87, t88, t89, t90, t91, t92, t93, t94, t95, t96, t97, t98, t99, t100, t101, t102, t103, t104, t105, t106, t107, t108, t109, t110, t111, t112, t113, t114, t115, t116, t117, t118, t119, t120, t121, t122, t123, t124, t125, t126, t127, t128, t129, t130, t131, t132, t133, t134, t135, t136, t137, t138, t139, t140, t141, t142, t143, t144, t145, t146, t147, t148, t149, t150, t151, t152, t153, t154, t155, t156, t157, t158, t159, t160, t161, t162, t163, t164, t165, t166, t167, t168, t169, t170, t171, t172, t173, t174, t175, t176, t177, t178, t179, t180, t181, t182, t183, t184, t185, t186, t187, t188], defers := [] } W := by
  have S := hid hS
  have HTY := hid rtyp_any
  have hrq := S.out.C.ne
  have hqr := Ne.symm hrq
  have ⟨⟨⟨r0, r1⟩, ⟨f0, f1⟩⟩, ⟨⟨q0, q1, q2⟩, ⟨h0, h1, h2⟩⟩⟩ := S.out.C.facts
  have ⟨p0, p1, p2, p3⟩ := cells4 S.out.prt
  have x0 := cell_of_one S.out.tree
  clear hS
  have HKEY := hid (fun W => rkey_any tx W hs)
  rw [hky] at HKEY
  clear hky
  subst hc
  subst hga
  have HGB := hid hgb
  have HK0 := hid k0
  clear k0
  have g1 : (0 : Int) < (n : Int) := by omega
  simp only [rtC, Option.getD, Tryz.f24]
  go_wp2_with (first | (go_at_call 34; refine (HKEY.out _).mono ?_; rintro e w2 ⟨rfl, l2⟩; have L2 := hid l2; clear l2; have S2 := hid (S.out.below L2.out); have ⟨p0, p1, p2, p3⟩ := cells4 S2.out.prt; have ⟨⟨⟨r0, r1⟩, ⟨f0, f1⟩⟩, ⟨⟨q0, q1, q2⟩, ⟨h0, h1, h2⟩⟩⟩ := S2.out.C.facts; have k0 := (L2.out.cell (p := ⟨gb, go, none⟩) HGB.out).trans HK0.out) | (go_at_call 31; refine (HTY.out _ _ _).mono ?_; rintro e w9 ⟨rfl, l9⟩; have S9 := hid (S2.out.below l9); clear l9; have ⟨⟨⟨r0, r1⟩, ⟨f0, f1⟩⟩, ⟨⟨q0, q1, q2⟩, ⟨h0, h1, h2⟩⟩⟩ := S9.out.C.facts))
  (try simp only [Exit.inBlock, Exit.then])
  have FI := S9.out.C.fin (.int .i64 1) (.int .i64 2) (.int .i64 0) (.int .i64 0) (.int .i64 0)
  exact bodyPost_ret (res_tf rfl _ _ rb qb _ _ _ _ _ rfl rfl FI.1 FI.2.1) rfl ⟨⟨_, _, rfl, fun _ => rfl⟩, FI.2.2⟩
set_option maxHeartbeats 8000000 in
set_option maxRecDepth 100000 in
theorem ty_20a (w W : World) (t rb qb tb pb b2 o2 L cap : Nat) (sc : Int) (tv : Value) (tx : ByteArray) (nu : Int) (ka : Option Addr) (m kc : Nat) (ga : Option Addr) (n gc : Nat) {t0 t5 t6 t7 t12 t13 t14 t15 t16 t17 t18 t19 t20 t21 t22 t23 t24 t25 t26 t27 t28 t29 t30 t31 t32 t33 t34 t35 t36 t37 t38 t39 t40 t41 t42 t43 t44 t45 t46 t47 t48 t49 t50 t51 t52 t53 t54 t55 t56 t57 t58 t59 t60 t61 t62 t63 t64 t65 t66 t67 t68 t69 t70 t71 t72 t73 t74 t75 t76 t77 t78 t79 t80 t81 t82 t83 t84 t85 t86 t87 t88 t89 t90 t91 t92 t93 t94 t95 t96 t97 t98 t99 t100 t101 t102 t103 t104 t105 t106 t107 t108 t109 t110 t111 t112 t113 t114 t115 t116 t117 t118 t119 t120 t121 t122 t123 t124 t125 t126 t127 t128 t129 t130 t131 t132 t133 t134 t135 t136 t137 t138 t139 t140 t141 t142 t143 t144 t145 t146 t147 t148 t149 t150 t151 t152 t153 t154 t155 t156 t157 t158 t159 t160 t161 t162 t163 t164 t165 t166 t167 t168 t169 t170 t171 t172 t173 t174 t175 t176 t177 t178 t179 t180 t181 t182 t183 t184 t185 t186 t187 t188 : Value}
    (hS : Tys w W rb qb tb pb (.slice (some ⟨b2, o2, none⟩) L cap) #[.int .i64 20, .string tx, .int .i64 nu, .slice ka m kc]) (hc : sc ≠ 2) :
    Code.wp Tryz.prog (rtC (rtC (rtC (rtC (Option.getD Tryz.f24.body Code.skip))))) (bodyPost Tryz.prog Tryz.f24 (fun e w' => TyE (some (143, (t : Int))) ((0, 0)) e ∧ Below w.heap.size w w')) { tmps := #[t0, .int .i64 (t : Int), .int .i64 sc, tv, .pointer (some ⟨tb, 0, none⟩), t5, t6, t7, .pointer (some ⟨rb, 0, none⟩), .pointer (some ⟨qb, 0, none⟩), .pointer (some ⟨pb, 0, none⟩), .slice ga n gc, t12, t13, t14, t15, t16, t17, t18, t19, t20, t21, t22, t23, t24, t25, t26, t27, t28, t29, t30, t31, t32, t33, t34, t35, t36, t37, t38, t39, t40, t41, t42, t43, t44, t45, t46, t47, t48, t49, t50, t51, t52, t53, t54, t55, t56, t57, t58, t59, t60, t61, t62, t63, t64, t65, t66, t67, t68, t69, t70, t71, t72, t73, t74, t75, t76, t77, t78, t79, t80, t81, t82, t83, t84, t85, t86, t87, t88, t89, t90, t91, t92, t93, t94, t95, t96, t97, t98, t99, t100, t101, t102, t103, t104, t105, t106, t107, t108, t109, t110, t111, t112, t113, t114, t115, t116, t117, t118, t119, t120, t121, t122, t123, t124, t125, t126, t127, t128, t129, t130, t131, t132, t133, t134, t135, t136, t137, t138, t139, t140, t141, t142, t143, t144, t145, t146, t147, t148, t149, t150, t151, t152, t153, t154, t155, t156, t157, t158, t159, t160, t161, t162, t163, t164, t165, t166, t167, t168, t169, t170, t171, t172, t173, t174, t175, t176, t177, t178, t179, t180, t181, t182, t183, t184, t185, t186, t187, t188], defers := [] } W := by
  have S := hid hS
  have HTY := hid rtyp_any
  have hrq := S.out.C.ne
  have hqr := Ne.symm hrq
  have ⟨⟨⟨r0, r1⟩, ⟨f0, f1⟩⟩, ⟨⟨q0, q1, q2⟩, ⟨h0, h1, h2⟩⟩⟩ := S.out.C.facts
  have ⟨p0, p1, p2, p3⟩ := cells4 S.out.prt
  have x0 := cell_of_one S.out.tree
  clear hS
  have g1 : (sc != 2) = true := by simpa using hc
  clear hc
  simp only [rtC, Option.getD, Tryz.f24]
  go_wp2_with fail
  (try simp only [Exit.inBlock, Exit.then])
  have FI := S.out.C.fin (.int .i64 0) (.int .i64 0) (.int .i64 143) (.int .i64 (t : Int)) (.int .i64 0)
  exact bodyPost_ret (res_tf rfl _ _ rb qb _ _ _ _ _ rfl rfl FI.1 FI.2.1) rfl ⟨⟨_, _, rfl, fun h => by cases h⟩, FI.2.2⟩
set_option maxHeartbeats 8000000 in
set_option maxRecDepth 100000 in
theorem ty_20b (w W : World) (t rb qb tb pb b2 o2 L cap : Nat) (sc : Int) (tv : Value) (tx : ByteArray) (nu : Int) (ka : Option Addr) (m kc : Nat) (ga : Option Addr) (n gc : Nat) {t0 t5 t6 t7 t12 t13 t14 t15 t16 t17 t18 t19 t20 t21 t22 t23 t24 t25 t26 t27 t28 t29 t30 t31 t32 t33 t34 t35 t36 t37 t38 t39 t40 t41 t42 t43 t44 t45 t46 t47 t48 t49 t50 t51 t52 t53 t54 t55 t56 t57 t58 t59 t60 t61 t62 t63 t64 t65 t66 t67 t68 t69 t70 t71 t72 t73 t74 t75 t76 t77 t78 t79 t80 t81 t82 t83 t84 t85 t86 t87 t88 t89 t90 t91 t92 t93 t94 t95 t96 t97 t98 t99 t100 t101 t102 t103 t104 t105 t106 t107 t108 t109 t110 t111 t112 t113 t114 t115 t116 t117 t118 t119 t120 t121 t122 t123 t124 t125 t126 t127 t128 t129 t130 t131 t132 t133 t134 t135 t136 t137 t138 t139 t140 t141 t142 t143 t144 t145 t146 t147 t148 t149 t150 t151 t152 t153 t154 t155 t156 t157 t158 t159 t160 t161 t162 t163 t164 t165 t166 t167 t168 t169 t170 t171 t172 t173 t174 t175 t176 t177 t178 t179 t180 t181 t182 t183 t184 t185 t186 t187 t188 : Value}
    (hS : Tys w W rb qb tb pb (.slice (some ⟨b2, o2, none⟩) L cap) #[.int .i64 20, .string tx, .int .i64 nu, .slice ka m kc]) (hc : sc = 2) (hs : tx.size ≤ maxLen) (gb go : Nat) (hga : ga = some ⟨gb, go, none⟩) (hgb : gb < W.heap.size) (hn : 0 < n) (k0 : W.cell? ⟨gb, go, none⟩ = some (.int .i64 1)) (hky : keyB tx = false) :
    Code.wp Tryz.prog (rtC (rtC (rtC (rtC (Option.getD Tryz.f24.body Code.skip))))) (bodyPost Tryz.prog Tryz.f24 (fun e w' => TyE (some (147, (t : Int))) ((0, 0)) e ∧ Below w.heap.size w w')) { tmps := #[t0, .int .i64 (t : Int), .int .i64 sc, tv, .pointer (some ⟨tb, 0, none⟩), t5, t6, t7, .pointer (some ⟨rb, 0, none⟩), .pointer (some ⟨qb, 0, none⟩), .pointer (some ⟨pb, 0, none⟩), .slice ga n gc, t12, t13, t14, t15, t16, t17, t18, t19, t20, t21, t22, t23, t24, t25, t26, t27, t28, t29, t30, t31, t32, t33, t34, t35, t36, t37, t38, t39, t40, t41, t42, t43, t44, t45, t46, t47, t48, t49, t50, t51, t52, t53, t54, t55, t56, t57, t58, t59, t60, t61, t62, t63, t64, t65, t66, t67, t68, t69, t70, t71, t72, t73, t74, t75, t76, t77, t78, t79, t80, t81, t82, t83, t84, t85, t86, t87, t88, t89, t90, t91, t92, t93, t94, t95, t96, t97, t98, t99, t100, t101, t102, t103, t104, t105, t106, t107, t108, t109, t110, t111, t112, t113, t114, t115, t116, t117, t118, t119, t120, t121, t122, t123, t124, t125, t126, t127, t128, t129, t130, t131, t132, t133, t134, t135, t136, t137, t138, t139, t140, t141, t142, t143, t144, t145, t146, t147, t148, t149, t150, t151, t152, t153, t154, t155, t156, t157, t158, t159, t160, t161, t162, t163, t164, t165, t166, t167, t168, t169, t170, t171, t172, t173, t174, t175, t176, t177, t178, t179, t180, t181, t182, t183, t184, t185, t186, t187, t188], defers := [] } W := by
  have S := hid hS
  have HTY := hid rtyp_any
  have hrq := S.out.C.ne
  have hqr := Ne.symm hrq
  have ⟨⟨⟨r0, r1⟩, ⟨f0, f1⟩⟩, ⟨⟨q0, q1, q2⟩, ⟨h0, h1, h2⟩⟩⟩ := S.out.C.facts
  have ⟨p0, p1, p2, p3⟩ := cells4 S.out.prt
  have x0 := cell_of_one S.out.tree
  clear hS
  have HKEY := hid (fun W => rkey_any tx W hs)
  rw [hky] at HKEY
  clear hky
  subst hc
  subst hga
  have HGB := hid hgb
  have HK0 := hid k0
  clear k0
  have g1 : (0 : Int) < (n : Int) := by omega
  simp only [rtC, Option.getD, Tryz.f24]
  go_wp2_with (go_at_call 34; refine (HKEY.out _).mono ?_; rintro e w2 ⟨rfl, l2⟩; have L2 := hid l2; clear l2; have S2 := hid (S.out.below L2.out); have ⟨p0, p1, p2, p3⟩ := cells4 S2.out.prt; have ⟨⟨⟨r0, r1⟩, ⟨f0, f1⟩⟩, ⟨⟨q0, q1, q2⟩, ⟨h0, h1, h2⟩⟩⟩ := S2.out.C.facts; have k0 := (L2.out.cell (p := ⟨gb, go, none⟩) HGB.out).trans HK0.out)
  (try simp only [Exit.inBlock, Exit.then])
  have FI := S2.out.C.fin (.int .i64 0) (.int .i64 0) (.int .i64 147) (.int .i64 (t : Int)) (.int .i64 0)
  exact bodyPost_ret (res_tf rfl _ _ rb qb _ _ _ _ _ rfl rfl FI.1 FI.2.1) rfl ⟨⟨_, _, rfl, fun h => by cases h⟩, FI.2.2⟩
set_option maxHeartbeats 8000000 in
set_option maxRecDepth 100000 in
theorem ty_20c (w W : World) (t rb qb tb pb b2 o2 L cap : Nat) (sc : Int) (tv : Value) (tx : ByteArray) (nu : Int) (ka : Option Addr) (m kc : Nat) (ga : Option Addr) (n gc : Nat) {t0 t5 t6 t7 t12 t13 t14 t15 t16 t17 t18 t19 t20 t21 t22 t23 t24 t25 t26 t27 t28 t29 t30 t31 t32 t33 t34 t35 t36 t37 t38 t39 t40 t41 t42 t43 t44 t45 t46 t47 t48 t49 t50 t51 t52 t53 t54 t55 t56 t57 t58 t59 t60 t61 t62 t63 t64 t65 t66 t67 t68 t69 t70 t71 t72 t73 t74 t75 t76 t77 t78 t79 t80 t81 t82 t83 t84 t85 t86 t87 t88 t89 t90 t91 t92 t93 t94 t95 t96 t97 t98 t99 t100 t101 t102 t103 t104 t105 t106 t107 t108 t109 t110 t111 t112 t113 t114 t115 t116 t117 t118 t119 t120 t121 t122 t123 t124 t125 t126 t127 t128 t129 t130 t131 t132 t133 t134 t135 t136 t137 t138 t139 t140 t141 t142 t143 t144 t145 t146 t147 t148 t149 t150 t151 t152 t153 t154 t155 t156 t157 t158 t159 t160 t161 t162 t163 t164 t165 t166 t167 t168 t169 t170 t171 t172 t173 t174 t175 t176 t177 t178 t179 t180 t181 t182 t183 t184 t185 t186 t187 t188 : Value}
    (hS : Tys w W rb qb tb pb (.slice (some ⟨b2, o2, none⟩) L cap) #[.int .i64 20, .string tx, .int .i64 nu, .slice ka m kc]) (hc : sc = 2) (hs : tx.size ≤ maxLen) (gb go : Nat) (hga : ga = some ⟨gb, go, none⟩) (hgb : gb < W.heap.size) (hn : 0 < n) (k0 : W.cell? ⟨gb, go, none⟩ = some (.int .i64 1)) (hky : keyB tx = true) :
    Code.wp Tryz.prog (rtC (rtC (rtC (rtC (Option.getD Tryz.f24.body Code.skip))))) (bodyPost Tryz.prog Tryz.f24 (fun e w' => TyE (none) ((3, 2)) e ∧ Below w.heap.size w w')) { tmps := #[t0, .int .i64 (t : Int), .int .i64 sc, tv, .pointer (some ⟨tb, 0, none⟩), t5, t6, t7, .pointer (some ⟨rb, 0, none⟩), .pointer (some ⟨qb, 0, none⟩), .pointer (some ⟨pb, 0, none⟩), .slice ga n gc, t12, t13, t14, t15, t16, t17, t18, t19, t20, t21, t22, t23, t24, t25, t26, t27, t28, t29, t30, t31, t32, t33, t34, t35, t36, t37, t38, t39, t40, t41, t42, t43, t44, t45, t46, t47, t48, t49, t50, t51, t52, t53, t54, t55, t56, t57, t58, t59, t60, t61, t62, t63, t64, t65, t66, t67, t68, t69, t70, t71, t72, t73, t74, t75, t76, t77, t78, t79, t80, t81, t82, t83, t84, t85, t86, t87, t88, t89, t90, t91, t92, t93, t94, t95, t96, t97, t98, t99, t100, t101, t102, t103, t104, t105, t106, t107, t108, t109, t110, t111, t112, t113, t114, t115, t116, t117, t118, t119, t120, t121, t122, t123, t124, t125, t126, t127, t128, t129, t130, t131, t132, t133, t134, t135, t136, t137, t138, t139, t140, t141, t142, t143, t144, t145, t146, t147, t148, t149, t150, t151, t152, t153, t154, t155, t156, t157, t158, t159, t160, t161, t162, t163, t164, t165, t166, t167, t168, t169, t170, t171, t172, t173, t174, t175, t176, t177, t178, t179, t180, t181, t182, t183, t184, t185, t186, t187, t188], defers := [] } W := by
  have S := hid hS
  have HTY := hid rtyp_any
  have hrq := S.out.C.ne
  have hqr := Ne.symm hrq
  have ⟨⟨⟨r0, r1⟩, ⟨f0, f1⟩⟩, ⟨⟨q0, q1, q2⟩, ⟨h0, h1, h2⟩⟩⟩ := S.out.C.facts
  have ⟨p0, p1, p2, p3⟩ := cells4 S.out.prt
  have x0 := cell_of_one S.out.tree
  clear hS
  have HKEY := hid (fun W => rkey_any tx W hs)
  rw [hky] at HKEY
  clear hky
  subst hc
  subst hga
  have HGB := hid hgb
  have HK0 := hid k0
  clear k0
  have g1 : (0 : Int) < (n : Int) := by omega
  simp only [rtC, Option.getD, Tryz.f24]
  go_wp2_with (first | (go_at_call 34; refine (HKEY.out _).mono ?_; rintro e w2 ⟨rfl, l2⟩; have L2 := hid l2; clear l2; have S2 := hid (S.out.below L2.out); have ⟨p0, p1, p2, p3⟩ := cells4 S2.out.prt; have ⟨⟨⟨r0, r1⟩, ⟨f0, f1⟩⟩, ⟨⟨q0, q1, q2⟩, ⟨h0, h1, h2⟩⟩⟩ := S2.out.C.facts; have k0 := (L2.out.cell (p := ⟨gb, go, none⟩) HGB.out).trans HK0.out) | (go_at_call 31; refine (HTY.out _ _ _).mono ?_; rintro e w9 ⟨rfl, l9⟩; have S9 := hid (S2.out.below l9); clear l9; have ⟨⟨⟨r0, r1⟩, ⟨f0, f1⟩⟩, ⟨⟨q0, q1, q2⟩, ⟨h0, h1, h2⟩⟩⟩ := S9.out.C.facts))
  (try simp only [Exit.inBlock, Exit.then])
  have FI := S9.out.C.fin (.int .i64 3) (.int .i64 2) (.int .i64 0) (.int .i64 0) (.int .i64 0)
  exact bodyPost_ret (res_tf rfl _ _ rb qb _ _ _ _ _ rfl rfl FI.1 FI.2.1) rfl ⟨⟨_, _, rfl, fun _ => rfl⟩, FI.2.2⟩
set_option maxHeartbeats 8000000 in
set_option maxRecDepth 100000 in
theorem ty_10a (w W : World) (t rb qb tb pb b2 o2 L cap : Nat) (sc : Int) (tv : Value) (tx : ByteArray) (nu : Int) (ka : Option Addr) (m kc : Nat) (ga : Option Addr) (n gc : Nat) {t0 t5 t6 t7 t12 t13 t14 t15 t16 t17 t18 t19 t20 t21 t22 t23 t24 t25 t26 t27 t28 t29 t30 t31 t32 t33 t34 t35 t36 t37 t38 t39 t40 t41 t42 t43 t44 t45 t46 t47 t48 t49 t50 t51 t52 t53 t54 t55 t56 t57 t58 t59 t60 t61 t62 t63 t64 t65 t66 t67 t68 t69 t70 t71 t72 t73 t74 t75 t76 t77 t78 t79 t80 t81 t82 t83 t84 t85 t86 t87 t88 t89 t90 t91 t92 t93 t94 t95 t96 t97 t98 t99 t100 t101 t102 t103 t104 t105 t106 t107 t108 t109 t110 t111 t112 t113 t114 t115 t116 t117 t118 t119 t120 t121 t122 t123 t124 t125 t126 t127 t128 t129 t130 t131 t132 t133 t134 t135 t136 t137 t138 t139 t140 t141 t142 t143 t144 t145 t146 t147 t148 t149 t150 t151 t152 t153 t154 t155 t156 t157 t158 t159 t160 t161 t162 t163 t164 t165 t166 t167 t168 t169 t170 t171 t172 t173 t174 t175 t176 t177 t178 t179 t180 t181 t182 t183 t184 t185 t186 t187 t188 : Value}
    (hS : Tys w W rb qb tb pb (.slice (some ⟨b2, o2, none⟩) L cap) #[.int .i64 10, .string tx, .int .i64 nu, .slice ka m kc]) (hc : sc ≠ 2) :
    Code.wp Tryz.prog (rtC (rtC (rtC (rtC (Option.getD Tryz.f24.body Code.skip))))) (bodyPost Tryz.prog Tryz.f24 (fun e w' => TyE (some (142, (t : Int))) ((0, 0)) e ∧ Below w.heap.size w w')) { tmps := #[t0, .int .i64 (t : Int), .int .i64 sc, tv, .pointer (some ⟨tb, 0, none⟩), t5, t6, t7, .pointer (some ⟨rb, 0, none⟩), .pointer (some ⟨qb, 0, none⟩), .pointer (some ⟨pb, 0, none⟩), .slice ga n gc, t12, t13, t14, t15, t16, t17, t18, t19, t20, t21, t22, t23, t24, t25, t26, t27, t28, t29, t30, t31, t32, t33, t34, t35, t36, t37, t38, t39, t40, t41, t42, t43, t44, t45, t46, t47, t48, t49, t50, t51, t52, t53, t54, t55, t56, t57, t58, t59, t60, t61, t62, t63, t64, t65, t66, t67, t68, t69, t70, t71, t72, t73, t74, t75, t76, t77, t78, t79, t80, t81, t82, t83, t84, t85, t86, t87, t88, t89, t90, t91, t92, t93, t94, t95, t96, t97, t98, t99, t100, t101, t102, t103, t104, t105, t106, t107, t108, t109, t110, t111, t112, t113, t114, t115, t116, t117, t118, t119, t120, t121, t122, t123, t124, t125, t126, t127, t128, t129, t130, t131, t132, t133, t134, t135, t136, t137, t138, t139, t140, t141, t142, t143, t144, t145, t146, t147, t148, t149, t150, t151, t152, t153, t154, t155, t156, t157, t158, t159, t160, t161, t162, t163, t164, t165, t166, t167, t168, t169, t170, t171, t172, t173, t174, t175, t176, t177, t178, t179, t180, t181, t182, t183, t184, t185, t186, t187, t188], defers := [] } W := by
  have S := hid hS
  have HTY := hid rtyp_any
  have hrq := S.out.C.ne
  have hqr := Ne.symm hrq
  have ⟨⟨⟨r0, r1⟩, ⟨f0, f1⟩⟩, ⟨⟨q0, q1, q2⟩, ⟨h0, h1, h2⟩⟩⟩ := S.out.C.facts
  have ⟨p0, p1, p2, p3⟩ := cells4 S.out.prt
  have x0 := cell_of_one S.out.tree
  clear hS
  have g1 : (sc != 2) = true := by simpa using hc
  clear hc
  simp only [rtC, Option.getD, Tryz.f24]
  go_wp2_with fail
  (try simp only [Exit.inBlock, Exit.then])
  have FI := S.out.C.fin (.int .i64 0) (.int .i64 0) (.int .i64 142) (.int .i64 (t : Int)) (.int .i64 0)
  exact bodyPost_ret (res_tf rfl _ _ rb qb _ _ _ _ _ rfl rfl FI.1 FI.2.1) rfl ⟨⟨_, _, rfl, fun h => by cases h⟩, FI.2.2⟩
set_option maxHeartbeats 8000000 in
set_option maxRecDepth 100000 in
theorem ty_10b (w W : World) (t rb qb tb pb b2 o2 L cap : Nat) (sc : Int) (tv : Value) (tx : ByteArray) (nu : Int) (ka : Option Addr) (m kc : Nat) (ga : Option Addr) (n gc : Nat) {t0 t5 t6 t7 t12 t13 t14 t15 t16 t17 t18 t19 t20 t21 t22 t23 t24 t25 t26 t27 t28 t29 t30 t31 t32 t33 t34 t35 t36 t37 t38 t39 t40 t41 t42 t43 t44 t45 t46 t47 t48 t49 t50 t51 t52 t53 t54 t55 t56 t57 t58 t59 t60 t61 t62 t63 t64 t65 t66 t67 t68 t69 t70 t71 t72 t73 t74 t75 t76 t77 t78 t79 t80 t81 t82 t83 t84 t85 t86 t87 t88 t89 t90 t91 t92 t93 t94 t95 t96 t97 t98 t99 t100 t101 t102 t103 t104 t105 t106 t107 t108 t109 t110 t111 t112 t113 t114 t115 t116 t117 t118 t119 t120 t121 t122 t123 t124 t125 t126 t127 t128 t129 t130 t131 t132 t133 t134 t135 t136 t137 t138 t139 t140 t141 t142 t143 t144 t145 t146 t147 t148 t149 t150 t151 t152 t153 t154 t155 t156 t157 t158 t159 t160 t161 t162 t163 t164 t165 t166 t167 t168 t169 t170 t171 t172 t173 t174 t175 t176 t177 t178 t179 t180 t181 t182 t183 t184 t185 t186 t187 t188 : Value}
    (hS : Tys w W rb qb tb pb (.slice (some ⟨b2, o2, none⟩) L cap) #[.int .i64 10, .string tx, .int .i64 nu, .slice ka m kc]) (hc : sc = 2) (hky : effB tx = false) :
    Code.wp Tryz.prog (rtC (rtC (rtC (rtC (Option.getD Tryz.f24.body Code.skip))))) (bodyPost Tryz.prog Tryz.f24 (fun e w' => TyE (some (147, (t : Int))) ((0, 0)) e ∧ Below w.heap.size w w')) { tmps := #[t0, .int .i64 (t : Int), .int .i64 sc, tv, .pointer (some ⟨tb, 0, none⟩), t5, t6, t7, .pointer (some ⟨rb, 0, none⟩), .pointer (some ⟨qb, 0, none⟩), .pointer (some ⟨pb, 0, none⟩), .slice ga n gc, t12, t13, t14, t15, t16, t17, t18, t19, t20, t21, t22, t23, t24, t25, t26, t27, t28, t29, t30, t31, t32, t33, t34, t35, t36, t37, t38, t39, t40, t41, t42, t43, t44, t45, t46, t47, t48, t49, t50, t51, t52, t53, t54, t55, t56, t57, t58, t59, t60, t61, t62, t63, t64, t65, t66, t67, t68, t69, t70, t71, t72, t73, t74, t75, t76, t77, t78, t79, t80, t81, t82, t83, t84, t85, t86, t87, t88, t89, t90, t91, t92, t93, t94, t95, t96, t97, t98, t99, t100, t101, t102, t103, t104, t105, t106, t107, t108, t109, t110, t111, t112, t113, t114, t115, t116, t117, t118, t119, t120, t121, t122, t123, t124, t125, t126, t127, t128, t129, t130, t131, t132, t133, t134, t135, t136, t137, t138, t139, t140, t141, t142, t143, t144, t145, t146, t147, t148, t149, t150, t151, t152, t153, t154, t155, t156, t157, t158, t159, t160, t161, t162, t163, t164, t165, t166, t167, t168, t169, t170, t171, t172, t173, t174, t175, t176, t177, t178, t179, t180, t181, t182, t183, t184, t185, t186, t187, t188], defers := [] } W := by
  have S := hid hS
  have HTY := hid rtyp_any
  have hrq := S.out.C.ne
  have hqr := Ne.symm hrq
  have ⟨⟨⟨r0, r1⟩, ⟨f0, f1⟩⟩, ⟨⟨q0, q1, q2⟩, ⟨h0, h1, h2⟩⟩⟩ := S.out.C.facts
  have ⟨p0, p1, p2, p3⟩ := cells4 S.out.prt
  have x0 := cell_of_one S.out.tree
  clear hS
  have HKEY := hid (fun W => qeffect_any tx W)
  rw [hky] at HKEY
  clear hky
  subst hc
  simp only [rtC, Option.getD, Tryz.f24]
  go_wp2_with (go_at_call 35; refine (HKEY.out _).mono ?_; rintro e w2 ⟨rfl, hww⟩; have hw2 := hww.symm; clear hww; subst hw2)
  (try simp only [Exit.inBlock, Exit.then])
  have FI := S.out.C.fin (.int .i64 0) (.int .i64 0) (.int .i64 147) (.int .i64 (t : Int)) (.int .i64 0)
  exact bodyPost_ret (res_tf rfl _ _ rb qb _ _ _ _ _ rfl rfl FI.1 FI.2.1) rfl ⟨⟨_, _, rfl, fun h => by cases h⟩, FI.2.2⟩
set_option maxHeartbeats 8000000 in
set_option maxRecDepth 100000 in
theorem ty_10c (w W : World) (t rb qb tb pb b2 o2 L cap : Nat) (sc : Int) (tv : Value) (tx : ByteArray) (nu : Int) (ka : Option Addr) (m kc : Nat) (ga : Option Addr) (n gc : Nat) {t0 t5 t6 t7 t12 t13 t14 t15 t16 t17 t18 t19 t20 t21 t22 t23 t24 t25 t26 t27 t28 t29 t30 t31 t32 t33 t34 t35 t36 t37 t38 t39 t40 t41 t42 t43 t44 t45 t46 t47 t48 t49 t50 t51 t52 t53 t54 t55 t56 t57 t58 t59 t60 t61 t62 t63 t64 t65 t66 t67 t68 t69 t70 t71 t72 t73 t74 t75 t76 t77 t78 t79 t80 t81 t82 t83 t84 t85 t86 t87 t88 t89 t90 t91 t92 t93 t94 t95 t96 t97 t98 t99 t100 t101 t102 t103 t104 t105 t106 t107 t108 t109 t110 t111 t112 t113 t114 t115 t116 t117 t118 t119 t120 t121 t122 t123 t124 t125 t126 t127 t128 t129 t130 t131 t132 t133 t134 t135 t136 t137 t138 t139 t140 t141 t142 t143 t144 t145 t146 t147 t148 t149 t150 t151 t152 t153 t154 t155 t156 t157 t158 t159 t160 t161 t162 t163 t164 t165 t166 t167 t168 t169 t170 t171 t172 t173 t174 t175 t176 t177 t178 t179 t180 t181 t182 t183 t184 t185 t186 t187 t188 : Value}
    (hS : Tys w W rb qb tb pb (.slice (some ⟨b2, o2, none⟩) L cap) #[.int .i64 10, .string tx, .int .i64 nu, .slice ka m kc]) (hc : sc = 2) (hky : effB tx = true) :
    Code.wp Tryz.prog (rtC (rtC (rtC (rtC (Option.getD Tryz.f24.body Code.skip))))) (bodyPost Tryz.prog Tryz.f24 (fun e w' => TyE (none) ((1, 2)) e ∧ Below w.heap.size w w')) { tmps := #[t0, .int .i64 (t : Int), .int .i64 sc, tv, .pointer (some ⟨tb, 0, none⟩), t5, t6, t7, .pointer (some ⟨rb, 0, none⟩), .pointer (some ⟨qb, 0, none⟩), .pointer (some ⟨pb, 0, none⟩), .slice ga n gc, t12, t13, t14, t15, t16, t17, t18, t19, t20, t21, t22, t23, t24, t25, t26, t27, t28, t29, t30, t31, t32, t33, t34, t35, t36, t37, t38, t39, t40, t41, t42, t43, t44, t45, t46, t47, t48, t49, t50, t51, t52, t53, t54, t55, t56, t57, t58, t59, t60, t61, t62, t63, t64, t65, t66, t67, t68, t69, t70, t71, t72, t73, t74, t75, t76, t77, t78, t79, t80, t81, t82, t83, t84, t85, t86, t87, t88, t89, t90, t91, t92, t93, t94, t95, t96, t97, t98, t99, t100, t101, t102, t103, t104, t105, t106, t107, t108, t109, t110, t111, t112, t113, t114, t115, t116, t117, t118, t119, t120, t121, t122, t123, t124, t125, t126, t127, t128, t129, t130, t131, t132, t133, t134, t135, t136, t137, t138, t139, t140, t141, t142, t143, t144, t145, t146, t147, t148, t149, t150, t151, t152, t153, t154, t155, t156, t157, t158, t159, t160, t161, t162, t163, t164, t165, t166, t167, t168, t169, t170, t171, t172, t173, t174, t175, t176, t177, t178, t179, t180, t181, t182, t183, t184, t185, t186, t187, t188], defers := [] } W := by
  have S := hid hS
  have HTY := hid rtyp_any
  have hrq := S.out.C.ne
  have hqr := Ne.symm hrq
  have ⟨⟨⟨r0, r1⟩, ⟨f0, f1⟩⟩, ⟨⟨q0, q1, q2⟩, ⟨h0, h1, h2⟩⟩⟩ := S.out.C.facts
  have ⟨p0, p1, p2, p3⟩ := cells4 S.out.prt
  have x0 := cell_of_one S.out.tree
  clear hS
  have HKEY := hid (fun W => qeffect_any tx W)
  rw [hky] at HKEY
  clear hky
  subst hc
  simp only [rtC, Option.getD, Tryz.f24]
  go_wp2_with (first | (go_at_call 35; refine (HKEY.out _).mono ?_; rintro e w2 ⟨rfl, hww⟩; have hw2 := hww.symm; clear hww; subst hw2) | (go_at_call 31; refine (HTY.out _ _ _).mono ?_; rintro e w9 ⟨rfl, l9⟩; have S9 := hid (S.out.below l9); clear l9; have ⟨⟨⟨r0, r1⟩, ⟨f0, f1⟩⟩, ⟨⟨q0, q1, q2⟩, ⟨h0, h1, h2⟩⟩⟩ := S9.out.C.facts))
  (try simp only [Exit.inBlock, Exit.then])
  have FI := S9.out.C.fin (.int .i64 1) (.int .i64 2) (.int .i64 0) (.int .i64 0) (.int .i64 0)
  exact bodyPost_ret (res_tf rfl _ _ rb qb _ _ _ _ _ rfl rfl FI.1 FI.2.1) rfl ⟨⟨_, _, rfl, fun _ => rfl⟩, FI.2.2⟩
end Go.Proofs.YtiddnjjaidiohaaGreatDoor.L
