import Derived.Test.YtiddnjjaidiohaaGreatDoorMgAQ
namespace Go.Proofs.YtiddnjjaidiohaaGreatDoor.L
open Go.RowKit
set_option linter.unusedVariables false
set_option maxHeartbeats 8000000 in
set_option maxRecDepth 100000 in
theorem ty_6 (w W : World) (t rb qb tb pb b2 o2 L cap : Nat) (sc : Int) (tv : Value) (tx : ByteArray) (nu : Int) (ka : Option Addr) (m kc : Nat) (ga : Option Addr) (n gc : Nat) {t0 t5 t6 t7 t12 t13 t14 t15 t16 t17 t18 t19 t20 t21 t22 t23 t24 t25 t26 t27 t28 t29 t30 t31 t32 t33 t34 t35 t36 t37 t38 t39 t40 t41 t42 t43 t44 t45 t46 t47 t48 t49 t50 t51 t52 t53 t54 t55 t56 t57 t58 t59 t60 t61 t62 t63 t64 t65 t66 t67 t68 t69 t70 t71 t72 t73 t74 t75 t76 t77 t78 t79 t80 t81 t82 t83 t84 t85 t86 t87 t88 t89 t90 t91 t92 t93 t94 t95 t96 t97 t98 t99 t100 t101 t102 t103 t104 t105 t106 t107 t108 t109 t110 t111 t112 t113 t114 t115 t116 t117 t118 t119 t120 t121 t122 t123 t124 t125 t126 t127 t128 t129 t130 t131 t132 t133 t134 t135 t136 t137 t138 t139 t140 t141 t142 t143 t144 t145 t146 t147 t148 t149 t150 t151 t152 t153 t154 t155 t156 t157 t158 t159 t160 t161 t162 t163 t164 t165 t166 t167 t168 t169 t170 t171 t172 t173 t174 t175 t176 t177 t178 t179 t180 t181 t182 t183 t184 t185 t186 t187 t188 : Value}
    (hS : Tys w W rb qb tb pb (.slice (some ⟨b2, o2, none⟩) L cap) #[.int .i64 6, .string tx, .int .i64 nu, .slice ka m kc]) (kl : List (Int × Int)) (hkl : TyV W (.slice ga n gc) kl) (hn : n = kl.length) (hl : n ≤ 1000) (o : Option (Nat × Int)) (hcm : ∀ W', Below W.heap.size W W' → Calls Tryz.prog 33 #[.agg #[.slice (some ⟨b2, o2, none⟩) L cap], .int .i64 (t : Int), tv] W' fun e w' => e = .returned (fa o) ∧ Below W'.heap.size W' w') :
    Code.wp Tryz.prog (rtC (rtC (rtC (rtC (Option.getD Tryz.f24.body Code.skip))))) (bodyPost Tryz.prog Tryz.f24 (fun e w' => TyE (o) ((1, jnL kl 0)) e ∧ Below w.heap.size w w')) { tmps := #[t0, .int .i64 (t : Int), .int .i64 sc, tv, .pointer (some ⟨tb, 0, none⟩), t5, t6, t7, .pointer (some ⟨rb, 0, none⟩), .pointer (some ⟨qb, 0, none⟩), .pointer (some ⟨pb, 0, none⟩), .slice ga n gc, t12, t13, t14, t15, t16, t17, t18, t19, t20, t21, t22, t23, t24, t25, t26, t27, t28, t29, t30, t31, t32, t33, t34, t35, t36, t37, t38, t39, t40, t41, t42, t43, t44, t45, t46, t47, t48, t49, t50, t51, t52, t53, t54, t55, t56, t57, t58, t59, t60, t61, t62, t63, t64, t65, t66, t67, t68, t69, t70, t71, t72, t73, t74, t75, t76, t77, t78, t79, t80, t81, t82, t83, t84, t85, t86, t87, t88, t89, t90, t91, t92, t93, t94, t95, t96, t97, t98, t99, t100, t101, t102, t103, t104, t105, t106, t107, t108, t109, t110, t111, t112, t113, t114, t115, t116, t117, t118, t119, t120, t121, t122, t123, t124, t125, t126, t127, t128, t129, t130, t131, t132, t133, t134, t135, t136, t137, t138, t139, t140, t141, t142, t143, t144, t145, t146, t147, t148, t149, t150, t151, t152, t153, t154, t155, t156, t157, t158, t159, t160, t161, t162, t163, t164, t165, t166, t167, t168, t169, t170, t171, t172, t173, t174, t175, t176, t177, t178, t179, t180, t181, t182, t183, t184, t185, t186, t187, t188], defers := [] } W := by
  have S := hid hS
  have HTY := hid rtyp_any
  have hrq := S.out.C.ne
  have hqr := Ne.symm hrq
  have ⟨⟨⟨r0, r1⟩, ⟨f0, f1⟩⟩, ⟨⟨q0, q1, q2⟩, ⟨h0, h1, h2⟩⟩⟩ := S.out.C.facts
  have ⟨p0, p1, p2, p3⟩ := cells4 S.out.prt
  have x0 := cell_of_one S.out.tree
  clear hS
  have HJN := hid (fun W' (hb : Below W.heap.size W W') => rjoined_any (.slice ga n gc) kl W' (hkl.low hb) (by rw [← hn]; exact hl))
  have HCM := hid hcm
  have htr := S.out.tr
  have htq := S.out.tq
  clear hkl hn hcm
  simp only [rtC, Option.getD, Tryz.f24]
  go_upto_region 22 with (fail)
  clear p0 p1 p2 p3
  go_region_held3 (fun Y => Y.cell? ⟨tb, 0, none⟩ = some (.slice (some ⟨b2, o2, none⟩) L cap)) (first | with_reducible exact x0 | with_reducible exact y1 | with_reducible exact y2 | with_reducible exact y3 | (with_reducible exact (cell_othS htq).trans ((cell_othS htq).trans ((cell_othS htq).trans ((cell_othS htr).trans ((cell_othS htr).trans y3))))) | (with_reducible exact (cell_othS htr).trans ((cell_othS htr).trans y3)) | go_keep)
    (first
      | (go_at_call 32; refine (HJN.out _ (by first | exact Below.refl _ _ | exact (Below.refl _ _).drew)).mono ?_; rintro e w1 ⟨rfl, l1⟩; have L1 := hid (show Below W.heap.size W w1 from by first | exact l1 | exact undrewS l1); clear l1; have S1 := hid (S.out.below L1.out); have y1 := cell_of_one S1.out.tree)
      | (go_at_call 31; refine (HTY.out _ _ _).mono ?_; rintro e w2 ⟨rfl, l2⟩; have L2 := hid (show Below W.heap.size W w2 from by first | exact bchS L1.out l2 | exact bchS L1.out (undrewS l2)); clear l2; have S2 := hid (S.out.below L2.out); have y2 := cell_of_one S2.out.tree)
      | (go_at_call 33; refine (HCM.out _ (by first | exact L2.out | exact L2.out.drew)).mono ?_; rintro e w3 ⟨rfl, l3⟩; have L3 := hid (show Below W.heap.size W w3 from by first | exact bchS L2.out l3 | exact bchS L2.out (undrewS l3)); clear l3; have S3 := hid (S.out.below L3.out); have y3 := cell_of_one S3.out.tree; unfold fa; have ⟨⟨⟨r0, r1⟩, ⟨f0, f1⟩⟩, ⟨⟨q0, q1, q2⟩, ⟨h0, h1, h2⟩⟩⟩ := S3.out.C.facts))
  clear y1 y2 y3 x0
  go_wp2_with fail
  (try simp only [Exit.inBlock, Exit.then])
  have FI := S3.out.C.fin (.int .i64 1) (.int .i64 (jnL kl 0)) (.int .i64 (fO o).1) (.int .i64 (fO o).2) (.int .i64 0)
  exact bodyPost_ret (res_tf rfl _ _ rb qb _ _ _ _ _ rfl rfl FI.1 FI.2.1) rfl ⟨⟨_, _, rfl, fun _ => rfl⟩, FI.2.2⟩
set_option maxHeartbeats 8000000 in
set_option maxRecDepth 100000 in
theorem ty_7 (w W : World) (t rb qb tb pb b2 o2 L cap : Nat) (sc : Int) (tv : Value) (tx : ByteArray) (nu : Int) (ka : Option Addr) (m kc : Nat) (ga : Option Addr) (n gc : Nat) {t0 t5 t6 t7 t12 t13 t14 t15 t16 t17 t18 t19 t20 t21 t22 t23 t24 t25 t26 t27 t28 t29 t30 t31 t32 t33 t34 t35 t36 t37 t38 t39 t40 t41 t42 t43 t44 t45 t46 t47 t48 t49 t50 t51 t52 t53 t54 t55 t56 t57 t58 t59 t60 t61 t62 t63 t64 t65 t66 t67 t68 t69 t70 t71 t72 t73 t74 t75 t76 t77 t78 t79 t80 t81 t82 t83 t84 t85 t86 t87 t88 t89 t90 t91 t92 t93 t94 t95 t96 t97 t98 t99 t100 t101 t102 t103 t104 t105 t106 t107 t108 t109 t110 t111 t112 t113 t114 t115 t116 t117 t118 t119 t120 t121 t122 t123 t124 t125 t126 t127 t128 t129 t130 t131 t132 t133 t134 t135 t136 t137 t138 t139 t140 t141 t142 t143 t144 t145 t146 t147 t148 t149 t150 t151 t152 t153 t154 t155 t156 t157 t158 t159 t160 t161 t162 t163 t164 t165 t166 t167 t168 t169 t170 t171 t172 t173 t174 t175 t176 t177 t178 t179 t180 t181 t182 t183 t184 t185 t186 t187 t188 : Value}
    (hS : Tys w W rb qb tb pb (.slice (some ⟨b2, o2, none⟩) L cap) #[.int .i64 7, .string tx, .int .i64 nu, .slice ka m kc]) (kl : List (Int × Int)) (hkl : TyV W (.slice ga n gc) kl) (hn : n = kl.length) (hl : n ≤ 1000) (o : Option (Nat × Int)) (hcm : ∀ W', Below W.heap.size W W' → Calls Tryz.prog 33 #[.agg #[.slice (some ⟨b2, o2, none⟩) L cap], .int .i64 (t : Int), tv] W' fun e w' => e = .returned (fa o) ∧ Below W'.heap.size W' w') :
    Code.wp Tryz.prog (rtC (rtC (rtC (rtC (Option.getD Tryz.f24.body Code.skip))))) (bodyPost Tryz.prog Tryz.f24 (fun e w' => TyE (o) ((1, jnL kl 0)) e ∧ Below w.heap.size w w')) { tmps := #[t0, .int .i64 (t : Int), .int .i64 sc, tv, .pointer (some ⟨tb, 0, none⟩), t5, t6, t7, .pointer (some ⟨rb, 0, none⟩), .pointer (some ⟨qb, 0, none⟩), .pointer (some ⟨pb, 0, none⟩), .slice ga n gc, t12, t13, t14, t15, t16, t17, t18, t19, t20, t21, t22, t23, t24, t25, t26, t27, t28, t29, t30, t31, t32, t33, t34, t35, t36, t37, t38, t39, t40, t41, t42, t43, t44, t45, t46, t47, t48, t49, t50, t51, t52, t53, t54, t55, t56, t57, t58, t59, t60, t61, t62, t63, t64, t65, t66, t67, t68, t69, t70, t71, t72, t73, t74, t75, t76, t77, t78, t79, t80, t81, t82, t83, t84, t85, t86, t87, t88, t89, t90, t91, t92, t93, t94, t95, t96, t97, t98, t99, t100, t101, t102, t103, t104, t105, t106, t107, t108, t109, t110, t111, t112, t113, t114, t115, t116, t117, t118, t119, t120, t121, t122, t123, t124, t125, t126, t127, t128, t129, t130, t131, t132, t133, t134, t135, t136, t137, t138, t139, t140, t141, t142, t143, t144, t145, t146, t147, t148, t149, t150, t151, t152, t153, t154, t155, t156, t157, t158, t159, t160, t161, t162, t163, t164, t165, t166, t167, t168, t169, t170, t171, t172, t173, t174, t175, t176, t177, t178, t179, t180, t181, t182, t183, t184, t185, t186, t187, t188], defers := [] } W := by
  have S := hid hS
  have HTY := hid rtyp_any
  have hrq := S.out.C.ne
  have hqr := Ne.symm hrq
  have ⟨⟨⟨r0, r1⟩, ⟨f0, f1⟩⟩, ⟨⟨q0, q1, q2⟩, ⟨h0, h1, h2⟩⟩⟩ := S.out.C.facts
  have ⟨p0, p1, p2, p3⟩ := cells4 S.out.prt
  have x0 := cell_of_one S.out.tree
  clear hS
  have HJN := hid (fun W' (hb : Below W.heap.size W W') => rjoined_any (.slice ga n gc) kl W' (hkl.low hb) (by rw [← hn]; exact hl))
  have HCM := hid hcm
  have htr := S.out.tr
  have htq := S.out.tq
  clear hkl hn hcm
  simp only [rtC, Option.getD, Tryz.f24]
  go_upto_region 22 with (fail)
  clear p0 p1 p2 p3
  go_region_held3 (fun Y => Y.cell? ⟨tb, 0, none⟩ = some (.slice (some ⟨b2, o2, none⟩) L cap)) (first | with_reducible exact x0 | with_reducible exact y1 | with_reducible exact y2 | with_reducible exact y3 | (with_reducible exact (cell_othS htq).trans ((cell_othS htq).trans ((cell_othS htq).trans ((cell_othS htr).trans ((cell_othS htr).trans y3))))) | (with_reducible exact (cell_othS htr).trans ((cell_othS htr).trans y3)) | go_keep)
    (first
      | (go_at_call 32; refine (HJN.out _ (by first | exact Below.refl _ _ | exact (Below.refl _ _).drew)).mono ?_; rintro e w1 ⟨rfl, l1⟩; have L1 := hid (show Below W.heap.size W w1 from by first | exact l1 | exact undrewS l1); clear l1; have S1 := hid (S.out.below L1.out); have y1 := cell_of_one S1.out.tree)
      | (go_at_call 31; refine (HTY.out _ _ _).mono ?_; rintro e w2 ⟨rfl, l2⟩; have L2 := hid (show Below W.heap.size W w2 from by first | exact bchS L1.out l2 | exact bchS L1.out (undrewS l2)); clear l2; have S2 := hid (S.out.below L2.out); have y2 := cell_of_one S2.out.tree)
      | (go_at_call 33; refine (HCM.out _ (by first | exact L2.out | exact L2.out.drew)).mono ?_; rintro e w3 ⟨rfl, l3⟩; have L3 := hid (show Below W.heap.size W w3 from by first | exact bchS L2.out l3 | exact bchS L2.out (undrewS l3)); clear l3; have S3 := hid (S.out.below L3.out); have y3 := cell_of_one S3.out.tree; unfold fa; have ⟨⟨⟨r0, r1⟩, ⟨f0, f1⟩⟩, ⟨⟨q0, q1, q2⟩, ⟨h0, h1, h2⟩⟩⟩ := S3.out.C.facts))
  clear y1 y2 y3 x0
  go_wp2_with fail
  (try simp only [Exit.inBlock, Exit.then])
  have FI := S3.out.C.fin (.int .i64 1) (.int .i64 (jnL kl 0)) (.int .i64 (fO o).1) (.int .i64 (fO o).2) (.int .i64 0)
  exact bodyPost_ret (res_tf rfl _ _ rb qb _ _ _ _ _ rfl rfl FI.1 FI.2.1) rfl ⟨⟨_, _, rfl, fun _ => rfl⟩, FI.2.2⟩
end Go.Proofs.YtiddnjjaidiohaaGreatDoor.L
namespace Go.Proofs.YtiddnjjaidiohaaGreatDoor.L
open Go.RowKit
set_option linter.unusedVariables false
set_option maxHeartbeats 8000000 in
set_option maxRecDepth 100000 in
theorem ty_13 (w W : World) (t rb qb tb pb b2 o2 L cap : Nat) (sc : Int) (tv : Value) (tx : ByteArray) (nu : Int) (ka : Option Addr) (m kc : Nat) (ga : Option Addr) (n gc : Nat) {t0 t5 t6 t7 t12 t13 t14 t15 t16 t17 t18 t19 t20 t21 t22 t23 t24 t25 t26 t27 t28 t29 t30 t31 t32 t33 t34 t35 t36 t37 t38 t39 t40 t41 t42 t43 t44 t45 t46 t47 t48 t49 t50 t51 t52 t53 t54 t55 t56 t57 t58 t59 t60 t61 t62 t63 t64 t65 t66 t67 t68 t69 t70 t71 t72 t73 t74 t75 t76 t77 t78 t79 t80 t81 t82 t83 t84 t85 t86 t87 t88 t89 t90 t91 t92 t93 t94 t95 t96 t97 t98 t99 t100 t101 t102 t103 t104 t105 t106 t107 t108 t109 t110 t111 t112 t113 t114 t115 t116 t117 t118 t119 t120 t121 t122 t123 t124 t125 t126 t127 t128 t129 t130 t131 t132 t133 t134 t135 t136 t137 t138 t139 t140 t141 t142 t143 t144 t145 t146 t147 t148 t149 t150 t151 t152 t153 t154 t155 t156 t157 t158 t159 t160 t161 t162 t163 t164 t165 t166 t167 t168 t169 t170 t171 t172 t173 t174 t175 t176 t177 t178 t179 t180 t181 t182 t183 t184 t185 t186 t187 t188 : Value}
    (hS : Tys w W rb qb tb pb (.slice (some ⟨b2, o2, none⟩) L cap) #[.int .i64 13, .string tx, .int .i64 nu, .slice ka m kc]) (o : Option (Nat × Int)) (so : Int) (hst : ∀ W', Below W.heap.size W W' → Calls Tryz.prog 36 #[.agg #[.slice (some ⟨b2, o2, none⟩) L cap], .int .i64 (t : Int)] W' fun e w' => e = .returned (.tuple #[.int .i64 so, fa o]) ∧ Below W'.heap.size W' w') :
    Code.wp Tryz.prog (rtC (rtC (rtC (rtC (Option.getD Tryz.f24.body Code.skip))))) (bodyPost Tryz.prog Tryz.f24 (fun e w' => TyE (o) ((so, 0)) e ∧ Below w.heap.size w w')) { tmps := #[t0, .int .i64 (t : Int), .int .i64 sc, tv, .pointer (some ⟨tb, 0, none⟩), t5, t6, t7, .pointer (some ⟨rb, 0, none⟩), .pointer (some ⟨qb, 0, none⟩), .pointer (some ⟨pb, 0, none⟩), .slice ga n gc, t12, t13, t14, t15, t16, t17, t18, t19, t20, t21, t22, t23, t24, t25, t26, t27, t28, t29, t30, t31, t32, t33, t34, t35, t36, t37, t38, t39, t40, t41, t42, t43, t44, t45, t46, t47, t48, t49, t50, t51, t52, t53, t54, t55, t56, t57, t58, t59, t60, t61, t62, t63, t64, t65, t66, t67, t68, t69, t70, t71, t72, t73, t74, t75, t76, t77, t78, t79, t80, t81, t82, t83, t84, t85, t86, t87, t88, t89, t90, t91, t92, t93, t94, t95, t96, t97, t98, t99, t100, t101, t102, t103, t104, t105, t106, t107, t108, t109, t110, t111, t112, t113, t114, t115, t116, t117, t118, t119, t120, t121, t122, t123, t124, t125, t126, t127, t128, t129, t130, t131, t132, t133, t134, t135, t136, t137, t138, t139, t140, t141, t142, t143, t144, t145, t146, t147, t148, t149, t150, t151, t152, t153, t154, t155, t156, t157, t158, t159, t160, t161, t162, t163, t164, t165, t166, t167, t168, t169, t170, t171, t172, t173, t174, t175, t176, t177, t178, t179, t180, t181, t182, t183, t184, t185, t186, t187, t188], defers := [] } W := by
  have S := hid hS
  have HTY := hid rtyp_any
  have hrq := S.out.C.ne
  have hqr := Ne.symm hrq
  have ⟨⟨⟨r0, r1⟩, ⟨f0, f1⟩⟩, ⟨⟨q0, q1, q2⟩, ⟨h0, h1, h2⟩⟩⟩ := S.out.C.facts
  have ⟨p0, p1, p2, p3⟩ := cells4 S.out.prt
  have x0 := cell_of_one S.out.tree
  clear hS
  have HST := hid hst
  clear hst
  simp only [rtC, Option.getD, Tryz.f24]
  go_upto_region 47 with (go_at_call 36; refine (HST.out _ (Below.refl _ _)).mono ?_; rintro e w1 ⟨rfl, l1⟩; have L1 := hid l1; clear l1; unfold fa)
  have HB2 := hid (belowA w1 (.cells #[.int .i64 (fO o).1, .int .i64 (fO o).2, .int .i64 0] 33))
  have HX2 := hid (heap_alloc_new w1 (.cells #[.int .i64 (fO o).1, .int .i64 (fO o).2, .int .i64 0] 33))
  clear p0 p1 p2 p3 x0 r0 r1 f0 f1 q0 q1 q2 h0 h1 h2
  have S1 := hid (S.out.below L1.out)
  have S2 := hid (S1.out.below HB2.out)
  have hxr : w1.heap.size ≠ rb := fun e => by have h := lt_blk S1.out.C.ty; omega
  have hxq : w1.heap.size ≠ qb := fun e => by have h := lt_blk S1.out.C.fa; omega
  generalize w1.alloc (.cells #[.int .i64 (fO o).1, .int .i64 (fO o).2, .int .i64 0] 33) = V at *
  generalize w1.heap.size = xb at *
  have T1 := (rc3 HX2.out).1
  have ⟨c0, c1, c2⟩ := T1
  go_region_held3 (fun Y => Y.cell? ⟨xb, 0, none⟩ = some (.int .i64 (fO o).1) ∧ Y.cell? ⟨xb, 1, none⟩ = some (.int .i64 (fO o).2) ∧ Y.cell? ⟨xb, 2, none⟩ = some (.int .i64 0)) (first | with_reducible exact T1 | with_reducible exact T9 | (with_reducible exact ⟨(cell_othS hxr).trans ((cell_othS hxr).trans T9.1), (cell_othS hxr).trans ((cell_othS hxr).trans T9.2.1), (cell_othS hxr).trans ((cell_othS hxr).trans T9.2.2)⟩) | (with_reducible exact ⟨(cell_othS hxq).trans ((cell_othS hxq).trans ((cell_othS hxq).trans ((cell_othS hxr).trans ((cell_othS hxr).trans T9.1)))), (cell_othS hxq).trans ((cell_othS hxq).trans ((cell_othS hxq).trans ((cell_othS hxr).trans ((cell_othS hxr).trans T9.2.1)))), (cell_othS hxq).trans ((cell_othS hxq).trans ((cell_othS hxq).trans ((cell_othS hxr).trans ((cell_othS hxr).trans T9.2.2))))⟩) | go_keep)
    (first | (go_at_call 31; refine (HTY.out _ _ _).mono ?_; rintro e w9 ⟨rfl, l9⟩; have L9 := hid (show Below V.heap.size V w9 from by first | exact l9 | exact undrewS l9); clear l9; have S9 := hid (S2.out.below L9.out); have T9 := (rc3 ((L9.out.block _ (lt_blk HX2.out)).trans HX2.out)).1; have ⟨d0, d1, d2⟩ := T9; have ⟨⟨⟨r0, r1⟩, ⟨f0, f1⟩⟩, ⟨⟨q0, q1, q2⟩, ⟨h0, h1, h2⟩⟩⟩ := S9.out.C.facts))
  clear T1 T9 c0 c1 c2 d0 d1 d2
  go_wp2_with fail
  (try simp only [Exit.inBlock, Exit.then])
  have FI := S9.out.C.fin (.int .i64 so) (.int .i64 0) (.int .i64 (fO o).1) (.int .i64 (fO o).2) (.int .i64 0)
  exact bodyPost_ret (res_tf rfl _ _ rb qb _ _ _ _ _ rfl rfl FI.1 FI.2.1) rfl ⟨⟨_, _, rfl, fun _ => rfl⟩, FI.2.2⟩
end Go.Proofs.YtiddnjjaidiohaaGreatDoor.L
namespace Go.Proofs.YtiddnjjaidiohaaGreatDoor.L
open Go.RowKit
set_option linter.unusedVariables false
set_option maxHeartbeats 8000000 in
set_option maxRecDepth 100000 in
theorem ty_19a (w W : World) (t rb qb tb pb b2 o2 L cap : Nat) (sc : Int) (tv : Value) (tx : ByteArray) (nu : Int) (ka : Option Addr) (m kc : Nat) (ga : Option Addr) (n gc : Nat) {t0 t5 t6 t7 t12 t13 t14 t15 t16 t17 t18 t19 t20 t21 t22 t23 t24 t25 t26 t27 t28 t29 t30 t31 t32 t33 t34 t35 t36 t37 t38 t39 t40 t41 t42 t43 t44 t45 t46 t47 t48 t49 t50 t51 t52 t53 t54 t55 t56 t57 t58 t59 t60 t61 t62 t63 t64 t65 t66 t67 t68 t69 t70 t71 t72 t73 t74 t75 t76 t77 t78 t79 t80 t81 t82 t83 t84 t85 t86 t87 t88 t89 t90 t91 t92 t93 t94 t95 t96 t97 t98 t99 t100 t101 t102 t103 t104 t105 t106 t107 t108 t109 t110 t111 t112 t113 t114 t115 t116 t117 t118 t119 t120 t121 t122 t123 t124 t125 t126 t127 t128 t129 t130 t131 t132 t133 t134 t135 t136 t137 t138 t139 t140 t141 t142 t143 t144 t145 t146 t147 t148 t149 t150 t151 t152 t153 t154 t155 t156 t157 t158 t159 t160 t161 t162 t163 t164 t165 t166 t167 t168 t169 t170 t171 t172 t173 t174 t175 t176 t177 t178 t179 t180 t181 t182 t183 t184 t185 t186 t187 t188 : Value}
    (hS : Tys w W rb qb tb pb (.slice (some ⟨b2, o2, none⟩) L cap) #[.int .i64 19, .string tx, .int .i64 nu, .slice ka m kc]) (x b1 o1 : Nat) (kx : Int) (hx : x < L) (hL : L ≤ 1000) (hm : m = 1) (hka : ka = some ⟨b1, o1, none⟩) (hb1 : b1 < w.heap.size) (k0 : W.cell? ⟨b1, o1, none⟩ = some (.int .i64 (x : Int))) (kc0 : W.cell? ⟨b2, o2 + x * 4, none⟩ = some (.int .i64 kx)) (h14 : kx ≠ 14) (h11 : kx ≠ 11) :
    Code.wp Tryz.prog (rtC (rtC (rtC (rtC (Option.getD Tryz.f24.body Code.skip))))) (bodyPost Tryz.prog Tryz.f24 (fun e w' => TyE (some (148, (x : Int))) ((0, 0)) e ∧ Below w.heap.size w w')) { tmps := #[t0, .int .i64 (t : Int), .int .i64 sc, tv, .pointer (some ⟨tb, 0, none⟩), t5, t6, t7, .pointer (some ⟨rb, 0, none⟩), .pointer (some ⟨qb, 0, none⟩), .pointer (some ⟨pb, 0, none⟩), .slice ga n gc, t12, t13, t14, t15, t16, t17, t18, t19, t20, t21, t22, t23, t24, t25, t26, t27, t28, t29, t30, t31, t32, t33, t34, t35, t36, t37, t38, t39, t40, t41, t42, t43, t44, t45, t46, t47, t48, t49, t50, t51, t52, t53, t54, t55, t56, t57, t58, t59, t60, t61, t62, t63, t64, t65, t66, t67, t68, t69, t70, t71, t72, t73, t74, t75, t76, t77, t78, t79, t80, t81, t82, t83, t84, t85, t86, t87, t88, t89, t90, t91, t92, t93, t94, t95, t96, t97, t98, t99, t100, t101, t102, t103, t104, t105, t106, t107, t108, t109, t110, t111, t112, t113, t114, t115, t116, t117, t118, t119, t120, t121, t122, t123, t124, t125, t126, t127, t128, t129, t130, t131, t132, t133, t134, t135, t136, t137, t138, t139, t140, t141, t142, t143, t144, t145, t146, t147, t148, t149, t150, t151, t152, t153, t154, t155, t156, t157, t158, t159, t160, t161, t162, t163, t164, t165, t166, t167, t168, t169, t170, t171, t172, t173, t174, t175, t176, t177, t178, t179, t180, t181, t182, t183, t184, t185, t186, t187, t188], defers := [] } W := by
  have S := hid hS
  have HTY := hid rtyp_any
  have hrq := S.out.C.ne
  have hqr := Ne.symm hrq
  have ⟨⟨⟨r0, r1⟩, ⟨f0, f1⟩⟩, ⟨⟨q0, q1, q2⟩, ⟨h0, h1, h2⟩⟩⟩ := S.out.C.facts
  have ⟨p0, p1, p2, p3⟩ := cells4 S.out.prt
  have x0 := cell_of_one S.out.tree
  clear hS
  have HK0 := hid k0
  have HB1L := hid (Nat.lt_of_lt_of_le hb1 S.out.C.low.size)
  have hn1 : b1 ≠ rb := by have := S.out.C.lr; omega
  have hn2 : b1 ≠ qb := by have := S.out.C.lq; omega
  have hn3 := S.out.pr
  have hn4 := S.out.pq
  have hn5 := Ne.symm hn1
  have hn6 := Ne.symm hn2
  have hn7 := Ne.symm hn3
  have hn8 := Ne.symm hn4
  have g1 : (x : Int) < (L : Int) := by omega
  have g2 : (0 : Int) ≤ (x : Int) := by omega
  have g3 : ((x : Int) * 4).toNat = x * 4 := by omega
  subst hka
  subst hm
  have ga1 : (kx != 14) = true := by simpa using h14
  have ga2 : (kx != 11) = true := by simpa using h11
  clear h14 h11
  simp only [rtC, Option.getD, Tryz.f24]
  go_upto_region 49 with (fail)
  go_quiet (fail)
  have HQ := hid (show Below W.heap.size W (W.drewN nq) from below_drewN (Below.refl _ _) nq)
  have S1 := hid (S.out.below HQ.out)
  have k1 := (HQ.out.cell (p := ⟨b1, o1, none⟩) HB1L.out).trans HK0.out
  clear p0 p1 p2 p3 x0 r0 r1 f0 f1 q0 q1 q2 h0 h1 h2 k0 kc0
  generalize W.drewN nq = V at *
  have ⟨p0, p1, p2, p3⟩ := cells4 S1.out.prt
  have ⟨⟨⟨r0, r1⟩, ⟨f0, f1⟩⟩, ⟨⟨q0, q1, q2⟩, ⟨h0, h1, h2⟩⟩⟩ := S1.out.C.facts
  go_upto_region 51 with (fail)
  go_region
  go_wp2_with fail
  (try simp only [Exit.inBlock, Exit.then])
  have FI := S1.out.C.fin (.int .i64 0) (.int .i64 0) (.int .i64 148) (.int .i64 (x : Int)) (.int .i64 0)
  exact bodyPost_ret (res_tf rfl _ _ rb qb _ _ _ _ _ rfl rfl (show (World.drew _).heap[rb]? = _ from FI.1) (show (World.drew _).heap[qb]? = _ from FI.2.1)) rfl ⟨⟨_, _, rfl, fun h => by cases h⟩, FI.2.2.drew⟩
set_option maxHeartbeats 8000000 in
set_option maxRecDepth 100000 in
theorem ty_19b (w W : World) (t rb qb tb pb b2 o2 L cap : Nat) (sc : Int) (tv : Value) (tx : ByteArray) (nu : Int) (ka : Option Addr) (m kc : Nat) (ga : Option Addr) (n gc : Nat) {t0 t5 t6 t7 t12 t13 t14 t15 t16 t17 t18 t19 t20 t21 t22 t23 t24 t25 t26 t27 t28 t29 t30 t31 t32 t33 t34 t35 t36 t37 t38 t39 t40 t41 t42 t43 t44 t45 t46 t47 t48 t49 t50 t51 t52 t53 t54 t55 t56 t57 t58 t59 t60 t61 t62 t63 t64 t65 t66 t67 t68 t69 t70 t71 t72 t73 t74 t75 t76 t77 t78 t79 t80 t81 t82 t83 t84 t85 t86 t87 t88 t89 t90 t91 t92 t93 t94 t95 t96 t97 t98 t99 t100 t101 t102 t103 t104 t105 t106 t107 t108 t109 t110 t111 t112 t113 t114 t115 t116 t117 t118 t119 t120 t121 t122 t123 t124 t125 t126 t127 t128 t129 t130 t131 t132 t133 t134 t135 t136 t137 t138 t139 t140 t141 t142 t143 t144 t145 t146 t147 t148 t149 t150 t151 t152 t153 t154 t155 t156 t157 t158 t159 t160 t161 t162 t163 t164 t165 t166 t167 t168 t169 t170 t171 t172 t173 t174 t175 t176 t177 t178 t179 t180 t181 t182 t183 t184 t185 t186 t187 t188 : Value}
    (hS : Tys w W rb qb tb pb (.slice (some ⟨b2, o2, none⟩) L cap) #[.int .i64 19, .string tx, .int .i64 nu, .slice ka m kc]) (x b1 o1 : Nat) (kx : Int) (hx : x < L) (hL : L ≤ 1000) (hm : m = 1) (hka : ka = some ⟨b1, o1, none⟩) (hb1 : b1 < w.heap.size) (k0 : W.cell? ⟨b1, o1, none⟩ = some (.int .i64 (x : Int))) (kc0 : W.cell? ⟨b2, o2 + x * 4, none⟩ = some (.int .i64 kx)) (hkx : kx = 14) (gb go : Nat) (s : Int) (hga : ga = some ⟨gb, go, none⟩) (hgb : gb < W.heap.size) (hn : 0 < n) (ks : W.cell? ⟨gb, go + 1, none⟩ = some (.int .i64 s)) :
    Code.wp Tryz.prog (rtC (rtC (rtC (rtC (Option.getD Tryz.f24.body Code.skip))))) (bodyPost Tryz.prog Tryz.f24 (fun e w' => TyE (none) ((3, s)) e ∧ Below w.heap.size w w')) { tmps := #[t0, .int .i64 (t : Int), .int .i64 sc, tv, .pointer (some ⟨tb, 0, none⟩), t5, t6, t7, .pointer (some ⟨rb, 0, none⟩), .pointer (some ⟨qb, 0, none⟩), .pointer (some ⟨pb, 0, none⟩), .slice ga n gc, t12, t13, t14, t15, t16, t17, t18, t19, t20, t21, t22, t23, t24, t25, t26, t27, t28, t29, t30, t31, t32, t33, t34, t35, t36, t37, t38, t39, t40, t41, t42, t43, t44, t45, t46, t47, t48, t49, t50, t51, t52, t53, t54, t55, t56, t57, t58, t59, t60, t61, t62, t63, t64, t65, t66, t67, t68, t69, t70, t71, t72, t73, t74, t75, t76, t77, t78, t79, t80, t81, t82, t83, t84, t85, t86, t87, t88, t89, t90, t91, t92, t93, t94, t95, t96, t97, t98, t99, t100, t101, t102, t103, t104, t105, t106, t107, t108, t109, t110, t111, t112, t113, t114, t115, t116, t117, t118, t119, t120, t121, t122, t123, t124, t125, t126, t127, t128, t129, t130, t131, t132, t133, t134, t135, t136, t137, t138, t139, t140, t141, t142, t143, t144, t145, t146, t147, t148, t149, t150, t151, t152, t153, t154, t155, t156, t157, t158, t159, t160, t161, t162, t163, t164, t165, t166, t167, t168, t169, t170, t171, t172, t173, t174, t175, t176, t177, t178, t179, t180, t181, t182, t183, t184, t185, t186, t187, t188], defers := [] } W := by
  have S := hid hS
  have HTY := hid rtyp_any
  have hrq := S.out.C.ne
  have hqr := Ne.symm hrq
  have ⟨⟨⟨r0, r1⟩, ⟨f0, f1⟩⟩, ⟨⟨q0, q1, q2⟩, ⟨h0, h1, h2⟩⟩⟩ := S.out.C.facts
  have ⟨p0, p1, p2, p3⟩ := cells4 S.out.prt
  have x0 := cell_of_one S.out.tree
  clear hS
  have HK0 := hid k0
  have HB1L := hid (Nat.lt_of_lt_of_le hb1 S.out.C.low.size)
  have hn1 : b1 ≠ rb := by have := S.out.C.lr; omega
  have hn2 : b1 ≠ qb := by have := S.out.C.lq; omega
  have hn3 := S.out.pr
  have hn4 := S.out.pq
  have hn5 := Ne.symm hn1
  have hn6 := Ne.symm hn2
  have hn7 := Ne.symm hn3
  have hn8 := Ne.symm hn4
  have g1 : (x : Int) < (L : Int) := by omega
  have g2 : (0 : Int) ≤ (x : Int) := by omega
  have g3 : ((x : Int) * 4).toNat = x * 4 := by omega
  subst hka
  subst hm
  subst hkx
  subst hga
  simp only [rtC, Option.getD, Tryz.f24]
  go_upto_region 49 with (fail)
  go_quiet (fail)
  have HQ := hid (show Below W.heap.size W (W.drewN nq) from below_drewN (Below.refl _ _) nq)
  have S1 := hid (S.out.below HQ.out)
  have k1 := (HQ.out.cell (p := ⟨gb, go + 1, none⟩) hgb).trans ks
  clear p0 p1 p2 p3 x0 r0 r1 f0 f1 q0 q1 q2 h0 h1 h2 k0 kc0 ks
  generalize W.drewN nq = V at *
  have ⟨⟨⟨r0, r1⟩, ⟨f0, f1⟩⟩, ⟨⟨q0, q1, q2⟩, ⟨h0, h1, h2⟩⟩⟩ := S1.out.C.facts
  have g9 : (0 : Int) < (n : Int) := by omega
  go_wp2_with (go_at_call 31; refine (HTY.out _ _ _).mono ?_; rintro e w9 ⟨rfl, l9⟩; have S9 := hid (S1.out.below l9); clear l9; have ⟨⟨⟨r0, r1⟩, ⟨f0, f1⟩⟩, ⟨⟨q0, q1, q2⟩, ⟨h0, h1, h2⟩⟩⟩ := S9.out.C.facts)
  (try simp only [Exit.inBlock, Exit.then])
  have FI := S9.out.C.fin (.int .i64 3) (.int .i64 s) (.int .i64 0) (.int .i64 0) (.int .i64 0)
  exact bodyPost_ret (res_tf rfl _ _ rb qb _ _ _ _ _ rfl rfl FI.1 FI.2.1) rfl ⟨⟨_, _, rfl, fun _ => rfl⟩, FI.2.2⟩
set_option maxHeartbeats 8000000 in
set_option maxRecDepth 100000 in
theorem ty_19c (w W : World) (t rb qb tb pb b2 o2 L cap : Nat) (sc : Int) (tv : Value) (tx : ByteArray) (nu : Int) (ka : Option Addr) (m kc : Nat) (ga : Option Addr) (n gc : Nat) {t0 t5 t6 t7 t12 t13 t14 t15 t16 t17 t18 t19 t20 t21 t22 t23 t24 t25 t26 t27 t28 t29 t30 t31 t32 t33 t34 t35 t36 t37 t38 t39 t40 t41 t42 t43 t44 t45 t46 t47 t48 t49 t50 t51 t52 t53 t54 t55 t56 t57 t58 t59 t60 t61 t62 t63 t64 t65 t66 t67 t68 t69 t70 t71 t72 t73 t74 t75 t76 t77 t78 t79 t80 t81 t82 t83 t84 t85 t86 t87 t88 t89 t90 t91 t92 t93 t94 t95 t96 t97 t98 t99 t100 t101 t102 t103 t104 t105 t106 t107 t108 t109 t110 t111 t112 t113 t114 t115 t116 t117 t118 t119 t120 t121 t122 t123 t124 t125 t126 t127 t128 t129 t130 t131 t132 t133 t134 t135 t136 t137 t138 t139 t140 t141 t142 t143 t144 t145 t146 t147 t148 t149 t150 t151 t152 t153 t154 t155 t156 t157 t158 t159 t160 t161 t162 t163 t164 t165 t166 t167 t168 t169 t170 t171 t172 t173 t174 t175 t176 t177 t178 t179 t180 t181 t182 t183 t184 t185 t186 t187 t188 : Value}
    (hS : Tys w W rb qb tb pb (.slice (some ⟨b2, o2, none⟩) L cap) #[.int .i64 19, .string tx, .int .i64 nu, .slice ka m kc]) (x b1 o1 : Nat) (kx : Int) (hx : x < L) (hL : L ≤ 1000) (hm : m = 1) (hka : ka = some ⟨b1, o1, none⟩) (hb1 : b1 < w.heap.size) (k0 : W.cell? ⟨b1, o1, none⟩ = some (.int .i64 (x : Int))) (kc0 : W.cell? ⟨b2, o2 + x * 4, none⟩ = some (.int .i64 kx)) (hkx : kx = 11) (gb go : Nat) (s : Int) (hga : ga = some ⟨gb, go, none⟩) (hgb : gb < W.heap.size) (hn : 0 < n) (ks : W.cell? ⟨gb, go + 1, none⟩ = some (.int .i64 s)) :
    Code.wp Tryz.prog (rtC (rtC (rtC (rtC (Option.getD Tryz.f24.body Code.skip))))) (bodyPost Tryz.prog Tryz.f24 (fun e w' => TyE (none) ((3, s)) e ∧ Below w.heap.size w w')) { tmps := #[t0, .int .i64 (t : Int), .int .i64 sc, tv, .pointer (some ⟨tb, 0, none⟩), t5, t6, t7, .pointer (some ⟨rb, 0, none⟩), .pointer (some ⟨qb, 0, none⟩), .pointer (some ⟨pb, 0, none⟩), .slice ga n gc, t12, t13, t14, t15, t16, t17, t18, t19, t20, t21, t22, t23, t24, t25, t26, t27, t28, t29, t30, t31, t32, t33, t34, t35, t36, t37, t38, t39, t40, t41, t42, t43, t44, t45, t46, t47, t48, t49, t50, t51, t52, t53, t54, t55, t56, t57, t58, t59, t60, t61, t62, t63, t64, t65, t66, t67, t68, t69, t70, t71, t72, t73, t74, t75, t76, t77, t78, t79, t80, t81, t82, t83, t84, t85, t86, t87, t88, t89, t90, t91, t92, t93, t94, t95, t96, t97, t98, t99, t100, t101, t102, t103, t104, t105, t106, t107, t108, t109, t110, t111, t112, t113, t114, t115, t116, t117, t118, t119, t120, t121, t122, t123, t124, t125, t126, t127, t128, t129, t130, t131, t132, t133, t134, t135, t136, t137, t138, t139, t140, t141, t142, t143, t144, t145, t146, t147, t148, t149, t150, t151, t152, t153, t154, t155, t156, t157, t158, t159, t160, t161, t162, t163, t164, t165, t166, t167, t168, t169, t170, t171, t172, t173, t174, t175, t176, t177, t178, t179, t180, t181, t182, t183, t184, t185, t186, t187, t188], defers := [] } W := by
  have S := hid hS
  have HTY := hid rtyp_any
  have hrq := S.out.C.ne
  have hqr := Ne.symm hrq
  have ⟨⟨⟨r0, r1⟩, ⟨f0, f1⟩⟩, ⟨⟨q0, q1, q2⟩, ⟨h0, h1, h2⟩⟩⟩ := S.out.C.facts
  have ⟨p0, p1, p2, p3⟩ := cells4 S.out.prt
  have x0 := cell_of_one S.out.tree
  clear hS
  have HK0 := hid k0
  have HB1L := hid (Nat.lt_of_lt_of_le hb1 S.out.C.low.size)
  have hn1 : b1 ≠ rb := by have := S.out.C.lr; omega
  have hn2 : b1 ≠ qb := by have := S.out.C.lq; omega
  have hn3 := S.out.pr
  have hn4 := S.out.pq
  have hn5 := Ne.symm hn1
  have hn6 := Ne.symm hn2
  have hn7 := Ne.symm hn3
  have hn8 := Ne.symm hn4
  have g1 : (x : Int) < (L : Int) := by omega
  have g2 : (0 : Int) ≤ (x : Int) := by omega
  have g3 : ((x : Int) * 4).toNat = x * 4 := by omega
  subst hka
  subst hm
  subst hkx
  subst hga
  simp only [rtC, Option.getD, Tryz.f24]
  go_upto_region 49 with (fail)
  go_quiet (fail)
  have HQ := hid (show Below W.heap.size W (W.drewN nq) from below_drewN (Below.refl _ _) nq)
  have S1 := hid (S.out.below HQ.out)
  have k1 := (HQ.out.cell (p := ⟨gb, go + 1, none⟩) hgb).trans ks
  clear p0 p1 p2 p3 x0 r0 r1 f0 f1 q0 q1 q2 h0 h1 h2 k0 kc0 ks
  generalize W.drewN nq = V at *
  have ⟨⟨⟨r0, r1⟩, ⟨f0, f1⟩⟩, ⟨⟨q0, q1, q2⟩, ⟨h0, h1, h2⟩⟩⟩ := S1.out.C.facts
  have g9 : (0 : Int) < (n : Int) := by omega
  go_wp2_with (go_at_call 31; refine (HTY.out _ _ _).mono ?_; rintro e w9 ⟨rfl, l9⟩; have S9 := hid (S1.out.below l9); clear l9; have ⟨⟨⟨r0, r1⟩, ⟨f0, f1⟩⟩, ⟨⟨q0, q1, q2⟩, ⟨h0, h1, h2⟩⟩⟩ := S9.out.C.facts)
  (try simp only [Exit.inBlock, Exit.then])
  have FI := S9.out.C.fin (.int .i64 3) (.int .i64 s) (.int .i64 0) (.int .i64 0) (.int .i64 0)
  exact bodyPost_ret (res_tf rfl _ _ rb qb _ _ _ _ _ rfl rfl FI.1 FI.2.1) rfl ⟨⟨_, _, rfl, fun _ => rfl⟩, FI.2.2⟩
end Go.Proofs.YtiddnjjaidiohaaGreatDoor.L
