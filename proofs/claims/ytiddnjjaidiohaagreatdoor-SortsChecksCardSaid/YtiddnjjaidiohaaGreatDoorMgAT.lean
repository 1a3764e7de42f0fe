import Derived.Test.YtiddnjjaidiohaaGreatDoorMgAP
namespace Go.Proofs.YtiddnjjaidiohaaGreatDoor.L
open Go.RowKit
set_option linter.unusedVariables false
set_option maxHeartbeats 8000000 in
set_option maxRecDepth 100000 in
theorem cmp_mov (w W : World) (t x y rb pb g8 g9 b1 o1 kc : Nat) (kd nu : Int) (tx : ByteArray) (u1 s1 u2 s2 : Int) (o : Option (Nat × Int)) {t0 t2 t3 t4 t5 t10 t11 t12 t13 t14 t15 t16 t17 t18 t19 t20 t21 t22 t23 t24 t25 t26 t27 t28 t29 t30 t31 t32 t33 t34 t35 t36 t37 t38 t39 t40 t41 t42 t43 t44 t45 t46 t47 t48 t49 t50 t51 t52 t53 t54 t55 t56 t57 t58 t59 t60 t61 t62 t63 t64 t65 t66 t67 t68 t69 t70 t71 t72 t73 t74 t75 t76 t77 t78 t79 t80 t81 t82 t83 t84 t85 t86 t87 t88 t89 t90 t91 t92 t93 t94 t95 t96 t97 t98 t99 t100 t101 t102 : Value}
    (hC : Cpd w W rb pb g8 g9 #[.int .i64 kd, .string tx, .int .i64 nu, .slice (some ⟨b1, o1, none⟩) 2 kc] u1 s1 u2 s2) (ho : o = if movB s1 && movB s2 then some (144, (t : Int)) else none) :
    Code.wp Tryz.prog (rtC (rtC (rtC (rtC (rtC (Option.getD Tryz.f33.body Code.skip)))))) (bodyPost Tryz.prog Tryz.f33 (fun e w' => e = .returned (fa o) ∧ Below w.heap.size w w')) { tmps := #[t0, .int .i64 (t : Int), t2, t3, t4, t5, .pointer (some ⟨rb, 0, none⟩), .pointer (some ⟨pb, 0, none⟩), .pointer (some ⟨g8, 0, none⟩), .pointer (some ⟨g9, 0, none⟩), t10, t11, t12, t13, t14, t15, t16, t17, t18, t19, t20, t21, t22, t23, t24, t25, t26, t27, t28, t29, t30, t31, t32, t33, t34, t35, t36, t37, t38, t39, t40, t41, t42, t43, t44, t45, t46, t47, t48, t49, t50, t51, t52, t53, t54, t55, t56, t57, t58, t59, t60, t61, t62, t63, t64, t65, t66, t67, t68, t69, t70, t71, t72, t73, t74, t75, t76, t77, t78, t79, t80, t81, t82, t83, t84, t85, t86, t87, t88, t89, t90, t91, t92, t93, t94, t95, t96, t97, t98, t99, t100, t101, t102], defers := [] } W := by
  have HMV := hid rmov_any
  have C := hid hC
  have ⟨⟨r0, r1, r2⟩, ⟨f0, f1, f2⟩⟩ := rc3 C.out.res
  have ⟨a0, a1⟩ := cellsW C.out.one
  clear hC
  simp only [rtC, Option.getD, Tryz.f33]
  cases m1 : movB s1
  · have HOE := hid (show o = none by rw [ho, m1]; rfl)
    clear ho
    go_wp2_with (first | (go_at_call 53; refine (HMV.out _ _ _).mono ?_; rintro e w2 ⟨rfl, l2⟩; have C2 := hid (C1.out.below l2); clear l2; have ⟨⟨r0, r1, r2⟩, ⟨f0, f1, f2⟩⟩ := rc3 C2.out.res) | (go_at_call 53; refine (HMV.out _ _ _).mono ?_; rintro e w1 ⟨rfl, l1⟩; have C1 := hid (C.out.below l1); clear l1; have ⟨⟨r0, r1, r2⟩, ⟨f0, f1, f2⟩⟩ := rc3 C1.out.res; have ⟨c0, c1⟩ := cellsW C1.out.two))
    (try simp only [Exit.inBlock, Exit.then])
    refine bodyPost_ret (res_fa rfl _ _ rb _ _ _ rfl (heap_set3 C1.out.res _ _ _)) rfl ⟨?_, C1.out.fin _ _ _⟩
    rw [HOE.out]
    rfl
  · cases m2 : movB s2
    · have HOE := hid (show o = none by rw [ho, m1, m2]; rfl)
      clear ho
      go_wp2_with (first | (go_at_call 53; refine (HMV.out _ _ _).mono ?_; rintro e w2 ⟨rfl, l2⟩; have C2 := hid (C1.out.below l2); clear l2; have ⟨⟨r0, r1, r2⟩, ⟨f0, f1, f2⟩⟩ := rc3 C2.out.res) | (go_at_call 53; refine (HMV.out _ _ _).mono ?_; rintro e w1 ⟨rfl, l1⟩; have C1 := hid (C.out.below l1); clear l1; have ⟨⟨r0, r1, r2⟩, ⟨f0, f1, f2⟩⟩ := rc3 C1.out.res; have ⟨c0, c1⟩ := cellsW C1.out.two))
      (try simp only [Exit.inBlock, Exit.then])
      refine bodyPost_ret (res_fa rfl _ _ rb _ _ _ rfl (heap_set3 C2.out.res _ _ _)) rfl ⟨?_, C2.out.fin _ _ _⟩
      rw [HOE.out]
      rfl
    · have HOE := hid (show o = some (144, (t : Int)) by rw [ho, m1, m2]; rfl)
      clear ho
      go_wp2_with (first | (go_at_call 53; refine (HMV.out _ _ _).mono ?_; rintro e w2 ⟨rfl, l2⟩; have C2 := hid (C1.out.below l2); clear l2; have ⟨⟨r0, r1, r2⟩, ⟨f0, f1, f2⟩⟩ := rc3 C2.out.res) | (go_at_call 53; refine (HMV.out _ _ _).mono ?_; rintro e w1 ⟨rfl, l1⟩; have C1 := hid (C.out.below l1); clear l1; have ⟨⟨r0, r1, r2⟩, ⟨f0, f1, f2⟩⟩ := rc3 C1.out.res; have ⟨c0, c1⟩ := cellsW C1.out.two))
      (try simp only [Exit.inBlock, Exit.then])
      refine bodyPost_ret (res_fa rfl _ _ rb _ _ _ rfl (heap_set3 C2.out.res _ _ _)) rfl ⟨?_, C2.out.fin _ _ _⟩
      rw [HOE.out]
      rfl
end Go.Proofs.YtiddnjjaidiohaaGreatDoor.L
namespace Go.Proofs.YtiddnjjaidiohaaGreatDoor.L
open Go.RowKit
set_option linter.unusedVariables false
set_option maxHeartbeats 8000000 in
set_option maxRecDepth 100000 in
theorem cmp_62 (w W : World) (t x y rb pb g8 g9 b1 o1 kc : Nat) (nu : Int) (tx : ByteArray) (s1 u2 s2 : Int) (o : Option (Nat × Int)) {t0 t2 t3 t4 t5 t10 t11 t12 t13 t14 t15 t16 t17 t18 t19 t20 t21 t22 t23 t24 t25 t26 t27 t28 t29 t30 t31 t32 t33 t34 t35 t36 t37 t38 t39 t40 t41 t42 t43 t44 t45 t46 t47 t48 t49 t50 t51 t52 t53 t54 t55 t56 t57 t58 t59 t60 t61 t62 t63 t64 t65 t66 t67 t68 t69 t70 t71 t72 t73 t74 t75 t76 t77 t78 t79 t80 t81 t82 t83 t84 t85 t86 t87 t88 t89 t90 t91 t92 t93 t94 t95 t96 t97 t98 t99 t100 t101 t102 : Value}
    (hC : Cpd w W rb pb g8 g9 #[.int .i64 6, .string tx, .int .i64 nu, .slice (some ⟨b1, o1, none⟩) 2 kc] 2 s1 u2 s2) (k0 : W.cell? ⟨b1, o1, none⟩ = some (.int .i64 (x : Int))) (k1 : W.cell? ⟨b1, o1 + 1, none⟩ = some (.int .i64 (y : Int))) (hn1 : 1 ≤ nu) (ho : o = if u2 ≠ 2 then some (141, (y : Int)) else if eqtB nu = false then some (141, (t : Int)) else if movB s1 && movB s2 then some (144, (t : Int)) else none) :
    Code.wp Tryz.prog (rtC (rtC (rtC (Option.getD Tryz.f33.body Code.skip)))) (bodyPost Tryz.prog Tryz.f33 (fun e w' => e = .returned (fa o) ∧ Below w.heap.size w w')) { tmps := #[t0, .int .i64 (t : Int), t2, t3, t4, t5, .pointer (some ⟨rb, 0, none⟩), .pointer (some ⟨pb, 0, none⟩), .pointer (some ⟨g8, 0, none⟩), .pointer (some ⟨g9, 0, none⟩), t10, t11, t12, t13, t14, t15, t16, t17, t18, t19, t20, t21, t22, t23, t24, t25, t26, t27, t28, t29, t30, t31, t32, t33, t34, t35, t36, t37, t38, t39, t40, t41, t42, t43, t44, t45, t46, t47, t48, t49, t50, t51, t52, t53, t54, t55, t56, t57, t58, t59, t60, t61, t62, t63, t64, t65, t66, t67, t68, t69, t70, t71, t72, t73, t74, t75, t76, t77, t78, t79, t80, t81, t82, t83, t84, t85, t86, t87, t88, t89, t90, t91, t92, t93, t94, t95, t96, t97, t98, t99, t100, t101, t102], defers := [] } W := by
  have C := hid hC
  have ⟨⟨r0, r1, r2⟩, ⟨f0, f1, f2⟩⟩ := rc3 C.out.res
  have ⟨p0, p1, p2, p3⟩ := cells4 C.out.prt
  have ⟨a0, a1⟩ := cellsW C.out.one
  have ⟨c0, c1⟩ := cellsW C.out.two
  clear hC
  have sf : (rtC (rtC (rtC (Option.getD Tryz.f33.body Code.skip)))) = .seq (hdC (rtC (rtC (rtC (Option.getD Tryz.f33.body Code.skip))))) (.seq (hdC (rtC (rtC (rtC (rtC (Option.getD Tryz.f33.body Code.skip)))))) (rtC (rtC (rtC (rtC (rtC (Option.getD Tryz.f33.body Code.skip))))))) := by kernel_rfl
  rw [sf]
  clear sf
  generalize hT : (rtC (rtC (rtC (rtC (rtC (Option.getD Tryz.f33.body Code.skip)))))) = T
  simp only [hdC, rtC, Option.getD, Tryz.f33]
  by_cases h3 : u2 = 2
  · subst h3
    rw [if_neg (show ¬ ((2 : Int) ≠ 2) by simp)] at ho
    by_cases h4 : eqtB nu = false
    · rw [if_pos h4] at ho
      have g : (2 : Int) < nu := by unfold eqtB at h4; simp at h4; omega
      clear h4
      have HOE := hid ho
      clear ho
      go_wp2_with fail
      (try simp only [Exit.inBlock, Exit.then])
      refine bodyPost_ret (res_fa rfl _ _ rb _ _ _ rfl (heap_set3 C.out.res _ _ _)) rfl ⟨?_, C.out.fin _ _ _⟩
      rw [HOE.out]
      rfl
    · rw [if_neg h4] at ho
      have g : ¬ ((2 : Int) < nu) := by unfold eqtB at h4; simp at h4; omega
      clear h4
      have HOE := hid ho
      clear ho
      go_wp2_with fail
      rw [← hT]
      exact cmp_mov w W t x y rb pb g8 g9 b1 o1 kc _ nu tx _ s1 _ s2 o C.out HOE.out
  · rw [if_pos h3] at ho
    have g : (u2 != 2) = true := by simpa using h3
    clear h3
    have HOE := hid ho
    clear ho
    go_wp2_with fail
    (try simp only [Exit.inBlock, Exit.then])
    refine bodyPost_ret (res_fa rfl _ _ rb _ _ _ rfl (heap_set3 C.out.res _ _ _)) rfl ⟨?_, C.out.fin _ _ _⟩
    rw [HOE.out]
    rfl
set_option maxHeartbeats 8000000 in
set_option maxRecDepth 100000 in
theorem cmp_63 (w W : World) (t x y rb pb g8 g9 b1 o1 kc : Nat) (nu : Int) (tx : ByteArray) (s1 u2 s2 : Int) (o : Option (Nat × Int)) {t0 t2 t3 t4 t5 t10 t11 t12 t13 t14 t15 t16 t17 t18 t19 t20 t21 t22 t23 t24 t25 t26 t27 t28 t29 t30 t31 t32 t33 t34 t35 t36 t37 t38 t39 t40 t41 t42 t43 t44 t45 t46 t47 t48 t49 t50 t51 t52 t53 t54 t55 t56 t57 t58 t59 t60 t61 t62 t63 t64 t65 t66 t67 t68 t69 t70 t71 t72 t73 t74 t75 t76 t77 t78 t79 t80 t81 t82 t83 t84 t85 t86 t87 t88 t89 t90 t91 t92 t93 t94 t95 t96 t97 t98 t99 t100 t101 t102 : Value}
    (hC : Cpd w W rb pb g8 g9 #[.int .i64 6, .string tx, .int .i64 nu, .slice (some ⟨b1, o1, none⟩) 2 kc] 3 s1 u2 s2) (k0 : W.cell? ⟨b1, o1, none⟩ = some (.int .i64 (x : Int))) (k1 : W.cell? ⟨b1, o1 + 1, none⟩ = some (.int .i64 (y : Int))) (ho : o = if u2 ≠ 3 then some (141, (y : Int)) else if movB s1 && movB s2 then some (144, (t : Int)) else none) :
    Code.wp Tryz.prog (rtC (rtC (rtC (Option.getD Tryz.f33.body Code.skip)))) (bodyPost Tryz.prog Tryz.f33 (fun e w' => e = .returned (fa o) ∧ Below w.heap.size w w')) { tmps := #[t0, .int .i64 (t : Int), t2, t3, t4, t5, .pointer (some ⟨rb, 0, none⟩), .pointer (some ⟨pb, 0, none⟩), .pointer (some ⟨g8, 0, none⟩), .pointer (some ⟨g9, 0, none⟩), t10, t11, t12, t13, t14, t15, t16, t17, t18, t19, t20, t21, t22, t23, t24, t25, t26, t27, t28, t29, t30, t31, t32, t33, t34, t35, t36, t37, t38, t39, t40, t41, t42, t43, t44, t45, t46, t47, t48, t49, t50, t51, t52, t53, t54, t55, t56, t57, t58, t59, t60, t61, t62, t63, t64, t65, t66, t67, t68, t69, t70, t71, t72, t73, t74, t75, t76, t77, t78, t79, t80, t81, t82, t83, t84, t85, t86, t87, t88, t89, t90, t91, t92, t93, t94, t95, t96, t97, t98, t99, t100, t101, t102], defers := [] } W := by
  have C := hid hC
  have ⟨⟨r0, r1, r2⟩, ⟨f0, f1, f2⟩⟩ := rc3 C.out.res
  have ⟨p0, p1, p2, p3⟩ := cells4 C.out.prt
  have ⟨a0, a1⟩ := cellsW C.out.one
  have ⟨c0, c1⟩ := cellsW C.out.two
  clear hC
  have sf : (rtC (rtC (rtC (Option.getD Tryz.f33.body Code.skip)))) = .seq (hdC (rtC (rtC (rtC (Option.getD Tryz.f33.body Code.skip))))) (.seq (hdC (rtC (rtC (rtC (rtC (Option.getD Tryz.f33.body Code.skip)))))) (rtC (rtC (rtC (rtC (rtC (Option.getD Tryz.f33.body Code.skip))))))) := by kernel_rfl
  rw [sf]
  clear sf
  generalize hT : (rtC (rtC (rtC (rtC (rtC (Option.getD Tryz.f33.body Code.skip)))))) = T
  simp only [hdC, rtC, Option.getD, Tryz.f33]
  by_cases h3 : u2 = 3
  · subst h3
    rw [if_neg (show ¬ ((3 : Int) ≠ 3) by simp)] at ho
    have HOE := hid ho
    clear ho
    go_wp2_with fail
    rw [← hT]
    exact cmp_mov w W t x y rb pb g8 g9 b1 o1 kc _ nu tx _ s1 _ s2 o C.out HOE.out
  · rw [if_pos h3] at ho
    have g : (u2 != 3) = true := by simpa using h3
    clear h3
    have HOE := hid ho
    clear ho
    go_wp2_with fail
    (try simp only [Exit.inBlock, Exit.then])
    refine bodyPost_ret (res_fa rfl _ _ rb _ _ _ rfl (heap_set3 C.out.res _ _ _)) rfl ⟨?_, C.out.fin _ _ _⟩
    rw [HOE.out]
    rfl
set_option maxHeartbeats 8000000 in
set_option maxRecDepth 100000 in
theorem cmp_el (w W : World) (t x y rb pb g8 g9 b1 o1 kc : Nat) (kd nu : Int) (tx : ByteArray) (u1 s1 u2 s2 : Int) (o : Option (Nat × Int)) {t0 t2 t3 t4 t5 t10 t11 t12 t13 t14 t15 t16 t17 t18 t19 t20 t21 t22 t23 t24 t25 t26 t27 t28 t29 t30 t31 t32 t33 t34 t35 t36 t37 t38 t39 t40 t41 t42 t43 t44 t45 t46 t47 t48 t49 t50 t51 t52 t53 t54 t55 t56 t57 t58 t59 t60 t61 t62 t63 t64 t65 t66 t67 t68 t69 t70 t71 t72 t73 t74 t75 t76 t77 t78 t79 t80 t81 t82 t83 t84 t85 t86 t87 t88 t89 t90 t91 t92 t93 t94 t95 t96 t97 t98 t99 t100 t101 t102 : Value}
    (hC : Cpd w W rb pb g8 g9 #[.int .i64 kd, .string tx, .int .i64 nu, .slice (some ⟨b1, o1, none⟩) 2 kc] u1 s1 u2 s2) (k0 : W.cell? ⟨b1, o1, none⟩ = some (.int .i64 (x : Int))) (k1 : W.cell? ⟨b1, o1 + 1, none⟩ = some (.int .i64 (y : Int))) (hu2 : u1 ≠ 2) (hu3 : u1 ≠ 3) (ho : o = some (141, (x : Int))) :
    Code.wp Tryz.prog (rtC (rtC (rtC (Option.getD Tryz.f33.body Code.skip)))) (bodyPost Tryz.prog Tryz.f33 (fun e w' => e = .returned (fa o) ∧ Below w.heap.size w w')) { tmps := #[t0, .int .i64 (t : Int), t2, t3, t4, t5, .pointer (some ⟨rb, 0, none⟩), .pointer (some ⟨pb, 0, none⟩), .pointer (some ⟨g8, 0, none⟩), .pointer (some ⟨g9, 0, none⟩), t10, t11, t12, t13, t14, t15, t16, t17, t18, t19, t20, t21, t22, t23, t24, t25, t26, t27, t28, t29, t30, t31, t32, t33, t34, t35, t36, t37, t38, t39, t40, t41, t42, t43, t44, t45, t46, t47, t48, t49, t50, t51, t52, t53, t54, t55, t56, t57, t58, t59, t60, t61, t62, t63, t64, t65, t66, t67, t68, t69, t70, t71, t72, t73, t74, t75, t76, t77, t78, t79, t80, t81, t82, t83, t84, t85, t86, t87, t88, t89, t90, t91, t92, t93, t94, t95, t96, t97, t98, t99, t100, t101, t102], defers := [] } W := by
  have C := hid hC
  have ⟨⟨r0, r1, r2⟩, ⟨f0, f1, f2⟩⟩ := rc3 C.out.res
  have ⟨p0, p1, p2, p3⟩ := cells4 C.out.prt
  have ⟨a0, a1⟩ := cellsW C.out.one
  have ⟨c0, c1⟩ := cellsW C.out.two
  clear hC
  have sf : (rtC (rtC (rtC (Option.getD Tryz.f33.body Code.skip)))) = .seq (hdC (rtC (rtC (rtC (Option.getD Tryz.f33.body Code.skip))))) (.seq (hdC (rtC (rtC (rtC (rtC (Option.getD Tryz.f33.body Code.skip)))))) (rtC (rtC (rtC (rtC (rtC (Option.getD Tryz.f33.body Code.skip))))))) := by kernel_rfl
  rw [sf]
  clear sf
  generalize hT : (rtC (rtC (rtC (rtC (rtC (Option.getD Tryz.f33.body Code.skip)))))) = T
  simp only [hdC, rtC, Option.getD, Tryz.f33]
  have ga : (u1 != 2) = true := by simpa using hu2
  have gb : (u1 != 3) = true := by simpa using hu3
  clear hu2 hu3
  have HOE := hid ho
  clear ho
  go_wp2_with fail
  (try simp only [Exit.inBlock, Exit.then])
  refine bodyPost_ret (res_fa rfl _ _ rb _ _ _ rfl (heap_set3 C.out.res _ _ _)) rfl ⟨?_, C.out.fin _ _ _⟩
  rw [HOE.out]
  rfl
end Go.Proofs.YtiddnjjaidiohaaGreatDoor.L
