import Derived.Test.YtiddnjjaidiohaaGreatDoorMgAT
import Derived.Test.YtiddnjjaidiohaaGreatDoorMgAO
import Derived.Test.YtiddnjjaidiohaaGreatDoorMgAS
namespace Go.Proofs.YtiddnjjaidiohaaGreatDoor.L
open Go.RowKit
set_option linter.unusedVariables false
set_option maxHeartbeats 8000000 in
set_option maxRecDepth 100000 in
theorem cmp_72 (w W : World) (t x y rb pb g8 g9 b1 o1 kc : Nat) (nu : Int) (tx : ByteArray) (s1 u2 s2 : Int) (o : Option (Nat × Int)) {t0 t2 t3 t4 t5 t10 t11 t12 t13 t14 t15 t16 t17 t18 t19 t20 t21 t22 t23 t24 t25 t26 t27 t28 t29 t30 t31 t32 t33 t34 t35 t36 t37 t38 t39 t40 t41 t42 t43 t44 t45 t46 t47 t48 t49 t50 t51 t52 t53 t54 t55 t56 t57 t58 t59 t60 t61 t62 t63 t64 t65 t66 t67 t68 t69 t70 t71 t72 t73 t74 t75 t76 t77 t78 t79 t80 t81 t82 t83 t84 t85 t86 t87 t88 t89 t90 t91 t92 t93 t94 t95 t96 t97 t98 t99 t100 t101 t102 : Value}
    (hC : Cpd w W rb pb g8 g9 #[.int .i64 7, .string tx, .int .i64 nu, .slice (some ⟨b1, o1, none⟩) 2 kc] 2 s1 u2 s2) (k0 : W.cell? ⟨b1, o1, none⟩ = some (.int .i64 (x : Int))) (k1 : W.cell? ⟨b1, o1 + 1, none⟩ = some (.int .i64 (y : Int))) (ho : o = if u2 ≠ 4 ∧ u2 ≠ 6 then some (141, (y : Int)) else if movB s1 && movB s2 then some (144, (t : Int)) else none) :
    Code.wp Tryz.prog (rtC (rtC (rtC (Option.getD Tryz.f33.body Code.skip)))) (bodyPost Tryz.prog Tryz.f33 (fun e w' => e = .returned (fa o) ∧ Below w.heap.size w w')) { tmps := #[t0, .int .i64 (t : Int), t2, t3, t4, t5, .pointer (some ⟨rb, 0, none⟩), .pointer (some ⟨pb, 0, none⟩), .pointer (some ⟨g8, 0, none⟩), .pointer (some ⟨g9, 0, none⟩), t10, t11, t12, t13, t14, t15, t16, t17, t18, t19, t20, t21, t22, t23, t24, t25, t26, t27, t28, t29, t30, t31, t32, t33, t34, t35, t36, t37, t38, t39, t40, t41, t42, t43, t44, t45, t46, t47, t48, t49, t50, t51, t52, t53, t54, t55, t56, t57, t58, t59, t60, t61, t62, t63, t64, t65, t66, t67, t68, t69, t70, t71, t72, t73, t74, t75, t76, t77, t78, t79, t80, t81, t82, t83, t84, t85, t86, t87, t88, t89, t90, t91, t92, t93, t94, t95, t96, t97, t98, t99, t100, t101, t102], defers := [] } W := by
  have C := hid hC
  have ⟨⟨r0, r1, r2⟩, ⟨f0, f1, f2⟩⟩ := rc3 C.out.res
  have ⟨p0, p1, p2, p3⟩ := cells4 C.out.prt
  have ⟨a0, a1⟩ := cellsW C.out.one
  have ⟨c0, c1⟩ := cellsW C.out.two
  clear hC
  have sf : (rtC (rtC (rtC (Option.getD Tryz.f33.body Code.skip)))) = .seq (hdC (rtC (rtC (rtC (Option.getD Tryz.f33.body Code.skip))))) (.seq (hdC (rtC (rtC (rtC (rtC (Option.getD Tryz.f33.body Code.skip)))))) (rtC (rtC (rtC (rtC (rtC (Option.getD Tryz.f33.body Code.skip))))))) := by kernel_rfl
  rw [sf]
  clear sf
  generalize hT : (rtC (rtC (rtC (rtC (rtC (Option.getD Tryz.f33.body Code.skip)))))) = T
  simp only [hdC, rtC, Option.getD, Tryz.f33]
  by_cases h6 : u2 = 6
  · subst h6
    rw [if_neg (show ¬ ((6 : Int) ≠ 4 ∧ (6 : Int) ≠ 6) by simp)] at ho
    have HOE := hid ho
    clear ho
    go_wp2_with fail
    rw [← hT]
    exact cmp_mov w W t x y rb pb g8 g9 b1 o1 kc _ nu tx _ s1 _ s2 o C.out HOE.out
  by_cases h4 : u2 = 4
  · subst h4
    rw [if_neg (show ¬ ((4 : Int) ≠ 4 ∧ (4 : Int) ≠ 6) by simp)] at ho
    have HOE := hid ho
    clear ho
    go_wp2_with fail
    rw [← hT]
    exact cmp_mov w W t x y rb pb g8 g9 b1 o1 kc _ nu tx _ s1 _ s2 o C.out HOE.out
  · rw [if_pos ⟨h4, h6⟩] at ho
    have ga : (u2 == 6) = false := by simpa using h6
    have gb : (u2 == 4) = false := by simpa using h4
    clear h4 h6
    by_cases h5 : u2 = 5
    · subst h5
      have HOE := hid ho
      clear ho
      go_wp2_with fail
      (try simp only [Exit.inBlock, Exit.then])
      refine bodyPost_ret (res_fa rfl _ _ rb _ _ _ rfl (heap_set3 C.out.res _ _ _)) rfl ⟨?_, C.out.fin _ _ _⟩
      rw [HOE.out]
      rfl
    · have gc : (u2 == 5) = false := by simpa using h5
      clear h5
      have HOE := hid ho
      clear ho
      go_wp2_with fail
      (try simp only [Exit.inBlock, Exit.then])
      refine bodyPost_ret (res_fa rfl _ _ rb _ _ _ rfl (heap_set3 C.out.res _ _ _)) rfl ⟨?_, C.out.fin _ _ _⟩
      rw [HOE.out]
      rfl
set_option maxHeartbeats 8000000 in
set_option maxRecDepth 100000 in
theorem cmp_73 (w W : World) (t x y rb pb g8 g9 b1 o1 kc : Nat) (nu : Int) (tx : ByteArray) (s1 u2 s2 : Int) (o : Option (Nat × Int)) {t0 t2 t3 t4 t5 t10 t11 t12 t13 t14 t15 t16 t17 t18 t19 t20 t21 t22 t23 t24 t25 t26 t27 t28 t29 t30 t31 t32 t33 t34 t35 t36 t37 t38 t39 t40 t41 t42 t43 t44 t45 t46 t47 t48 t49 t50 t51 t52 t53 t54 t55 t56 t57 t58 t59 t60 t61 t62 t63 t64 t65 t66 t67 t68 t69 t70 t71 t72 t73 t74 t75 t76 t77 t78 t79 t80 t81 t82 t83 t84 t85 t86 t87 t88 t89 t90 t91 t92 t93 t94 t95 t96 t97 t98 t99 t100 t101 t102 : Value}
    (hC : Cpd w W rb pb g8 g9 #[.int .i64 7, .string tx, .int .i64 nu, .slice (some ⟨b1, o1, none⟩) 2 kc] 3 s1 u2 s2) (k0 : W.cell? ⟨b1, o1, none⟩ = some (.int .i64 (x : Int))) (k1 : W.cell? ⟨b1, o1 + 1, none⟩ = some (.int .i64 (y : Int))) (ho : o = if u2 ≠ 5 ∧ u2 ≠ 6 then some (141, (y : Int)) else if movB s1 && movB s2 then some (144, (t : Int)) else none) :
    Code.wp Tryz.prog (rtC (rtC (rtC (Option.getD Tryz.f33.body Code.skip)))) (bodyPost Tryz.prog Tryz.f33 (fun e w' => e = .returned (fa o) ∧ Below w.heap.size w w')) { tmps := #[t0, .int .i64 (t : Int), t2, t3, t4, t5, .pointer (some ⟨rb, 0, none⟩), .pointer (some ⟨pb, 0, none⟩), .pointer (some ⟨g8, 0, none⟩), .pointer (some ⟨g9, 0, none⟩), t10, t11, t12, t13, t14, t15, t16, t17, t18, t19, t20, t21, t22, t23, t24, t25, t26, t27, t28, t29, t30, t31, t32, t33, t34, t35, t36, t37, t38, t39, t40, t41, t42, t43, t44, t45, t46, t47, t48, t49, t50, t51, t52, t53, t54, t55, t56, t57, t58, t59, t60, t61, t62, t63, t64, t65, t66, t67, t68, t69, t70, t71, t72, t73, t74, t75, t76, t77, t78, t79, t80, t81, t82, t83, t84, t85, t86, t87, t88, t89, t90, t91, t92, t93, t94, t95, t96, t97, t98, t99, t100, t101, t102], defers := [] } W := by
  have C := hid hC
  have ⟨⟨r0, r1, r2⟩, ⟨f0, f1, f2⟩⟩ := rc3 C.out.res
  have ⟨p0, p1, p2, p3⟩ := cells4 C.out.prt
  have ⟨a0, a1⟩ := cellsW C.out.one
  have ⟨c0, c1⟩ := cellsW C.out.two
  clear hC
  have sf : (rtC (rtC (rtC (Option.getD Tryz.f33.body Code.skip)))) = .seq (hdC (rtC (rtC (rtC (Option.getD Tryz.f33.body Code.skip))))) (.seq (hdC (rtC (rtC (rtC (rtC (Option.getD Tryz.f33.body Code.skip)))))) (rtC (rtC (rtC (rtC (rtC (Option.getD Tryz.f33.body Code.skip))))))) := by kernel_rfl
  rw [sf]
  clear sf
  generalize hT : (rtC (rtC (rtC (rtC (rtC (Option.getD Tryz.f33.body Code.skip)))))) = T
  simp only [hdC, rtC, Option.getD, Tryz.f33]
  by_cases h6 : u2 = 6
  · subst h6
    rw [if_neg (show ¬ ((6 : Int) ≠ 5 ∧ (6 : Int) ≠ 6) by simp)] at ho
    have HOE := hid ho
    clear ho
    go_wp2_with fail
    rw [← hT]
    exact cmp_mov w W t x y rb pb g8 g9 b1 o1 kc _ nu tx _ s1 _ s2 o C.out HOE.out
  by_cases h4 : u2 = 5
  · subst h4
    rw [if_neg (show ¬ ((5 : Int) ≠ 5 ∧ (5 : Int) ≠ 6) by simp)] at ho
    have HOE := hid ho
    clear ho
    go_wp2_with fail
    rw [← hT]
    exact cmp_mov w W t x y rb pb g8 g9 b1 o1 kc _ nu tx _ s1 _ s2 o C.out HOE.out
  · rw [if_pos ⟨h4, h6⟩] at ho
    have ga : (u2 == 6) = false := by simpa using h6
    have gb : (u2 == 5) = false := by simpa using h4
    clear h4 h6
    by_cases h5 : u2 = 4
    · subst h5
      have HOE := hid ho
      clear ho
      go_wp2_with fail
      (try simp only [Exit.inBlock, Exit.then])
      refine bodyPost_ret (res_fa rfl _ _ rb _ _ _ rfl (heap_set3 C.out.res _ _ _)) rfl ⟨?_, C.out.fin _ _ _⟩
      rw [HOE.out]
      rfl
    · have gc : (u2 == 4) = false := by simpa using h5
      clear h5
      have HOE := hid ho
      clear ho
      go_wp2_with fail
      (try simp only [Exit.inBlock, Exit.then])
      refine bodyPost_ret (res_fa rfl _ _ rb _ _ _ rfl (heap_set3 C.out.res _ _ _)) rfl ⟨?_, C.out.fin _ _ _⟩
      rw [HOE.out]
      rfl
end Go.Proofs.YtiddnjjaidiohaaGreatDoor.L
namespace Go.Proofs.YtiddnjjaidiohaaGreatDoor.L
open Go.RowKit
set_option linter.unusedVariables false
theorem fa_rw {o : Option (Nat × Int)} {c a : Int} (h : fO o = (c, a)) : fa o = .agg #[.int .i64 c, .int .i64 a, .int .i64 0] := by unfold fa; rw [h]
set_option maxHeartbeats 16000000 in
set_option maxRecDepth 100000 in
theorem rcomp_mem (cap t x y b2 o2 kc b1 o1 gt off : Nat) (kd nu : Int) (tx : ByteArray) (L n tc : Nat) (u1 s1 u2 s2 : Int) (o : Option (Nat × Int)) (w : World)
    (ht : t < L) (hx : x < n) (hy : y < n) (h1 : L ≤ 1000) (h2 : n ≤ 1000)
    (q0 : w.cell? ⟨b2, o2 + t * 4, none⟩ = some (.int .i64 kd)) (q1 : w.cell? ⟨b2, o2 + t * 4 + 1, none⟩ = some (.string tx)) (q2 : w.cell? ⟨b2, o2 + t * 4 + 2, none⟩ = some (.int .i64 nu)) (q3 : w.cell? ⟨b2, o2 + t * 4 + 3, none⟩ = some (.slice (some ⟨b1, o1, none⟩) 2 kc))
    (k0 : w.cell? ⟨b1, o1, none⟩ = some (.int .i64 (x : Int))) (k1 : w.cell? ⟨b1, o1 + 1, none⟩ = some (.int .i64 (y : Int)))
    (hb2 : b2 < w.heap.size) (hb1 : b1 < w.heap.size) (hbt : gt < w.heap.size)
    (y0 : w.cell? ⟨gt, off + x * 2, none⟩ = some (.int .i64 u1)) (y1 : w.cell? ⟨gt, off + x * 2 + 1, none⟩ = some (.int .i64 s1)) (y2 : w.cell? ⟨gt, off + y * 2, none⟩ = some (.int .i64 u2)) (y3 : w.cell? ⟨gt, off + y * 2 + 1, none⟩ = some (.int .i64 s2))
    (ho : (kd = 6 ∧ 1 ≤ nu ∧ o = if setO u1 = 0 then some (141, (x : Int)) else if u2 ≠ u1 then some (141, (y : Int)) else if u1 = 2 ∧ eqtB nu = false then some (141, (t : Int)) else if movB s1 && movB s2 then some (144, (t : Int)) else none) ∨
          (kd = 7 ∧ o = if setO u1 = 0 then some (141, (x : Int)) else if u2 ≠ setO u1 ∧ u2 ≠ 6 then some (141, (y : Int)) else if movB s1 && movB s2 then some (144, (t : Int)) else none)) :
    Calls Tryz.prog 33 #[.agg #[.slice (some ⟨b2, o2, none⟩) L cap], .int .i64 (t : Int), .slice (some ⟨gt, off, none⟩) n tc] w fun e w' => e = .returned (fa o) ∧ Below w.heap.size w w' := by
  have g1 : (t : Int) < (L : Int) := by omega
  have g2 : (0 : Int) ≤ (t : Int) := by omega
  have g3 : ((t : Int) * 4).toNat = t * 4 := by omega
  have g4 : ((x : Int) * 2).toNat = x * 2 := by omega
  have g5 : ((y : Int) * 2).toNat = y * 2 := by omega
  have g6 : (x : Int) < (n : Int) := by omega
  have g7 : (y : Int) < (n : Int) := by omega
  have g8 : (0 : Int) ≤ (x : Int) := by omega
  have g9 : (0 : Int) ≤ (y : Int) := by omega
  have HO := hid ho
  have HMV := hid rmov_any
  have HB0 := hid (belowA w (.cells #[.slice (some ⟨b2, o2, none⟩) L cap] 26))
  have HX0 := hid (heap_alloc_new w (.cells #[.slice (some ⟨b2, o2, none⟩) L cap] 26))
  have HB1 := hid (bchS HB0.out (belowA (w.alloc (.cells #[.slice (some ⟨b2, o2, none⟩) L cap] 26)) (.cells #[.int .i64 0, .int .i64 0, .int .i64 0] 33)))
  have HX1 := hid (heap_alloc_new (w.alloc (.cells #[.slice (some ⟨b2, o2, none⟩) L cap] 26)) (.cells #[.int .i64 0, .int .i64 0, .int .i64 0] 33))
  have HS1 := hid (show (w.alloc (.cells #[.slice (some ⟨b2, o2, none⟩) L cap] 26)).heap.size = w.heap.size + 1 by simp)
  rw [HS1.out] at HX1
  have HX0' := hid ((belowA (w.alloc (.cells #[.slice (some ⟨b2, o2, none⟩) L cap] 26)) (.cells #[.int .i64 0, .int .i64 0, .int .i64 0] 33)).block _ (lt_blk HX0.out) |>.trans HX0.out)
  clear ho
  go_enter Tryz.func33, Tryz.ntmps33
  go_upto_region 1 with (fail)
  generalize (w.alloc (.cells #[.slice (some ⟨b2, o2, none⟩) L cap] 26)).alloc (.cells #[.int .i64 0, .int .i64 0, .int .i64 0] 33) = X at *
  have x0 := cell_of_one HX0'.out
  replace q0 := (HB1.out.cell (p := ⟨b2, o2 + t * 4, none⟩) hb2).trans q0
  replace q1 := (HB1.out.cell (p := ⟨b2, o2 + t * 4 + 1, none⟩) hb2).trans q1
  replace q2 := (HB1.out.cell (p := ⟨b2, o2 + t * 4 + 2, none⟩) hb2).trans q2
  replace q3 := (HB1.out.cell (p := ⟨b2, o2 + t * 4 + 3, none⟩) hb2).trans q3
  have HB2 := hid (belowA X (.cells #[.int .i64 kd, .string tx, .int .i64 nu, .slice (some ⟨b1, o1, none⟩) 2 kc] 60))
  have HX2 := hid (heap_alloc_new X (.cells #[.int .i64 kd, .string tx, .int .i64 nu, .slice (some ⟨b1, o1, none⟩) 2 kc] 60))
  go_upto_region 2 with (fail)
  clear q0 q1 q2 q3 x0
  generalize X.alloc (.cells #[.int .i64 kd, .string tx, .int .i64 nu, .slice (some ⟨b1, o1, none⟩) 2 kc] 60) = Y at *
  have HB3 := hid (bchS HB1.out HB2.out)
  replace k0 := (HB3.out.cell (p := ⟨b1, o1, none⟩) hb1).trans k0
  replace k1 := (HB3.out.cell (p := ⟨b1, o1 + 1, none⟩) hb1).trans k1
  replace y0 := (HB3.out.cell (p := ⟨gt, off + x * 2, none⟩) hbt).trans y0
  replace y1 := (HB3.out.cell (p := ⟨gt, off + x * 2 + 1, none⟩) hbt).trans y1
  replace y2 := (HB3.out.cell (p := ⟨gt, off + y * 2, none⟩) hbt).trans y2
  replace y3 := (HB3.out.cell (p := ⟨gt, off + y * 2 + 1, none⟩) hbt).trans y3
  have ⟨z0, z1, z2, z3⟩ := cells4 HX2.out
  have HR2 := hid ((HB2.out.block _ (lt_blk HX1.out)).trans HX1.out)
  have A1 := hid (belowA Y (.cells #[.int .i64 0, .int .i64 0] 47))
  have A2 := hid (bchS A1.out (belowA (Y.alloc (.cells #[.int .i64 0, .int .i64 0] 47)) (.cells #[.int .i64 0, .int .i64 0] 47)))
  have hpy := lt_blk HX2.out
  have hgy : gt < Y.heap.size := Nat.lt_of_lt_of_le hbt HB3.out.size
  have hby : b1 < Y.heap.size := Nat.lt_of_lt_of_le hb1 HB3.out.size
  have HK := hid (And.intro hby (And.intro k0 k1))
  have z3_1 := (A1.out.cell (p := ⟨X.heap.size, 3, none⟩) hpy).trans z3
  have z3_2 := (A2.out.cell (p := ⟨X.heap.size, 3, none⟩) hpy).trans z3
  have k0_1 := (A1.out.cell (p := ⟨b1, o1, none⟩) hby).trans k0
  have k0_2 := (A2.out.cell (p := ⟨b1, o1, none⟩) hby).trans k0
  have k1_1 := (A1.out.cell (p := ⟨b1, o1 + 1, none⟩) hby).trans k1
  have k1_2 := (A2.out.cell (p := ⟨b1, o1 + 1, none⟩) hby).trans k1
  have y0_1 := (A1.out.cell (p := ⟨gt, off + x * 2, none⟩) hgy).trans y0
  have y0_2 := (A2.out.cell (p := ⟨gt, off + x * 2, none⟩) hgy).trans y0
  have y1_1 := (A1.out.cell (p := ⟨gt, off + x * 2 + 1, none⟩) hgy).trans y1
  have y1_2 := (A2.out.cell (p := ⟨gt, off + x * 2 + 1, none⟩) hgy).trans y1
  have y2_1 := (A1.out.cell (p := ⟨gt, off + y * 2, none⟩) hgy).trans y2
  have y2_2 := (A2.out.cell (p := ⟨gt, off + y * 2, none⟩) hgy).trans y2
  have y3_1 := (A1.out.cell (p := ⟨gt, off + y * 2 + 1, none⟩) hgy).trans y3
  have y3_2 := (A2.out.cell (p := ⟨gt, off + y * 2 + 1, none⟩) hgy).trans y3
  clear g1 g3 g6 g7 g8 g9
  go_region
  clear z3_1 z3_2 k0_1 k0_2 k1_1 k1_2 y0_1 y0_2 y1_1 y1_2 y2_1 y2_2 y3_1 y3_2 y0 y1 y2 y3 z0 z1 z2 z3 k0 k1
  have b1' := belowA Y (.cells #[.int .i64 u1, .int .i64 s1] 47)
  have b2' := bchS b1' (belowA (Y.alloc (.cells #[.int .i64 u1, .int .i64 s1] 47)) (.cells #[.int .i64 u2, .int .i64 s2] 47))
  have n1 := heap_alloc_new Y (.cells #[.int .i64 u1, .int .i64 s1] 47)
  have n2 := heap_alloc_new (Y.alloc (.cells #[.int .i64 u1, .int .i64 s1] 47)) (.cells #[.int .i64 u2, .int .i64 s2] 47)
  have s1' : (Y.alloc (.cells #[.int .i64 u1, .int .i64 s1] 47)).heap.size = Y.heap.size + 1 := by simp
  have n1' := ((belowA (Y.alloc (.cells #[.int .i64 u1, .int .i64 s1] 47)) (.cells #[.int .i64 u2, .int .i64 s2] 47)).block _ (lt_blk n1)).trans n1
  rw [s1'] at n2
  have C := hid (show Cpd w ((Y.alloc (.cells #[.int .i64 u1, .int .i64 s1] 47)).alloc (.cells #[.int .i64 u2, .int .i64 s2] 47)).drew (w.heap.size + 1) X.heap.size (Y.heap.size) (Y.heap.size + 1) #[.int .i64 kd, .string tx, .int .i64 nu, .slice (some ⟨b1, o1, none⟩) 2 kc] u1 s1 u2 s2 from
    Cpd.below (W := (Y.alloc (.cells #[.int .i64 u1, .int .i64 s1] 47)).alloc (.cells #[.int .i64 u2, .int .i64 s2] 47)) ⟨(b2'.block _ (lt_blk HR2.out)).trans HR2.out, (b2'.block _ (lt_blk HX2.out)).trans HX2.out, n1', n2, bchS HB3.out b2', Nat.le_succ _⟩ (Below.refl _ _).drew)
  have K := hid (show ((Y.alloc (.cells #[.int .i64 u1, .int .i64 s1] 47)).alloc (.cells #[.int .i64 u2, .int .i64 s2] 47)).drew.cell? ⟨b1, o1, none⟩ = some (.int .i64 (x : Int)) ∧ ((Y.alloc (.cells #[.int .i64 u1, .int .i64 s1] 47)).alloc (.cells #[.int .i64 u2, .int .i64 s2] 47)).drew.cell? ⟨b1, o1 + 1, none⟩ = some (.int .i64 (y : Int)) from ⟨(b2'.drew.cell (p := ⟨b1, o1, none⟩) HK.out.1).trans HK.out.2.1, (b2'.drew.cell (p := ⟨b1, o1 + 1, none⟩) HK.out.1).trans HK.out.2.2⟩)
  generalize ((Y.alloc (.cells #[.int .i64 u1, .int .i64 s1] 47)).alloc (.cells #[.int .i64 u2, .int .i64 s2] 47)).drew = W at *
  generalize X.heap.size = pb at *
  generalize Y.heap.size + 1 = ga at *
  generalize Y.heap.size = gb at *
  clear n1 n2 b1' b2' s1' n1'
  rotate_left
  clear z3_1 z3_2 k0_1 k0_2 k1_1 k1_2 y0_1 y0_2 y1_1 y1_2 y2_1 y2_2 y3_1 y3_2 y0 y1 y2 y3 z0 z1 z2 z3 k0 k1
  have b1' := belowA Y (.cells #[.int .i64 u2, .int .i64 s2] 47)
  have b2' := bchS b1' (belowA (Y.alloc (.cells #[.int .i64 u2, .int .i64 s2] 47)) (.cells #[.int .i64 u1, .int .i64 s1] 47))
  have n1 := heap_alloc_new Y (.cells #[.int .i64 u2, .int .i64 s2] 47)
  have n2 := heap_alloc_new (Y.alloc (.cells #[.int .i64 u2, .int .i64 s2] 47)) (.cells #[.int .i64 u1, .int .i64 s1] 47)
  have s1' : (Y.alloc (.cells #[.int .i64 u2, .int .i64 s2] 47)).heap.size = Y.heap.size + 1 := by simp
  have n1' := ((belowA (Y.alloc (.cells #[.int .i64 u2, .int .i64 s2] 47)) (.cells #[.int .i64 u1, .int .i64 s1] 47)).block _ (lt_blk n1)).trans n1
  rw [s1'] at n2
  have C := hid (show Cpd w ((Y.alloc (.cells #[.int .i64 u2, .int .i64 s2] 47)).alloc (.cells #[.int .i64 u1, .int .i64 s1] 47)).drew (w.heap.size + 1) X.heap.size (Y.heap.size + 1) (Y.heap.size) #[.int .i64 kd, .string tx, .int .i64 nu, .slice (some ⟨b1, o1, none⟩) 2 kc] u1 s1 u2 s2 from
    Cpd.below (W := (Y.alloc (.cells #[.int .i64 u2, .int .i64 s2] 47)).alloc (.cells #[.int .i64 u1, .int .i64 s1] 47)) ⟨(b2'.block _ (lt_blk HR2.out)).trans HR2.out, (b2'.block _ (lt_blk HX2.out)).trans HX2.out, n2, n1', bchS HB3.out b2', Nat.le_succ _⟩ (Below.refl _ _).drew)
  have K := hid (show ((Y.alloc (.cells #[.int .i64 u2, .int .i64 s2] 47)).alloc (.cells #[.int .i64 u1, .int .i64 s1] 47)).drew.cell? ⟨b1, o1, none⟩ = some (.int .i64 (x : Int)) ∧ ((Y.alloc (.cells #[.int .i64 u2, .int .i64 s2] 47)).alloc (.cells #[.int .i64 u1, .int .i64 s1] 47)).drew.cell? ⟨b1, o1 + 1, none⟩ = some (.int .i64 (y : Int)) from ⟨(b2'.drew.cell (p := ⟨b1, o1, none⟩) HK.out.1).trans HK.out.2.1, (b2'.drew.cell (p := ⟨b1, o1 + 1, none⟩) HK.out.1).trans HK.out.2.2⟩)
  generalize ((Y.alloc (.cells #[.int .i64 u2, .int .i64 s2] 47)).alloc (.cells #[.int .i64 u1, .int .i64 s1] 47)).drew = W at *
  generalize X.heap.size = pb at *
  generalize Y.heap.size + 1 = ga at *
  generalize Y.heap.size = gb at *
  clear n1 n2 b1' b2' s1' n1'
  all_goals
    clear A1 A2 HB3 HX2 HR2 HB2 HX1 HX0 HX0' HB1 HB0 HS1 hpy hgy hby HK hb2 hb1 hbt
    generalize w.heap.size + 1 = rb at *
    rename_i K2 aK
    refine aK _ _ ?_
    rcases HO.out with ⟨rfl, hn1, ho⟩ | ⟨rfl, ho⟩
    · by_cases hu2 : u1 = 2
      · subst hu2
        rw [if_neg (show ¬ setO 2 = 0 by decide)] at ho
        exact cmp_62 w W t x y _ _ _ _ b1 o1 kc nu tx s1 u2 s2 o C.out K.out.1 K.out.2 hn1 (ho.trans (by simp))
      by_cases hu3 : u1 = 3
      · subst hu3
        rw [if_neg (show ¬ setO 3 = 0 by decide)] at ho
        exact cmp_63 w W t x y _ _ _ _ b1 o1 kc nu tx s1 u2 s2 o C.out K.out.1 K.out.2 (ho.trans (by simp))
      · rw [if_pos (show setO u1 = 0 by unfold setO; rw [if_neg hu2, if_neg hu3])] at ho
        exact cmp_el w W t x y _ _ _ _ b1 o1 kc 6 nu tx u1 s1 u2 s2 o C.out K.out.1 K.out.2 hu2 hu3 ho
    · by_cases hu2 : u1 = 2
      · subst hu2
        rw [if_neg (show ¬ setO 2 = 0 by decide)] at ho
        exact cmp_72 w W t x y _ _ _ _ b1 o1 kc nu tx s1 u2 s2 o C.out K.out.1 K.out.2 ho
      by_cases hu3 : u1 = 3
      · subst hu3
        rw [if_neg (show ¬ setO 3 = 0 by decide)] at ho
        exact cmp_73 w W t x y _ _ _ _ b1 o1 kc nu tx s1 u2 s2 o C.out K.out.1 K.out.2 ho
      · rw [if_pos (show setO u1 = 0 by unfold setO; rw [if_neg hu2, if_neg hu3])] at ho
        exact cmp_el w W t x y _ _ _ _ b1 o1 kc 7 nu tx u1 s1 u2 s2 o C.out K.out.1 K.out.2 hu2 hu3 ho
end Go.Proofs.YtiddnjjaidiohaaGreatDoor.L
namespace Go.Proofs.YtiddnjjaidiohaaGreatDoor.L
open Go.RowKit
set_option linter.unusedVariables false
/-- A fault of the rules: its number, and the place of a part. -/
def Cd (n : Nat) (e : Nat × Int) : Prop := 140 < e.1 ∧ e.1 < 149 ∧ 0 ≤ e.2 ∧ e.2 < n
theorem cd_of {n c : Nat} {a : Int} (h1 : 140 < c) (h2 : c < 149) (h3 : 0 ≤ a) (h4 : a < n) : Cd n (c, a) := ⟨h1, h2, h3, h4⟩
theorem stO_cd {si : Nat → Int} {ks : List Int} {t n : Nat} {e : Nat × Int} (ht : t < n) (h : stO si ks t = some e) : Cd n e := by
  unfold stO at h
  split at h
  · cases h; exact cd_of (by decide) (by decide) (by omega) (by omega)
  · cases h
theorem alO_cd {so : Nat → Int} {s0 : Int} {n : Nat} {e : Nat × Int} : ∀ {ks : List Int}, (∀ x, x ∈ ks → 0 ≤ x ∧ x < (n : Int)) → alO so s0 ks = some e → Cd n e
  | [], _, h => by cases h
  | x :: r, hk, h => by
    unfold alO at h
    split at h
    · exact alO_cd (fun y hy => hk y (List.mem_cons_of_mem _ hy)) h
    · cases h
      exact cd_of (by decide) (by decide) (hk x (List.mem_cons_self ..)).1 (hk x (List.mem_cons_self ..)).2
theorem brO_cd {T : List Pt} (hG : GdS T) {so si : Nat → Int} {t : Nat} {sc : Int} {e : Nat × Int} (ht : t < T.length) (h : brO T so si t sc = some e) : Cd T.length e := by
  have hk := hG.kid t ht
  have hs := hG.shp t ht
  unfold brO at h
  split at h
  · rename_i h6
    obtain ⟨x, y, hks⟩ := hs.1 (.inl h6)
    rw [hks] at h hk
    have hx := hk x (by simp)
    have hy := hk y (by simp)
    simp only [List.getD_cons_zero, List.getD_cons_succ, Int.toNat_natCast] at h
    unfold cmO at h
    split at h
    · cases h; exact cd_of (by decide) (by decide) (by omega) (by omega)
    split at h
    · cases h; exact cd_of (by decide) (by decide) (by omega) (by omega)
    split at h
    · cases h; exact cd_of (by decide) (by decide) (by omega) (by omega)
    exact stO_cd ht h
  split at h
  · rename_i h7
    obtain ⟨x, y, hks⟩ := hs.1 (.inr h7)
    rw [hks] at h hk
    have hx := hk x (by simp)
    have hy := hk y (by simp)
    simp only [List.getD_cons_zero, List.getD_cons_succ, Int.toNat_natCast] at h
    unfold mbO at h
    split at h
    · cases h; exact cd_of (by decide) (by decide) (by omega) (by omega)
    split at h
    · cases h; exact cd_of (by decide) (by decide) (by omega) (by omega)
    exact stO_cd ht h
  split at h
  · exact alO_cd (fun x hx => by have := hk x hx; omega) h
  split at h
  · rename_i h19
    obtain ⟨x, hks⟩ := hs.2 h19
    rw [hks] at h hk
    have hx := hk x (by simp)
    simp only [List.getD_cons_zero, Int.toNat_natCast] at h
    unfold rdO at h
    split at h
    · cases h
    · cases h; exact cd_of (by decide) (by decide) (by omega) (by omega)
  · unfold asO at h
    split at h
    · split at h
      · cases h; exact cd_of (by decide) (by decide) (by omega) (by omega)
      · cases h; exact cd_of (by decide) (by decide) (by omega) (by omega)
    split at h
    · cases h
    · cases h; exact cd_of (by decide) (by decide) (by omega) (by omega)
theorem fin_cd {T : List Pt} (hG : GdS T) {t : Nat} {sc : Int} {ty : Nat → Int × Int} {e : Nat × Int} (ht : t < T.length) (h : (fin T t sc ty).2 = some e) : Cd T.length e := by
  unfold fin at h
  split at h
  · rename_i e' he
    cases h
    exact brO_cd hG ht he
  · cases h
theorem ov_cd {T : List Pt} (hG : GdS T) : ∀ (f t : Nat) (sc : Int) (ty : Nat → Int × Int) (e : Nat × Int), t < T.length → (ov T f ty t sc).2 = some e → Cd T.length e := by
  intro f
  induction f with
  | zero => intro t sc ty e _ h; cases h
  | succ f ih =>
    intro t sc ty e ht h
    have hf : ∀ (ks : List Int) (acc : (Nat → Int × Int) × Option (Nat × Int)), (∀ x, x ∈ ks → 0 ≤ x ∧ x < (t : Int)) → (∀ e, acc.2 = some e → Cd T.length e) → ∀ e, (ks.foldl (stp T f (pt T t).kind sc) acc).2 = some e → Cd T.length e := by
      intro ks
      induction ks with
      | nil => intro acc _ ha; exact ha
      | cons x r ihk =>
        intro acc hk ha
        refine ihk _ (fun y hy => hk y (List.mem_cons_of_mem _ hy)) (fun e he => ?_)
        unfold stp at he
        split at he
        · rename_i e' h1
          exact ha e (h1.trans he)
        · have := hk x (List.mem_cons_self ..)
          exact ih _ _ _ e (by omega) he
    rw [ov_succ] at h
    unfold aft at h
    split at h
    · rename_i e' h1
      cases h
      exact hf _ _ (hG.kid t ht) (fun e he => by cases he) _ h1
    · exact fin_cd hG ht h
/-- Where there is no fault, the part's own type is set. -/
theorem ov_at {T : List Pt} {f t : Nat} {sc : Int} {ty : Nat → Int × Int} (h : (ov T (f + 1) ty t sc).2 = none) (hk : (pt T t).kind ≤ 10) : ((ov T (f + 1) ty t sc).1 t).1 = 1 := by
  rw [ov_succ] at h ⊢
  unfold aft at h ⊢
  split at h
  · cases h
  · unfold fin at h ⊢
    split at h
    · cases h
    · simp only [if_true]
      unfold srO
      rw [if_neg (by omega), if_neg (by omega), if_neg (by omega), if_neg (by omega)]
theorem ovS_cd {T : List Pt} {sc : Int} {c : Nat} {a : Int} (hr : Res T 0 0) (h : (ovS T sc).2 = some (c, a)) : 140 < c ∧ c < 149 ∧ 0 ≤ a ∧ a < T.length := by
  obtain ⟨h1, h2, h3, _⟩ := res_ok hr
  exact ov_cd (gds_of h3 h2) _ _ _ _ (c, a) (by omega) h
theorem ovS_root {T : List Pt} {sc : Int} (hr : Res T 0 0) (h : (ovS T sc).2 = none) : ((ovS T sc).1 (T.length - 1)).1 = 1 := by
  obtain ⟨h1, h2, h3, h4, _⟩ := res_ok hr
  unfold ovS at h ⊢
  obtain ⟨n, hn⟩ : ∃ n, T.length = n + 1 := ⟨T.length - 1, by omega⟩
  rw [hn] at h ⊢
  refine ov_at h ?_
  have : 1 ≤ (pt T (T.length - 1)).kind ∧ (pt T (T.length - 1)).kind ≤ 10 := Classical.byContradiction fun h => h4 (Or.inl h)
  rw [hn] at this
  exact this.2
theorem res_small {T : List Pt} (hr : Res T 0 0) : sumK T T.length ≤ 2000 := by
  obtain ⟨h1, h2, h3, _⟩ := res_ok hr
  have := sum_kids T.length h3
  omega
end Go.Proofs.YtiddnjjaidiohaaGreatDoor.L
namespace Go.Proofs.YtiddnjjaidiohaaGreatDoor.L
open Go.RowKit
set_option linter.unusedVariables false
/-- The parts s stand one behind the other from a on, ahead of b, each with all that stands in it. -/
inductive Cov (T : List Pt) : Nat → List Int → Nat → Prop
  | nil (a : Nat) : Cov T a [] a
  | cons (a t : Nat) (r : List Int) (b : Nat) : Cov T a (pt T t).kids t → Cov T (t + 1) r b → Cov T a ((t : Int) :: r) b
theorem Cov.le {T : List Pt} {a b : Nat} {s : List Int} (h : Cov T a s b) : a ≤ b := by
  induction h with
  | nil => exact Nat.le_refl _
  | cons a t r b _ _ h1 h2 => omega
theorem Cov.app {T : List Pt} {a b c : Nat} {s s' : List Int} (h : Cov T a s b) (h' : Cov T b s' c) : Cov T a (s ++ s') c := by
  induction h with
  | nil => exact h'
  | cons a t r b h1 _ _ ih => exact .cons a t _ c h1 (ih h')
theorem Cov.split {T : List Pt} {s' : List Int} {c : Nat} : ∀ {s : List Int} {a : Nat}, Cov T a (s ++ s') c → ∃ b, Cov T a s b ∧ Cov T b s' c
  | [], a, h => ⟨a, .nil a, h⟩
  | x :: r, a, h => by
    cases h with
    | cons _ t _ _ h1 h2 =>
      obtain ⟨b, h3, h4⟩ := Cov.split h2
      exact ⟨b, .cons a t r b h1 h3, h4⟩
theorem cov_fre {T : List Pt} : ∀ i, (∀ j, j < i → OkA T j) → Cov T 0 (fre T i) i
  | 0, _ => .nil 0
  | i + 1, hok => by
    have h := cov_fre i (fun j hj => hok j (by omega))
    have hO := hok i (by omega)
    rw [← List.take_append_drop ((fre T i).length - (pt T i).kids.length) (fre T i), ← hO.kids] at h
    obtain ⟨b, h1, h2⟩ := h.split
    rw [fre]
    exact h1.app (.cons b i [] (i + 1) h2 (.nil _))
/-- All that stands in the first n parts, from a on: part by part. -/
def lin (T : List Pt) (sp : Nat → Int) : Nat → Nat → (Nat → Int × Int) → (Nat → Int × Int) × Option (Nat × Int)
  | 0, _, ty => (ty, none)
  | k + 1, a, ty => match (fin T a (sp a) ty).2 with
    | some e => ((fin T a (sp a) ty).1, some e)
    | none => lin T sp k (a + 1) (fin T a (sp a) ty).1
/-- One thing, and then the next if there is no fault. -/
def thn (r : (Nat → Int × Int) × Option (Nat × Int)) (g : (Nat → Int × Int) → (Nat → Int × Int) × Option (Nat × Int)) : (Nat → Int × Int) × Option (Nat × Int) := match r.2 with
  | some e => (r.1, some e)
  | none => g r.1
theorem thn_some {r : (Nat → Int × Int) × Option (Nat × Int)} {e : Nat × Int} (h : r.2 = some e) (g : (Nat → Int × Int) → (Nat → Int × Int) × Option (Nat × Int)) : thn r g = r := by
  unfold thn
  rw [h]
  exact Prod.ext rfl h.symm
theorem thn_none {r : (Nat → Int × Int) × Option (Nat × Int)} (h : r.2 = none) (g : (Nat → Int × Int) → (Nat → Int × Int) × Option (Nat × Int)) : thn r g = g r.1 := by
  unfold thn
  rw [h]
theorem lin_succ (T : List Pt) (sp : Nat → Int) (k a : Nat) (ty : Nat → Int × Int) : lin T sp (k + 1) a ty = thn (fin T a (sp a) ty) (lin T sp k (a + 1)) := by
  cases h : (fin T a (sp a) ty).2 with
  | some e => rw [thn_some h]; simp only [lin, h]; exact Prod.ext rfl h.symm
  | none => rw [thn_none h]; simp only [lin, h]
theorem lin_add (T : List Pt) (sp : Nat → Int) : ∀ (k m a : Nat) (ty : Nat → Int × Int), lin T sp (k + m) a ty = thn (lin T sp k a ty) (lin T sp m (a + k))
  | 0, m, a, ty => by rw [thn_none rfl]; simp [lin]
  | k + 1, m, a, ty => by
    have e : k + 1 + m = (k + m) + 1 := by omega
    rw [e, lin_succ, lin_succ]
    cases h : (fin T a (sp a) ty).2 with
    | some e => rw [thn_some h, thn_some h, thn_some h]
    | none =>
      rw [thn_none h, thn_none h, lin_add T sp k m (a + 1)]
      have e2 : a + 1 + k = a + (k + 1) := by omega
      rw [e2]
theorem lin_one (T : List Pt) (sp : Nat → Int) (a : Nat) (ty : Nat → Int × Int) : lin T sp 1 a ty = fin T a (sp a) ty := by
  rw [lin_succ]
  cases h : (fin T a (sp a) ty).2 with
  | some e => exact thn_some h _
  | none => rw [thn_none h]; exact Prod.ext rfl h.symm
theorem aft_thn (T : List Pt) (t : Nat) (sc : Int) (r : (Nat → Int × Int) × Option (Nat × Int)) : aft T t sc r = thn r (fin T t sc) := by
  cases h : r.2 with
  | some e => rw [thn_some h]; unfold aft; rw [h]; exact Prod.ext rfl h.symm
  | none => rw [thn_none h]; unfold aft; rw [h]
/-- Which scopes fit. -/
structure Scp (T : List Pt) (sc : Int) (sp : Nat → Int) : Prop where
  root : sp (T.length - 1) = sc
  kid : ∀ i, i < T.length → ∀ x : Nat, (x : Int) ∈ (pt T i).kids → sp x = scpO (pt T i).kind (sp i)
theorem ov_cov {T : List Pt} {sp : Nat → Int} (hs : ∀ i, i < T.length → ∀ x : Nat, (x : Int) ∈ (pt T i).kids → sp x = scpO (pt T i).kind (sp i)) {a b : Nat} {s : List Int} (h : Cov T a s b) :
    ∀ (f : Nat) (kd sc : Int) (ty : Nat → Int × Int), b ≤ T.length → b ≤ f → (∀ x : Nat, (x : Int) ∈ s → sp x = scpO kd sc) → s.foldl (stp T f kd sc) (ty, none) = lin T sp (b - a) a ty := by
  induction h with
  | nil a => intro f kd sc ty _ _ _; simp [lin]
  | cons a t r b h1 h2 ih1 ih2 =>
    intro f kd sc ty hb hf hx
    have l1 := h1.le
    have l2 := h2.le
    obtain ⟨f', rfl⟩ : ∃ f', f = f' + 1 := ⟨f - 1, by omega⟩
    have e1 : b - a = (t - a + 1) + (b - (t + 1)) := by omega
    have hst : sp t = scpO kd sc := hx t (by simp)
    have e2 : ov T (f' + 1) ty t (scpO kd sc) = lin T sp (t - a + 1) a ty := by
      rw [ov_succ, ih1 f' (pt T t).kind (scpO kd sc) ty (by omega) (by omega) (fun x hxk => by rw [hs t (by omega) x hxk, hst]), aft_thn, lin_add]
      have e3 : a + (t - a) = t := by omega
      rw [e3, ← hst]
      cases hL : (lin T sp (t - a) a ty).2 with
      | some e => rw [thn_some hL, thn_some hL]
      | none => rw [thn_none hL, thn_none hL, lin_one]
    rw [List.foldl_cons]
    have e4 : stp T (f' + 1) kd sc (ty, none) (t : Int) = ov T (f' + 1) ty t (scpO kd sc) := rfl
    rw [e4, e2, e1, lin_add T sp (t - a + 1) (b - (t + 1))]
    have e5 : a + (t - a + 1) = t + 1 := by omega
    rw [e5]
    cases hL : (lin T sp (t - a + 1) a ty).2 with
    | some e =>
      rw [thn_some hL]
      have : lin T sp (t - a + 1) a ty = ((lin T sp (t - a + 1) a ty).1, some e) := Prod.ext rfl hL
      rw [this, stp_some]
    | none =>
      rw [thn_none hL]
      have : lin T sp (t - a + 1) a ty = ((lin T sp (t - a + 1) a ty).1, none) := Prod.ext rfl hL
      rw [this]
      exact ih2 (f' + 1) kd sc _ hb hf (fun x hxr => hx x (by simp [hxr]))
theorem fre_lone {T : List Pt} (h1 : 1 ≤ T.length) (hl : ¬ Lst T) : fre T T.length = [((T.length - 1 : Nat) : Int)] := by
  obtain ⟨n, hn⟩ : ∃ n, T.length = n + 1 := ⟨T.length - 1, by omega⟩
  have h2 : ¬ 1 < (fre T T.length).length := fun h => hl (Or.inr h)
  rw [hn] at h2 ⊢
  rw [fre] at h2 ⊢
  rw [List.length_append] at h2
  simp only [List.length_cons, List.length_nil] at h2
  have : ((fre T n).take ((fre T n).length - (pt T n).kids.length)) = [] := List.length_eq_zero_iff.1 (by omega)
  rw [this]
  rfl
/-- A tree that layer 13 takes: part by part. -/
theorem ov_lin {T : List Pt} {sc : Int} {sp : Nat → Int} (hr : Res T 0 0) (hs : Scp T sc sp) : ovS T sc = lin T sp T.length 0 (fun _ => (0, 0)) := by
  obtain ⟨h1, h2, h3, h4, _⟩ := res_ok hr
  have hc := cov_fre T.length h3
  rw [fre_lone h1 h4] at hc
  have h := ov_cov hs.kid hc T.length 0 sc (fun _ => (0, 0)) (Nat.le_refl _) (Nat.le_refl _) (fun x hx => by
    have h0 : (x : Int) = ((T.length - 1 : Nat) : Int) := by simpa using hx
    have : x = T.length - 1 := by omega
    rw [this, hs.root]
    simp [scpO, selB])
  rw [Nat.sub_zero] at h
  rw [← h]
  show _ = stp T T.length 0 sc (fun _ => (0, 0), none) ((T.length - 1 : Nat) : Int)
  unfold stp ovS
  simp only [Int.toNat_natCast]
  have : scpO 0 sc = sc := by simp [scpO, selB]
  rw [this]
end Go.Proofs.YtiddnjjaidiohaaGreatDoor.L
