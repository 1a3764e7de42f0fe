import Derived.Test.YtkagdmhijjfnnaaDoorMgBI
namespace Go.Proofs.YtkagdmhijjfnnaaDoor
open Go.RowKit Bs
set_option linter.unusedVariables false
set_option maxRecDepth 100000 in
set_option maxHeartbeats 16000000 in
theorem reg194 (Y : World) (va vb : Value) (rb rc n n2 la lc cb cc : Nat) (ab ac : Option Addr) (bs bm : Bool) {t0 t1 t2 t3 t4 t9 t10 t11 t12 t13 t14 t15 t16 t17 t18 t19 t20 t21 t22 t23 t24 t25 t26 t27 t28 t29 t30 t31 t32 t33 t34 t35 t36 t37 t38 t39 t40 t41 t42 t43 t44 t45 t46 t47 t48 t49 t50 t51 t52 t53 t54 t55 t56 t57 t58 t59 t60 t61 t62 t63 t64 t65 t66 t67 t68 t69 t70 t71 t72 t73 t74 t75 t76 t77 t78 t79 t80 t81 t82 t83 t84 t85 t86 t87 t88 t89 t90 t91 t92 t93 t94 t95 t96 t97 t98 t99 t100 t101 t102 t103 t104 t105 t106 t107 t108 t109 t110 t111 t112 t113 t114 t115 t116 t117 t118 t119 t120 t121 t122 t123 t124 t125 t126 t127 t128 t129 t130 t131 t132 t133 t134 t135 t136 t137 t138 t139 t140 t141 t142 t143 t144 t145 t146 t147 t148 t149 t150 t151 t152 t153 t154 t155 t156 t157 t158 t159 : Value}
    (s0 : Y.cell? ⟨rb, 0, none⟩ = some (.int .i64 (n : Int))) (s1 : Y.cell? ⟨rb, 1, none⟩ = some (.slice ab la cb)) (u0 : Y.cell? ⟨rc, 0, none⟩ = some (.int .i64 (n2 : Int))) (u1 : Y.cell? ⟨rc, 1, none⟩ = some (.slice ac lc cc)) (rbl : rb < Y.heap.size) (rcl : rc < Y.heap.size)
    (HS : ∀ V, Below Y.heap.size Y V → Calls Tryd.prog 24 #[va, vb] V fun e w' => e = .returned (.bool bs) ∧ w' = V)
    (HR : ∀ V, Below Y.heap.size Y V → Calls Tryd.prog 91 #[.agg #[.int .i64 (n : Int), .slice ab la cb], .agg #[.int .i64 (n2 : Int), .slice ac lc cc]] V fun e w' => e = .returned (.bool bs) ∧ Below V.heap.size V w')
    (HM : ∀ V, Below Y.heap.size Y V → Calls Tryd.prog 22 #[va, vb] V fun e w' => e = .returned (.bool bm) ∧ Below V.heap.size V w')
    (HN : ∀ V, Below Y.heap.size Y V → Calls Tryd.prog 92 #[.agg #[.int .i64 (n : Int), .slice ab la cb], .agg #[.int .i64 (n2 : Int), .slice ac lc cc]] V fun e w' => e = .returned (.bool bm) ∧ Below V.heap.size V w') :
    (Code.region 22 #[{ dst := some 137, op := Op.move (Operand.tmp 5), type := 26, pos := "law.go:194", after := #[], guard := none }, { dst := some 138, op := Op.move (Operand.tmp 7), type := 26, pos := "law.go:194", after := #[], guard := none }, { dst := some 139, op := Op.call { callee := Callee.value (Operand.func 24), args := #[Operand.tmp 137, Operand.tmp 138], argTypes := #[26, 26] }, type := 4, pos := "law.go:194", after := #[{ on := 0, ground := Ground.data }, { on := 1, ground := Ground.data }], guard := none }, { dst := some 140, op := Op.load 30 (Operand.tmp 6), type := 30, pos := "law.go:194", after := #[], guard := none }, { dst := some 141, op := Op.load 30 (Operand.tmp 8), type := 30, pos := "law.go:194", after := #[], guard := none }, { dst := some 142, op := Op.call { callee := Callee.value (Operand.func 91), args := #[Operand.tmp 140, Operand.tmp 141], argTypes := #[30, 30] }, type := 4, pos := "law.go:194", after := #[{ on := 3, ground := Ground.data }, { on := 4, ground := Ground.data }, { on := 2, ground := Ground.chain }], guard := none }, { dst := some 143, op := Op.binOp BinOp.neq 4 (Operand.tmp 139) (Operand.tmp 142) 4, type := 4, pos := "law.go:194", after := #[{ on := 2, ground := Ground.data }, { on := 5, ground := Ground.data }], guard := none }, { dst := some 144, op := Op.move (Operand.tmp 143), type := 4, pos := "law.go:194", after := #[{ on := 6, ground := Ground.data }, { on := 5, ground := Ground.chain }], guard := none }, { dst := some 145, op := Op.move (Operand.tmp 5), type := 26, pos := "law.go:194", after := #[{ on := 7, ground := Ground.guard }], guard := some (7, false) }, { dst := some 146, op := Op.move (Operand.tmp 7), type := 26, pos := "law.go:194", after := #[{ on := 7, ground := Ground.guard }], guard := some (7, false) }, { dst := some 147, op := Op.call { callee := Callee.value (Operand.func 22), args := #[Operand.tmp 145, Operand.tmp 146], argTypes := #[26, 26] }, type := 4, pos := "law.go:194", after := #[{ on := 8, ground := Ground.data }, { on := 9, ground := Ground.data }, { on := 7, ground := Ground.chain }, { on := 7, ground := Ground.guard }], guard := some (7, false) }, { dst := some 148, op := Op.load 30 (Operand.tmp 6), type := 30, pos := "law.go:194", after := #[{ on := 7, ground := Ground.guard }], guard := some (7, false) }, { dst := some 149, op := Op.load 30 (Operand.tmp 8), type := 30, pos := "law.go:194", after := #[{ on := 7, ground := Ground.guard }], guard := some (7, false) }, { dst := some 150, op := Op.call { callee := Callee.value (Operand.func 92), args := #[Operand.tmp 148, Operand.tmp 149], argTypes := #[30, 30] }, type := 4, pos := "law.go:194", after := #[{ on := 11, ground := Ground.data }, { on := 12, ground := Ground.data }, { on := 10, ground := Ground.chain }, { on := 7, ground := Ground.guard }], guard := some (7, false) }, { dst := some 151, op := Op.binOp BinOp.neq 4 (Operand.tmp 147) (Operand.tmp 150) 4, type := 4, pos := "law.go:194", after := #[{ on := 10, ground := Ground.data }, { on := 13, ground := Ground.data }, { on := 7, ground := Ground.guard }], guard := some (7, false) }, { dst := some 152, op := Op.pick (Operand.tmp 144) (Operand.const (Value.bool true)) (Operand.tmp 151), type := 4, pos := "law.go:194", after := #[{ on := 7, ground := Ground.data }, { on := 14, ground := Ground.data }], guard := none }] true).wp Tryd.prog (fun e a' W' => e = .normal ∧ (∃ u137 u138 u139 u140 u141 u142 u143 u144 u145 u146 u147 u148 u149 u150 u151, a' = { tmps := #[t0, t1, t2, t3, t4, va, .pointer (some ⟨rb, 0, none⟩), vb, .pointer (some ⟨rc, 0, none⟩), t9, t10, t11, t12, t13, t14, t15, t16, t17, t18, t19, t20, t21, t22, t23, t24, t25, t26, t27, t28, t29, t30, t31, t32, t33, t34, t35, t36, t37, t38, t39, t40, t41, t42, t43, t44, t45, t46, t47, t48, t49, t50, t51, t52, t53, t54, t55, t56, t57, t58, t59, t60, t61, t62, t63, t64, t65, t66, t67, t68, t69, t70, t71, t72, t73, t74, t75, t76, t77, t78, t79, t80, t81, t82, t83, t84, t85, t86, t87, t88, t89, t90, t91, t92, t93, t94, t95, t96, t97, t98, t99, t100, t101, t102, t103, t104, t105, t106, t107, t108, t109, t110, t111, t112, t113, t114, t115, t116, t117, t118, t119, t120, t121, t122, t123, t124, t125, t126, t127, t128, t129, t130, t131, t132, t133, t134, t135, t136, u137, u138, u139, u140, u141, u142, u143, u144, u145, u146, u147, u148, u149, u150, u151, .bool false, t153, t154, t155, t156, t157, t158, t159], defers := [] }) ∧ Below Y.heap.size Y W') { tmps := #[t0, t1, t2, t3, t4, va, .pointer (some ⟨rb, 0, none⟩), vb, .pointer (some ⟨rc, 0, none⟩), t9, t10, t11, t12, t13, t14, t15, t16, t17, t18, t19, t20, t21, t22, t23, t24, t25, t26, t27, t28, t29, t30, t31, t32, t33, t34, t35, t36, t37, t38, t39, t40, t41, t42, t43, t44, t45, t46, t47, t48, t49, t50, t51, t52, t53, t54, t55, t56, t57, t58, t59, t60, t61, t62, t63, t64, t65, t66, t67, t68, t69, t70, t71, t72, t73, t74, t75, t76, t77, t78, t79, t80, t81, t82, t83, t84, t85, t86, t87, t88, t89, t90, t91, t92, t93, t94, t95, t96, t97, t98, t99, t100, t101, t102, t103, t104, t105, t106, t107, t108, t109, t110, t111, t112, t113, t114, t115, t116, t117, t118, t119, t120, t121, t122, t123, t124, t125, t126, t127, t128, t129, t130, t131, t132, t133, t134, t135, t136, t137, t138, t139, t140, t141, t142, t143, t144, t145, t146, t147, t148, t149, t150, t151, t152, t153, t154, t155, t156, t157, t158, t159], defers := [] } Y := by
  have S1 := hid HS
  have S2 := hid HR
  have S3 := hid HM
  have S4 := hid HN
  clear HS HR HM HN
  refine wp_region_held_drew (S := (fun Y => Y.cell? ⟨rb, 0, none⟩ = some (.int .i64 (n : Int)) ∧ Y.cell? ⟨rb, 1, none⟩ = some (.slice ab la cb) ∧ Y.cell? ⟨rc, 0, none⟩ = some (.int .i64 (n2 : Int)) ∧ Y.cell? ⟨rc, 1, none⟩ = some (.slice ac lc cc))) (by kernel_rfl) ⟨s0, s1, u0, u1⟩ (fun hHeld => ?_)
  refine wpAnyH_take (i := 0) (oi := { dst := some 137, op := Op.move (Operand.tmp 5), type := 26, pos := "law.go:194", after := #[], guard := none }) (v := ?_) rfl (by kernel_rfl) (by kernel_rfl) (by kernel_rfl) (fun _ _ _ h => by cases h.1) (Or.inl ⟨by rfl, ?_⟩) (by assumption) ?_
  rotate_left
  · (intro w hSw; (try dsimp only at hSw); go_simp; try with_reducible rfl)
  try simp only [Act.put, List.setIfInBounds_toArray, List.set_cons_zero, List.set_cons_succ]
  refine wpAnyH_take (i := 1) (oi := { dst := some 138, op := Op.move (Operand.tmp 7), type := 26, pos := "law.go:194", after := #[], guard := none }) (v := ?_) rfl (by kernel_rfl) (by kernel_rfl) (by kernel_rfl) (fun _ _ _ h => by cases h.1) (Or.inl ⟨by rfl, ?_⟩) (by assumption) ?_
  rotate_left
  · (intro w hSw; (try dsimp only at hSw); go_simp; try with_reducible rfl)
  try simp only [Act.put, List.setIfInBounds_toArray, List.set_cons_zero, List.set_cons_succ]
  refine wpAnyH_take (i := 3) (oi := { dst := some 140, op := Op.load 30 (Operand.tmp 6), type := 30, pos := "law.go:194", after := #[], guard := none }) (v := ?_) rfl (by kernel_rfl) (by kernel_rfl) (by kernel_rfl) (fun _ _ _ h => by cases h.1) (Or.inl ⟨by rfl, ?_⟩) (by assumption) ?_
  rotate_left
  · (intro w hSw; (try dsimp only at hSw); go_simp; try with_reducible rfl)
  try simp only [Act.put, List.setIfInBounds_toArray, List.set_cons_zero, List.set_cons_succ]
  refine wpAnyH_take (i := 4) (oi := { dst := some 141, op := Op.load 30 (Operand.tmp 8), type := 30, pos := "law.go:194", after := #[], guard := none }) (v := ?_) rfl (by kernel_rfl) (by kernel_rfl) (by kernel_rfl) (fun _ _ _ h => by cases h.1) (Or.inl ⟨by rfl, ?_⟩) (by assumption) ?_
  rotate_left
  · (intro w hSw; (try dsimp only at hSw); go_simp; try with_reducible rfl)
  try simp only [Act.put, List.setIfInBounds_toArray, List.set_cons_zero, List.set_cons_succ]
  refine wpAnyH_ready (rs := [2]) (by kernel_rfl) (by simp) ?_
  refine AllReadyH.cons (o := { dst := some 139, op := Op.call { callee := Callee.value (Operand.func 24), args := #[Operand.tmp 137, Operand.tmp 138], argTypes := #[26, 26] }, type := 4, pos := "law.go:194", after := #[{ on := 0, ground := Ground.data }, { on := 1, ground := Ground.data }], guard := none }) rfl (fun K hK => ?_) AllReadyH.nil
  go_simp
  refine (S1.out _ (belowDr Y)).mono ?_
  rintro e w2 ⟨rfl, hww⟩
  have L2 := hid (show Below Y.heap.size Y w2 from by rw [hww]; exact belowDr Y)
  have T2 := And.intro ((L2.out.cell (p := ⟨rb, 0, none⟩) rbl).trans s0) (And.intro ((L2.out.cell (p := ⟨rb, 1, none⟩) rbl).trans s1) (And.intro ((L2.out.cell (p := ⟨rc, 0, none⟩) rcl).trans u0) ((L2.out.cell (p := ⟨rc, 1, none⟩) rcl).trans u1)))
  clear hww hHeld
  go_wp2_with fail
  refine hK.out _ _ T2 (fun hHeld => ?_)
  clear hK K
  try simp only [Act.put, List.setIfInBounds_toArray, List.set_cons_zero, List.set_cons_succ]
  refine wpAnyH_ready (rs := [5]) (by kernel_rfl) (by simp) ?_
  refine AllReadyH.cons (o := { dst := some 142, op := Op.call { callee := Callee.value (Operand.func 91), args := #[Operand.tmp 140, Operand.tmp 141], argTypes := #[30, 30] }, type := 4, pos := "law.go:194", after := #[{ on := 3, ground := Ground.data }, { on := 4, ground := Ground.data }, { on := 2, ground := Ground.chain }], guard := none }) rfl (fun K hK => ?_) AllReadyH.nil
  go_simp
  refine (S2.out _ L2.out).mono ?_
  rintro e w3 ⟨rfl, hb3⟩
  have L3 := hid (belowT L2.out hb3)
  have T3 := And.intro ((L3.out.cell (p := ⟨rb, 0, none⟩) rbl).trans s0) (And.intro ((L3.out.cell (p := ⟨rb, 1, none⟩) rbl).trans s1) (And.intro ((L3.out.cell (p := ⟨rc, 0, none⟩) rcl).trans u0) ((L3.out.cell (p := ⟨rc, 1, none⟩) rcl).trans u1)))
  clear hb3 hHeld
  go_wp2_with fail
  refine hK.out _ _ T3 (fun hHeld => ?_)
  clear hK K
  try simp only [Act.put, List.setIfInBounds_toArray, List.set_cons_zero, List.set_cons_succ]
  refine wpAnyH_take (i := 6) (oi := { dst := some 143, op := Op.binOp BinOp.neq 4 (Operand.tmp 139) (Operand.tmp 142) 4, type := 4, pos := "law.go:194", after := #[{ on := 2, ground := Ground.data }, { on := 5, ground := Ground.data }], guard := none }) (v := ?_) rfl (by kernel_rfl) (by kernel_rfl) (by kernel_rfl) (fun _ _ _ h => by cases h.1) (Or.inl ⟨by rfl, ?_⟩) (by assumption) ?_
  rotate_left
  · (intro w hSw; (try dsimp only at hSw); go_simp; try with_reducible rfl)
  try simp only [Act.put, List.setIfInBounds_toArray, List.set_cons_zero, List.set_cons_succ]
  refine wpAnyH_take (i := 7) (oi := { dst := some 144, op := Op.move (Operand.tmp 143), type := 4, pos := "law.go:194", after := #[{ on := 6, ground := Ground.data }, { on := 5, ground := Ground.chain }], guard := none }) (v := ?_) rfl (by kernel_rfl) (by kernel_rfl) (by kernel_rfl) (fun _ _ _ h => by cases h.1) (Or.inl ⟨by rfl, ?_⟩) (by assumption) ?_
  rotate_left
  · (intro w hSw; (try dsimp only at hSw); go_simp; try with_reducible rfl)
  try simp only [Act.put, List.setIfInBounds_toArray, List.set_cons_zero, List.set_cons_succ]
  refine wpAnyH_take (i := 8) (oi := { dst := some 145, op := Op.move (Operand.tmp 5), type := 26, pos := "law.go:194", after := #[{ on := 7, ground := Ground.guard }], guard := some (7, false) }) (v := ?_) rfl (by kernel_rfl) (by kernel_rfl) (by kernel_rfl) (fun _ _ _ h => by cases h.1) (Or.inl ⟨by rfl, ?_⟩) (by assumption) ?_
  rotate_left
  · (intro w hSw; (try dsimp only at hSw); go_simp; try with_reducible rfl)
  try simp only [Act.put, List.setIfInBounds_toArray, List.set_cons_zero, List.set_cons_succ]
  refine wpAnyH_take (i := 9) (oi := { dst := some 146, op := Op.move (Operand.tmp 7), type := 26, pos := "law.go:194", after := #[{ on := 7, ground := Ground.guard }], guard := some (7, false) }) (v := ?_) rfl (by kernel_rfl) (by kernel_rfl) (by kernel_rfl) (fun _ _ _ h => by cases h.1) (Or.inl ⟨by rfl, ?_⟩) (by assumption) ?_
  rotate_left
  · (intro w hSw; (try dsimp only at hSw); go_simp; try with_reducible rfl)
  try simp only [Act.put, List.setIfInBounds_toArray, List.set_cons_zero, List.set_cons_succ]
  refine wpAnyH_take (i := 11) (oi := { dst := some 148, op := Op.load 30 (Operand.tmp 6), type := 30, pos := "law.go:194", after := #[{ on := 7, ground := Ground.guard }], guard := some (7, false) }) (v := ?_) rfl (by kernel_rfl) (by kernel_rfl) (by kernel_rfl) (fun _ _ _ h => by cases h.1) (Or.inl ⟨by rfl, ?_⟩) (by assumption) ?_
  rotate_left
  · (intro w hSw; (try dsimp only at hSw); go_simp; try with_reducible rfl)
  try simp only [Act.put, List.setIfInBounds_toArray, List.set_cons_zero, List.set_cons_succ]
  refine wpAnyH_take (i := 12) (oi := { dst := some 149, op := Op.load 30 (Operand.tmp 8), type := 30, pos := "law.go:194", after := #[{ on := 7, ground := Ground.guard }], guard := some (7, false) }) (v := ?_) rfl (by kernel_rfl) (by kernel_rfl) (by kernel_rfl) (fun _ _ _ h => by cases h.1) (Or.inl ⟨by rfl, ?_⟩) (by assumption) ?_
  rotate_left
  · (intro w hSw; (try dsimp only at hSw); go_simp; try with_reducible rfl)
  try simp only [Act.put, List.setIfInBounds_toArray, List.set_cons_zero, List.set_cons_succ]
  refine wpAnyH_ready (rs := [10]) (by kernel_rfl) (by simp) ?_
  refine AllReadyH.cons (o := { dst := some 147, op := Op.call { callee := Callee.value (Operand.func 22), args := #[Operand.tmp 145, Operand.tmp 146], argTypes := #[26, 26] }, type := 4, pos := "law.go:194", after := #[{ on := 8, ground := Ground.data }, { on := 9, ground := Ground.data }, { on := 7, ground := Ground.chain }, { on := 7, ground := Ground.guard }], guard := some (7, false) }) rfl (fun K hK => ?_) AllReadyH.nil
  go_simp
  refine (S3.out _ L3.out).mono ?_
  rintro e w4 ⟨rfl, hb4⟩
  have L4 := hid (belowT L3.out hb4)
  have T4 := And.intro ((L4.out.cell (p := ⟨rb, 0, none⟩) rbl).trans s0) (And.intro ((L4.out.cell (p := ⟨rb, 1, none⟩) rbl).trans s1) (And.intro ((L4.out.cell (p := ⟨rc, 0, none⟩) rcl).trans u0) ((L4.out.cell (p := ⟨rc, 1, none⟩) rcl).trans u1)))
  clear hb4 hHeld
  go_wp2_with fail
  refine hK.out _ _ T4 (fun hHeld => ?_)
  clear hK K
  try simp only [Act.put, List.setIfInBounds_toArray, List.set_cons_zero, List.set_cons_succ]
  refine wpAnyH_ready (rs := [13]) (by kernel_rfl) (by simp) ?_
  refine AllReadyH.cons (o := { dst := some 150, op := Op.call { callee := Callee.value (Operand.func 92), args := #[Operand.tmp 148, Operand.tmp 149], argTypes := #[30, 30] }, type := 4, pos := "law.go:194", after := #[{ on := 11, ground := Ground.data }, { on := 12, ground := Ground.data }, { on := 10, ground := Ground.chain }, { on := 7, ground := Ground.guard }], guard := some (7, false) }) rfl (fun K hK => ?_) AllReadyH.nil
  go_simp
  refine (S4.out _ L4.out).mono ?_
  rintro e w5 ⟨rfl, hb5⟩
  have L5 := hid (belowT L4.out hb5)
  have T5 := And.intro ((L5.out.cell (p := ⟨rb, 0, none⟩) rbl).trans s0) (And.intro ((L5.out.cell (p := ⟨rb, 1, none⟩) rbl).trans s1) (And.intro ((L5.out.cell (p := ⟨rc, 0, none⟩) rcl).trans u0) ((L5.out.cell (p := ⟨rc, 1, none⟩) rcl).trans u1)))
  clear hb5 hHeld
  go_wp2_with fail
  refine hK.out _ _ T5 (fun hHeld => ?_)
  clear hK K
  try simp only [Act.put, List.setIfInBounds_toArray, List.set_cons_zero, List.set_cons_succ]
  refine wpAnyH_take (i := 14) (oi := { dst := some 151, op := Op.binOp BinOp.neq 4 (Operand.tmp 147) (Operand.tmp 150) 4, type := 4, pos := "law.go:194", after := #[{ on := 10, ground := Ground.data }, { on := 13, ground := Ground.data }, { on := 7, ground := Ground.guard }], guard := some (7, false) }) (v := ?_) rfl (by kernel_rfl) (by kernel_rfl) (by kernel_rfl) (fun _ _ _ h => by cases h.1) (Or.inl ⟨by rfl, ?_⟩) (by assumption) ?_
  rotate_left
  · (intro w hSw; (try dsimp only at hSw); go_simp; try with_reducible rfl)
  try simp only [Act.put, List.setIfInBounds_toArray, List.set_cons_zero, List.set_cons_succ]
  refine wpAnyH_take (i := 15) (oi := { dst := some 152, op := Op.pick (Operand.tmp 144) (Operand.const (Value.bool true)) (Operand.tmp 151), type := 4, pos := "law.go:194", after := #[{ on := 7, ground := Ground.data }, { on := 14, ground := Ground.data }], guard := none }) (v := ?_) rfl (by kernel_rfl) (by kernel_rfl) (by kernel_rfl) (fun _ _ _ h => by cases h.1) (Or.inl ⟨by rfl, ?_⟩) (by assumption) ?_
  rotate_left
  · (intro w hSw; (try dsimp only at hSw); go_simp; try with_reducible rfl)
  try simp only [Act.put, List.setIfInBounds_toArray, List.set_cons_zero, List.set_cons_succ]
  refine wpAnyH_done (by kernel_rfl) ?_ _
  exact ⟨rfl, ⟨_, _, _, _, _, _, _, _, _, _, _, _, _, _, _, rfl⟩, L5.out⟩
end Go.Proofs.YtkagdmhijjfnnaaDoor
