import Derived.Test.YtkagdmhijjfnnaaDoorMgBI
import Derived.Test.YtkagdmhijjfnnaaDoorPiR
import Derived.Test.YtkagdmhijjfnnaaDoorMgAO
import Derived.Test.YtkagdmhijjfnnaaDoorMgBH
import Derived.Test.YtkagdmhijjfnnaaDoorMgBJ
import Derived.Test.YtkagdmhijjfnnaaDoorMgBK
import Derived.Test.YtkagdmhijjfnnaaDoorMgBL
namespace Go.Proofs.YtkagdmhijjfnnaaDoor
open Go.RowKit Bs
set_option linter.unusedVariables false
set_option maxRecDepth 100000 in
set_option maxHeartbeats 16000000 in
theorem reg197 (Y : World) (va vb : Value) (rb rc n n2 la lc cb cc : Nat) (ab ac : Option Addr) (be : Bool) {t0 t1 t2 t3 t4 t9 t10 t11 t12 t13 t14 t15 t16 t17 t18 t19 t20 t21 t22 t23 t24 t25 t26 t27 t28 t29 t30 t31 t32 t33 t34 t35 t36 t37 t38 t39 t40 t41 t42 t43 t44 t45 t46 t47 t48 t49 t50 t51 t52 t53 t54 t55 t56 t57 t58 t59 t60 t61 t62 t63 t64 t65 t66 t67 t68 t69 t70 t71 t72 t73 t74 t75 t76 t77 t78 t79 t80 t81 t82 t83 t84 t85 t86 t87 t88 t89 t90 t91 t92 t93 t94 t95 t96 t97 t98 t99 t100 t101 t102 t103 t104 t105 t106 t107 t108 t109 t110 t111 t112 t113 t114 t115 t116 t117 t118 t119 t120 t121 t122 t123 t124 t125 t126 t127 t128 t129 t130 t131 t132 t133 t134 t135 t136 t137 t138 t139 t140 t141 t142 t143 t144 t145 t146 t147 t148 t149 t150 t151 t152 t153 t154 t155 t156 t157 t158 t159 : Value}
    (s0 : Y.cell? ⟨rb, 0, none⟩ = some (.int .i64 (n : Int))) (s1 : Y.cell? ⟨rb, 1, none⟩ = some (.slice ab la cb)) (u0 : Y.cell? ⟨rc, 0, none⟩ = some (.int .i64 (n2 : Int))) (u1 : Y.cell? ⟨rc, 1, none⟩ = some (.slice ac lc cc)) (rbl : rb < Y.heap.size) (rcl : rc < Y.heap.size)
    (H1 : ∀ V, Below Y.heap.size Y V → Calls Tryd.prog 18 #[va, vb] V fun e w' => e = .returned (.bool be) ∧ w' = V)
    (H2 : ∀ V, Below Y.heap.size Y V → Calls Tryd.prog 93 #[.agg #[.int .i64 (n : Int), .slice ab la cb], .agg #[.int .i64 (n2 : Int), .slice ac lc cc]] V fun e w' => e = .returned (.bool be) ∧ Below V.heap.size V w')
    : (Code.region 24 #[{ dst := some 153, op := Op.move (Operand.tmp 5), type := 26, pos := "law.go:197", after := #[], guard := none }, { dst := some 154, op := Op.move (Operand.tmp 7), type := 26, pos := "law.go:197", after := #[], guard := none }, { dst := some 155, op := Op.call { callee := Callee.value (Operand.func 18), args := #[Operand.tmp 153, Operand.tmp 154], argTypes := #[26, 26] }, type := 4, pos := "law.go:197", after := #[{ on := 0, ground := Ground.data }, { on := 1, ground := Ground.data }], guard := none }, { dst := some 156, op := Op.load 30 (Operand.tmp 6), type := 30, pos := "law.go:197", after := #[], guard := none }, { dst := some 157, op := Op.load 30 (Operand.tmp 8), type := 30, pos := "law.go:197", after := #[], guard := none }, { dst := some 158, op := Op.call { callee := Callee.value (Operand.func 93), args := #[Operand.tmp 156, Operand.tmp 157], argTypes := #[30, 30] }, type := 4, pos := "law.go:197", after := #[{ on := 3, ground := Ground.data }, { on := 4, ground := Ground.data }, { on := 2, ground := Ground.chain }], guard := none }, { dst := some 159, op := Op.binOp BinOp.eql 4 (Operand.tmp 155) (Operand.tmp 158) 4, type := 4, pos := "law.go:197", after := #[{ on := 2, ground := Ground.data }, { on := 5, ground := Ground.data }], guard := none }, { dst := some 4, op := Op.assign (Operand.tmp 159), type := 4, pos := "law.go:197", after := #[{ on := 6, ground := Ground.data }, { on := 5, ground := Ground.chain }, { on := 0, ground := Ground.phase }, { on := 1, ground := Ground.phase }, { on := 2, ground := Ground.phase }, { on := 3, ground := Ground.phase }, { on := 4, ground := Ground.phase }, { on := 5, ground := Ground.phase }, { on := 6, ground := Ground.phase }], guard := none }] true).wp Tryd.prog (fun e a' W' => e = .normal ∧ (∃ u153 u154 u155 u156 u157 u158 u159, a' = { tmps := #[t0, t1, t2, t3, .bool true, va, .pointer (some ⟨rb, 0, none⟩), vb, .pointer (some ⟨rc, 0, none⟩), t9, t10, t11, t12, t13, t14, t15, t16, t17, t18, t19, t20, t21, t22, t23, t24, t25, t26, t27, t28, t29, t30, t31, t32, t33, t34, t35, t36, t37, t38, t39, t40, t41, t42, t43, t44, t45, t46, t47, t48, t49, t50, t51, t52, t53, t54, t55, t56, t57, t58, t59, t60, t61, t62, t63, t64, t65, t66, t67, t68, t69, t70, t71, t72, t73, t74, t75, t76, t77, t78, t79, t80, t81, t82, t83, t84, t85, t86, t87, t88, t89, t90, t91, t92, t93, t94, t95, t96, t97, t98, t99, t100, t101, t102, t103, t104, t105, t106, t107, t108, t109, t110, t111, t112, t113, t114, t115, t116, t117, t118, t119, t120, t121, t122, t123, t124, t125, t126, t127, t128, t129, t130, t131, t132, t133, t134, t135, t136, t137, t138, t139, t140, t141, t142, t143, t144, t145, t146, t147, t148, t149, t150, t151, t152, u153, u154, u155, u156, u157, u158, u159], defers := [] }) ∧ Below Y.heap.size Y W') { tmps := #[t0, t1, t2, t3, t4, va, .pointer (some ⟨rb, 0, none⟩), vb, .pointer (some ⟨rc, 0, none⟩), t9, t10, t11, t12, t13, t14, t15, t16, t17, t18, t19, t20, t21, t22, t23, t24, t25, t26, t27, t28, t29, t30, t31, t32, t33, t34, t35, t36, t37, t38, t39, t40, t41, t42, t43, t44, t45, t46, t47, t48, t49, t50, t51, t52, t53, t54, t55, t56, t57, t58, t59, t60, t61, t62, t63, t64, t65, t66, t67, t68, t69, t70, t71, t72, t73, t74, t75, t76, t77, t78, t79, t80, t81, t82, t83, t84, t85, t86, t87, t88, t89, t90, t91, t92, t93, t94, t95, t96, t97, t98, t99, t100, t101, t102, t103, t104, t105, t106, t107, t108, t109, t110, t111, t112, t113, t114, t115, t116, t117, t118, t119, t120, t121, t122, t123, t124, t125, t126, t127, t128, t129, t130, t131, t132, t133, t134, t135, t136, t137, t138, t139, t140, t141, t142, t143, t144, t145, t146, t147, t148, t149, t150, t151, t152, t153, t154, t155, t156, t157, t158, t159], defers := [] } Y := by
  have S1 := hid H1
  have S2 := hid H2
  clear H1 H2
  refine wp_region_held_drew (S := (fun Y => Y.cell? ⟨rb, 0, none⟩ = some (.int .i64 (n : Int)) ∧ Y.cell? ⟨rb, 1, none⟩ = some (.slice ab la cb) ∧ Y.cell? ⟨rc, 0, none⟩ = some (.int .i64 (n2 : Int)) ∧ Y.cell? ⟨rc, 1, none⟩ = some (.slice ac lc cc))) (by kernel_rfl) ⟨s0, s1, u0, u1⟩ (fun hHeld => ?_)
  refine wpAnyH_take (i := 0) (oi := { dst := some 153, op := Op.move (Operand.tmp 5), type := 26, pos := "law.go:197", after := #[], guard := none }) (v := ?_) rfl (by kernel_rfl) (by kernel_rfl) (by kernel_rfl) (fun _ _ _ h => by cases h.1) (Or.inl ⟨by rfl, ?_⟩) (by assumption) ?_
  rotate_left
  · (intro w hSw; (try dsimp only at hSw); go_simp; try with_reducible rfl)
  try simp only [Act.put, List.setIfInBounds_toArray, List.set_cons_zero, List.set_cons_succ]
  refine wpAnyH_take (i := 1) (oi := { dst := some 154, op := Op.move (Operand.tmp 7), type := 26, pos := "law.go:197", after := #[], guard := none }) (v := ?_) rfl (by kernel_rfl) (by kernel_rfl) (by kernel_rfl) (fun _ _ _ h => by cases h.1) (Or.inl ⟨by rfl, ?_⟩) (by assumption) ?_
  rotate_left
  · (intro w hSw; (try dsimp only at hSw); go_simp; try with_reducible rfl)
  try simp only [Act.put, List.setIfInBounds_toArray, List.set_cons_zero, List.set_cons_succ]
  refine wpAnyH_take (i := 3) (oi := { dst := some 156, op := Op.load 30 (Operand.tmp 6), type := 30, pos := "law.go:197", after := #[], guard := none }) (v := ?_) rfl (by kernel_rfl) (by kernel_rfl) (by kernel_rfl) (fun _ _ _ h => by cases h.1) (Or.inl ⟨by rfl, ?_⟩) (by assumption) ?_
  rotate_left
  · (intro w hSw; (try dsimp only at hSw); go_simp; try with_reducible rfl)
  try simp only [Act.put, List.setIfInBounds_toArray, List.set_cons_zero, List.set_cons_succ]
  refine wpAnyH_take (i := 4) (oi := { dst := some 157, op := Op.load 30 (Operand.tmp 8), type := 30, pos := "law.go:197", after := #[], guard := none }) (v := ?_) rfl (by kernel_rfl) (by kernel_rfl) (by kernel_rfl) (fun _ _ _ h => by cases h.1) (Or.inl ⟨by rfl, ?_⟩) (by assumption) ?_
  rotate_left
  · (intro w hSw; (try dsimp only at hSw); go_simp; try with_reducible rfl)
  try simp only [Act.put, List.setIfInBounds_toArray, List.set_cons_zero, List.set_cons_succ]
  refine wpAnyH_ready (rs := [2]) (by kernel_rfl) (by simp) ?_
  refine AllReadyH.cons (o := { dst := some 155, op := Op.call { callee := Callee.value (Operand.func 18), args := #[Operand.tmp 153, Operand.tmp 154], argTypes := #[26, 26] }, type := 4, pos := "law.go:197", after := #[{ on := 0, ground := Ground.data }, { on := 1, ground := Ground.data }], guard := none }) rfl (fun K hK => ?_) AllReadyH.nil
  go_simp
  refine (S1.out _ (belowDr Y)).mono ?_
  rintro e w2 ⟨rfl, hww⟩
  have L2 := hid (show Below Y.heap.size Y w2 from by rw [hww]; exact belowDr Y)
  have T2 := And.intro ((L2.out.cell (p := ⟨rb, 0, none⟩) rbl).trans s0) (And.intro ((L2.out.cell (p := ⟨rb, 1, none⟩) rbl).trans s1) (And.intro ((L2.out.cell (p := ⟨rc, 0, none⟩) rcl).trans u0) ((L2.out.cell (p := ⟨rc, 1, none⟩) rcl).trans u1)))
  clear hww hHeld
  go_wp2_with fail
  refine hK.out _ _ T2 (fun hHeld => ?_)
  clear hK K
  try simp only [Act.put, List.setIfInBounds_toArray, List.set_cons_zero, List.set_cons_succ]
  refine wpAnyH_ready (rs := [5]) (by kernel_rfl) (by simp) ?_
  refine AllReadyH.cons (o := { dst := some 158, op := Op.call { callee := Callee.value (Operand.func 93), args := #[Operand.tmp 156, Operand.tmp 157], argTypes := #[30, 30] }, type := 4, pos := "law.go:197", after := #[{ on := 3, ground := Ground.data }, { on := 4, ground := Ground.data }, { on := 2, ground := Ground.chain }], guard := none }) rfl (fun K hK => ?_) AllReadyH.nil
  go_simp
  refine (S2.out _ L2.out).mono ?_
  rintro e w3 ⟨rfl, hb⟩
  have L3 := hid (belowT L2.out hb)
  have T3 := And.intro ((L3.out.cell (p := ⟨rb, 0, none⟩) rbl).trans s0) (And.intro ((L3.out.cell (p := ⟨rb, 1, none⟩) rbl).trans s1) (And.intro ((L3.out.cell (p := ⟨rc, 0, none⟩) rcl).trans u0) ((L3.out.cell (p := ⟨rc, 1, none⟩) rcl).trans u1)))
  clear hb hHeld
  go_wp2_with fail
  refine hK.out _ _ T3 (fun hHeld => ?_)
  clear hK K
  try simp only [Act.put, List.setIfInBounds_toArray, List.set_cons_zero, List.set_cons_succ]
  refine wpAnyH_take (i := 6) (oi := { dst := some 159, op := Op.binOp BinOp.eql 4 (Operand.tmp 155) (Operand.tmp 158) 4, type := 4, pos := "law.go:197", after := #[{ on := 2, ground := Ground.data }, { on := 5, ground := Ground.data }], guard := none }) (v := ?_) rfl (by kernel_rfl) (by kernel_rfl) (by kernel_rfl) (fun _ _ _ h => by cases h.1) (Or.inl ⟨by rfl, ?_⟩) (by assumption) ?_
  rotate_left
  · (intro w hSw; (try dsimp only at hSw); go_simp; try with_reducible rfl)
  try simp only [Act.put, List.setIfInBounds_toArray, List.set_cons_zero, List.set_cons_succ]
  refine wpAnyH_take (i := 7) (oi := { dst := some 4, op := Op.assign (Operand.tmp 159), type := 4, pos := "law.go:197", after := #[{ on := 6, ground := Ground.data }, { on := 5, ground := Ground.chain }, { on := 0, ground := Ground.phase }, { on := 1, ground := Ground.phase }, { on := 2, ground := Ground.phase }, { on := 3, ground := Ground.phase }, { on := 4, ground := Ground.phase }, { on := 5, ground := Ground.phase }, { on := 6, ground := Ground.phase }], guard := none }) (v := ?_) rfl (by kernel_rfl) (by kernel_rfl) (by kernel_rfl) (fun _ _ _ h => by cases h.1) (Or.inl ⟨by rfl, ?_⟩) (by assumption) ?_
  rotate_left
  · (intro w hSw; (try dsimp only at hSw); go_simp; try with_reducible rfl)
  try simp only [Act.put, List.setIfInBounds_toArray, List.set_cons_zero, List.set_cons_succ]
  refine wpAnyH_done (by kernel_rfl) ?_ _
  exact ⟨rfl, ⟨_, _, _, _, _, _, _, rfl⟩, L3.out⟩
end Go.Proofs.YtkagdmhijjfnnaaDoor
namespace Go.Proofs.YtkagdmhijjfnnaaDoor
open Go.RowKit Bs
set_option linter.unusedVariables false
set_option maxRecDepth 100000 in
set_option maxHeartbeats 8000000 in
theorem ask_two (oa ob oc oi : Int) (vL vW : Value) (w0 W : World) (B : Nat) (st : Nat → RSt) (h : Rg w0 W B st) (ok : Ok st) :
    Calls Tryd.prog 51 #[.pointer (some ⟨B, 0, none⟩), .agg #[.int .i64 26, .int .i64 oa, .int .i64 ob, .int .i64 oc, .int .i64 oi, vL, vW]] W fun e w' => e = .returned (.bool true) ∧ Below W.heap.size W w' := by
  obtain ⟨ka, ha, ea⟩ := reg_of oa
  obtain ⟨kb, hb, eb⟩ := reg_of ob
  have BL1 := hid (lowAlloc W (.cells #[.int .i64 26, .int .i64 oa, .int .i64 ob, .int .i64 oc, .int .i64 oi, vL, vW] 37))
  have O1 := hid (Ob.new W 26 oa ob oc oi vL vW)
  have R1 := hid (h.low BL1.out)
  have OK := hid ok
  obtain ⟨ab, cb, eqb, _⟩ := own_shape (h.ow ka ha)
  have BB := hid eqb
  obtain ⟨ac, cc, eqc, _⟩ := own_shape (h.ow kb hb)
  have CC := hid eqc
  clear eqc
  clear h ok eqb
  have o1 := O1.out.o1
  have hia : (ka : Int) < 4 := by omega
  have hib : (kb : Int) < 4 := by omega
  obtain ⟨b0, b1, b2, b3⟩ := R1.out.cells ha
  rw [BB.out] at b2
  rw [(OK.out ka ha).rn] at b1
  go_enter Tryd.func51, Tryd.ntmps51
  go_wp2_with fail
  generalize W.alloc _ = X at *
  have q1 := (O1.out.on (lowAlloc X (.cells #[.int .i64 0, .slice none 0 0] 30))).o1
  obtain ⟨d0, d1, d2, d3⟩ := (R1.out.low (lowAlloc X (.cells #[.int .i64 0, .slice none 0 0] 30))).cells ha
  rw [BB.out] at d2
  rw [(OK.out ka ha).rn] at d1
  go_region
  have bZ := belowT (lowAlloc X (.cells #[.int .i64 ((st ka).n : Int), .slice ab (st ka).ms.length cb] 30)) (belowDr _)
  have RZ := hid (R1.out.low bZ)
  have OZ := hid (O1.out.on bZ)
  have BZ := hid (belowT BL1.out bZ)
  have rbZ : Hid ((X.alloc (.cells #[.int .i64 ((st ka).n : Int), .slice ab (st ka).ms.length cb] 30)).drew.heap[X.heap.size]? = some (.cells #[.int .i64 ((st ka).n : Int), .slice ab (st ka).ms.length cb] 30)) := hid (heap_alloc_new X _)
  clear o1 q1 b0 b1 b2 b3 d0 d1 d2 d3 bZ BL1 R1 O1 ea
  generalize (X.alloc _).drew = Z at *
  generalize X.heap.size = rb at *
  have p0 := OZ.out.o0
  have q4 := OZ.out.o4
  have r0 : Z.cell? ⟨rb, 0, none⟩ = some (.int .i64 ((st ka).n : Int)) := by rw [cell_of_row _ _ 0 _ _ _ rbZ.out]; rfl
  have r1 : Z.cell? ⟨rb, 1, none⟩ = some (.slice ab (st ka).ms.length cb) := by rw [cell_of_row _ _ 1 _ _ _ rbZ.out]; rfl
  have rbl := lt_of_block rbZ.out
  have K1 := hid (OK.out ka ha)
  have RDZ := hid (fun V (hV : Below Z.heap.size Z V) => (own_rd (by rw [← BB.out]; exact own_low (RZ.out.ow ka ha) hV) : Rd V ab (st ka).ms))
  have SOZ := hid (fun V (hV : Below Z.heap.size Z V) => (RZ.out.so ka ha).low hV)
  have TBZ := hid (fun V (hV : Below Z.heap.size Z V) => (RZ.out.low hV).tab)
  have LEN := hid (K1.out.is.len)
  have OWZ := hid (fun V (hV : Below Z.heap.size Z V) => (show OwnI V 0 (.slice ab (st ka).ms.length cb) (st ka).ms by rw [← BB.out]; exact own_low (RZ.out.ow ka ha) hV))
  have o2 := OZ.out.o2
  obtain ⟨e0, e1, e2, e3⟩ := RZ.out.cells hb
  rw [CC.out] at e2
  rw [(OK.out kb hb).rn] at e1
  have q2 := (OZ.out.on (lowAlloc Z (.cells #[.int .i64 0, .slice none 0 0] 30))).o2
  obtain ⟨d0, d1, d2, d3⟩ := (RZ.out.low (lowAlloc Z (.cells #[.int .i64 0, .slice none 0 0] 30))).cells hb
  rw [CC.out] at d2
  rw [(OK.out kb hb).rn] at d1
  have K2 := hid (OK.out kb hb)
  have RDC := hid (fun V (hV : Below Z.heap.size Z V) => (own_rd (by rw [← CC.out]; exact own_low (RZ.out.ow kb hb) hV) : Rd V ac (st kb).ms))
  have SOC := hid (fun V (hV : Below Z.heap.size Z V) => (RZ.out.so kb hb).low hV)
  go_wp2_with fail
  go_region
  have bY := belowT (lowAlloc Z (.cells #[.int .i64 ((st kb).n : Int), .slice ac (st kb).ms.length cc] 30)) (belowDr _)
  have BY := hid bY
  have rbY : Hid ((Z.alloc (.cells #[.int .i64 ((st kb).n : Int), .slice ac (st kb).ms.length cc] 30)).drew.heap[Z.heap.size]? = some (.cells #[.int .i64 ((st kb).n : Int), .slice ac (st kb).ms.length cc] 30)) := hid (heap_alloc_new Z _)
  have s0 := (bY.cell (p := ⟨rb, 0, none⟩) rbl).trans r0
  have s1 := (bY.cell (p := ⟨rb, 1, none⟩) rbl).trans r1
  have rbl2 : rb < (Z.alloc (.cells #[.int .i64 ((st kb).n : Int), .slice ac (st kb).ms.length cc] 30)).drew.heap.size := Nat.lt_of_lt_of_le rbl bY.size
  clear bY o2 q2 e0 e1 e2 e3 d0 d1 d2 d3 eb r0 r1 p0 q4
  generalize (Z.alloc _).drew = Y at *
  have u0 : Y.cell? ⟨Z.heap.size, 0, none⟩ = some (.int .i64 ((st kb).n : Int)) := by rw [cell_of_row _ _ 0 _ _ _ rbY.out]; rfl
  have u1 : Y.cell? ⟨Z.heap.size, 1, none⟩ = some (.slice ac (st kb).ms.length cc) := by rw [cell_of_row _ _ 1 _ _ _ rbY.out]; rfl
  have rcl := lt_of_block rbY.out
  have FS := hid (sub_len K1.out.is K2.out.is K1.out.bd K2.out.bd)
  have FM := hid (meet_len K1.out.is K2.out.is K1.out.bd K2.out.bd)
  have FE := hid (eq_len K1.out.is K2.out.is K1.out.bd K2.out.bd)
  obtain ⟨bs, hbs⟩ : ∃ b, b = decide ((pk true false false (st ka).ms (st kb).ms).length = 0) := ⟨_, rfl⟩
  obtain ⟨bm, hbm⟩ : ∃ b, b = decide (0 < (pk false false true (st ka).ms (st kb).ms).length) := ⟨_, rfl⟩
  obtain ⟨be, hbe⟩ : ∃ b, b = decide ((pk true true false (st ka).ms (st kb).ms).length = 0) := ⟨_, rfl⟩
  rw [← hbs] at FS
  rw [← hbm] at FM
  rw [← hbe] at FE
  have HBS := hid hbs
  have HBM := hid hbm
  have HBE := hid hbe
  clear hbs hbm hbe
  go_wp2_with fail
  refine Code.wp_mono ?_ (reg194 Y (st ka).v (st kb).v rb Z.heap.size (st ka).n (st kb).n (st ka).ms.length (st kb).ms.length cb cc ab ac bs bm s0 s1 u0 u1 rbl2 rcl (fun V hV => subset_o bs V (SOZ.out _ (belowT BY.out hV)) (SOC.out _ (belowT BY.out hV)) FS.out) (fun V hV => dsubset (st ka).n (st kb).n ab ac cb cc (st ka).ms (st kb).ms V (RDZ.out _ (belowT BY.out hV)) (RDC.out _ (belowT BY.out hV)) K1.out.len K2.out.len bs HBS.out) (fun V hV => meets_o bm V (SOZ.out _ (belowT BY.out hV)) (SOC.out _ (belowT BY.out hV)) FM.out) (fun V hV => dmeets (st ka).n (st kb).n ab ac cb cc (st ka).ms (st kb).ms V (RDZ.out _ (belowT BY.out hV)) (RDC.out _ (belowT BY.out hV)) K1.out.len K2.out.len bm HBM.out))
  rintro e a' w5 ⟨rfl, ⟨u137, u138, u139, u140, u141, u142, u143, u144, u145, u146, u147, u148, u149, u150, u151, rfl⟩, hb5⟩
  have L5 := hid hb5
  have T5 := And.intro ((L5.out.cell (p := ⟨rb, 0, none⟩) rbl2).trans s0) (And.intro ((L5.out.cell (p := ⟨rb, 1, none⟩) rbl2).trans s1) (And.intro ((L5.out.cell (p := ⟨Z.heap.size, 0, none⟩) rcl).trans u0) ((L5.out.cell (p := ⟨Z.heap.size, 1, none⟩) rcl).trans u1)))
  clear hb5
  go_wp2_with fail
  clear s0 s1 u0 u1
  obtain ⟨s0, s1, u0, u1⟩ := T5
  have zb : Hid (∀ V, Below w5.heap.size w5 V → Below Z.heap.size Z V) := hid (fun V hV => belowT BY.out (belowT L5.out hV))
  refine Code.wp_mono ?_ (reg197 w5 (st ka).v (st kb).v rb Z.heap.size (st ka).n (st kb).n (st ka).ms.length (st kb).ms.length cb cc ab ac be s0 s1 u0 u1 (Nat.lt_of_lt_of_le rbl2 L5.out.size) (Nat.lt_of_lt_of_le rcl L5.out.size) (fun V hV => equal_o be V (SOZ.out _ (zb.out V hV)) (SOC.out _ (zb.out V hV)) FE.out) (fun V hV => dequal (st ka).n (st kb).n ab ac cb cc (st ka).ms (st kb).ms V (RDZ.out _ (zb.out V hV)) (RDC.out _ (zb.out V hV)) K1.out.len K2.out.len be HBE.out))
  rintro e a' w7 ⟨rfl, ⟨u153, u154, u155, u156, u157, u158, u159, rfl⟩, hb7⟩
  have L7 := hid (belowT L5.out hb7)
  clear hb7
  go_wp2_with fail
  go_ret
  exact ⟨rfl, belowT BZ.out (belowT BY.out L7.out)⟩
end Go.Proofs.YtkagdmhijjfnnaaDoor
namespace Go.Proofs.YtkagdmhijjfnnaaDoor
open Go.RowKit Bs
set_option linter.unusedVariables false
theorem asking_all (k oa ob oc oi : Int) (vL vW : Value) (w0 W : World) (B : Nat) (st : Nat → RSt) (h : Rg w0 W B st) (ok : Ok st) (hoi : oi ≤ 9223372036854775807) (hk : 17 ≤ k ∧ k ≤ 26) :
    Calls Tryd.prog 51 #[.pointer (some ⟨B, 0, none⟩), .agg #[.int .i64 k, .int .i64 oa, .int .i64 ob, .int .i64 oc, .int .i64 oi, vL, vW]] W fun e w' => e = .returned (.bool true) ∧ ∃ st', Rg w0 w' B st' ∧ Ok st' := by
  have fin : Calls Tryd.prog 51 #[.pointer (some ⟨B, 0, none⟩), .agg #[.int .i64 k, .int .i64 oa, .int .i64 ob, .int .i64 oc, .int .i64 oi, vL, vW]] W fun e w' => e = .returned (.bool true) ∧ Below W.heap.size W w' := by
    rcases (show k = 17 ∨ k = 18 ∨ k = 19 ∨ k = 20 ∨ k = 21 ∨ k = 22 ∨ k = 23 ∨ k = 24 ∨ k = 25 ∨ k = 26 by omega) with rfl | rfl | rfl | rfl | rfl | rfl | rfl | rfl | rfl | rfl
    · exact ask_size oa ob oc oi vL vW w0 W B st h ok
    · exact ask_has oa ob oc oi vL vW w0 W B st h ok
    · exact ask_next oa ob oc oi vL vW w0 W B st h ok
    · exact ask_prev oa ob oc oi vL vW w0 W B st h ok
    · exact ask_rank oa ob oc oi vL vW w0 W B st h ok
    · exact ask_sel oa ob oc oi vL vW w0 W B st h ok hoi
    · exact ask_list oa ob oc oi vL vW w0 W B st h ok
    · exact ask_bits oa ob oc oi vL vW w0 W B st h ok
    · exact ask_all oa ob oc oi vL vW w0 W B st h ok
    · exact ask_two oa ob oc oi vL vW w0 W B st h ok
  refine fin.mono ?_
  rintro e w' ⟨rfl, hb⟩
  exact ⟨rfl, st, h.low hb, ok⟩
end Go.Proofs.YtkagdmhijjfnnaaDoor
