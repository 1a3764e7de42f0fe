import Derived.Test.YtiddnjjaidiohaaGreatDoorSp8
namespace Go.Proofs.YtiddnjjaidiohaaGreatDoor.L
open Go.RowKit Go.Shelf
set_option linter.unusedVariables false
set_option linter.unusedSimpArgs false
def thC : Code → Code
  | .cond _ c _ => c
  | c => c
set_option maxHeartbeats 16000000 in
set_option maxRecDepth 100000 in
theorem parts_30 {C C2 : Code} {K : Act → World → Prop} {Q : Exit → Act → World → Prop} (hK : ∀ a w, C2.wp Tryz.prog Q a w → K a w) (hC : C = hdC (rtC (rtC (rtC (rtC (rtC (rtC ((thC (rtC (rtC (rtC (rtC (rtC (rtC (rtC ((bdC (hdC (rtC (bdC (bdC (rtC (hdC (rtC (rtC (rtC (Option.getD Tryz.f5.body Code.skip)))))))))))))))))))))))))))) (hC2 : C2 = rtC (rtC (rtC (rtC (rtC (rtC (rtC ((thC (rtC (rtC (rtC (rtC (rtC (rtC (rtC ((bdC (hdC (rtC (bdC (bdC (rtC (hdC (rtC (rtC (rtC (Option.getD Tryz.f5.body Code.skip)))))))))))))))))))))))))))) (W : World) (b9 bw gw m c9 : Nat) (a9 : Option Addr) (U : List Pt) (key : ByteArray) (e7 e9 : Value) {t0 t1 t2 t3 t4 t5 t6 t7 t8 t9 t10 t11 t12 t13 t14 t15 t16 t17 t18 t19 t21 t24 t26 t27 t28 t29 t30 t31 t32 t33 t34 t35 t36 t37 t38 t39 t40 t41 t42 t43 t44 t45 t46 t47 t48 t49 t50 t51 t52 t53 t54 t55 t56 t57 t58 t59 t60 t61 t62 t63 t64 t65 t66 t67 t68 t69 t70 t71 t72 t73 t74 t75 t76 t77 t78 t79 t80 t81 t82 t83 t84 t85 t86 t87 t88 t89 t90 t91 t92 t93 t94 t95 t96 t97 t98 t99 t100 t101 t102 t103 t104 t105 t106 t107 t108 t109 t110 t111 t112 t113 t114 t115 t116 t117 t118 t119 t120 t121 t122 t123 t124 t125 t126 t127 t128 t129 t130 t131 t132 t133 t134 t135 t136 t137 t138 t139 t140 t141 t142 t143 t144 t145 t146 t147 t148 t149 t150 t151 t152 t153 t154 t155 t156 t157 t158 t159 t160 t161 t162 t163 t164 t165 t166 t167 t168 t169 t170 t171 t172 t173 t174 t175 t176 t177 t178 t179 t180 t181 t182 t183 t184 t185 t186 t187 t188 t189 t190 t191 t192 t193 t194 t195 t196 t197 t198 : Value}
    (hx : W.heap[b9]? = some (.cells #[.slice a9 m c9] 26 (0, 0))) (hw : W.heap[bw]? = some (.cells #[.slice (some ⟨gw, 0, none⟩) 3 3] 26 (0, 0))) (hm : m = U.length) (hP : PL W a9 U) (hd : GdT U) (hPW : PL W (some ⟨gw, 0, none⟩) (wT key)) (hdw : GdT (wT key))
    (he : Res U 0 0 → Res (wT key) 0 0 → (e7 = .nilIface ∧ e9 = .nilIface) ∨ ∃ N M, e7 = fv N ∧ e9 = fv M)
    (hq : ∀ c a a' w, Q (.panic c) a w → Q (.panic c) a' w)
    (nx : ∀ (W' : World) {x184 x185 x186 x187 x188 x189 x190 x191 x192 x193 x194 x195 x196 x197 x198 : Value}, Below W.heap.size W W' → Q Exit.normal { tmps := #[t0, t1, t2, t3, t4, t5, t6, t7, t8, t9, t10, t11, t12, t13, t14, t15, t16, t17, t18, t19, .pointer (some ⟨b9, 0, none⟩), t21, e7, .pointer (some ⟨bw, 0, none⟩), t24, e9, t26, t27, t28, t29, t30, t31, t32, t33, t34, t35, t36, t37, t38, t39, t40, t41, t42, t43, t44, t45, t46, t47, t48, t49, t50, t51, t52, t53, t54, t55, t56, t57, t58, t59, t60, t61, t62, t63, t64, t65, t66, t67, t68, t69, t70, t71, t72, t73, t74, t75, t76, t77, t78, t79, t80, t81, t82, t83, t84, t85, t86, t87, t88, t89, t90, t91, t92, t93, t94, t95, t96, t97, t98, t99, t100, t101, t102, t103, t104, t105, t106, t107, t108, t109, t110, t111, t112, t113, t114, t115, t116, t117, t118, t119, t120, t121, t122, t123, t124, t125, t126, t127, t128, t129, t130, t131, t132, t133, t134, t135, t136, t137, t138, t139, t140, t141, t142, t143, t144, t145, t146, t147, t148, t149, t150, t151, t152, t153, t154, t155, t156, t157, t158, t159, t160, t161, t162, t163, t164, t165, t166, t167, t168, t169, t170, t171, t172, t173, t174, t175, t176, t177, t178, t179, t180, t181, t182, t183, x184, x185, x186, x187, x188, x189, x190, x191, x192, x193, x194, x195, x196, x197, x198], defers := [] } W') :
    Code.wp Tryz.prog C (Exit.then K Q) { tmps := #[t0, t1, t2, t3, t4, t5, t6, t7, t8, t9, t10, t11, t12, t13, t14, t15, t16, t17, t18, t19, .pointer (some ⟨b9, 0, none⟩), t21, e7, .pointer (some ⟨bw, 0, none⟩), t24, e9, t26, t27, t28, t29, t30, t31, t32, t33, t34, t35, t36, t37, t38, t39, t40, t41, t42, t43, t44, t45, t46, t47, t48, t49, t50, t51, t52, t53, t54, t55, t56, t57, t58, t59, t60, t61, t62, t63, t64, t65, t66, t67, t68, t69, t70, t71, t72, t73, t74, t75, t76, t77, t78, t79, t80, t81, t82, t83, t84, t85, t86, t87, t88, t89, t90, t91, t92, t93, t94, t95, t96, t97, t98, t99, t100, t101, t102, t103, t104, t105, t106, t107, t108, t109, t110, t111, t112, t113, t114, t115, t116, t117, t118, t119, t120, t121, t122, t123, t124, t125, t126, t127, t128, t129, t130, t131, t132, t133, t134, t135, t136, t137, t138, t139, t140, t141, t142, t143, t144, t145, t146, t147, t148, t149, t150, t151, t152, t153, t154, t155, t156, t157, t158, t159, t160, t161, t162, t163, t164, t165, t166, t167, t168, t169, t170, t171, t172, t173, t174, t175, t176, t177, t178, t179, t180, t181, t182, t183, t184, t185, t186, t187, t188, t189, t190, t191, t192, t193, t194, t195, t196, t197, t198], defers := [] } W := by
  subst hC hC2
  have HKK := hid hK
  clear hK
  have NX := hid nx
  have HQ := hid hq
  have HE := hid he
  have P9 := hid hP
  have PW := hid hPW
  have HV9 := hid (fun a' cap' W h1 h2 => valid_ok a' U cap' W h1 hd h2)
  have HN9 := hid (fun a' cap' W h1 h2 => valid_bad a' U cap' W h1 hd h2)
  have HVW := hid (fun g W h1 h2 => valid_ok (some ⟨g, 0, none⟩) (wT key) 3 W h1 hdw h2)
  have HNW := hid (fun g W h1 h2 => valid_bad (some ⟨g, 0, none⟩) (wT key) 3 W h1 hdw h2)
  rw [← hm] at HV9 HN9
  have hl9 := lt_blk hx
  have hlw := lt_blk hw
  have T0 := And.intro (cell_of_one hx) (cell_of_one hw)
  clear nx hq he hP hPW hd hdw hm hx hw
  simp only [hdC, bdC, rtC, thC, Option.getD, Tryz.f5] at HKK ⊢
  by_cases hU : Res U 0 0
  · have HRU := hid hU
    by_cases hW : Res (wT key) 0 0
    · have HRW := hid hW
      rcases HE.out hU hW with ⟨rfl, rfl⟩ | ⟨N, M, rfl, rfl⟩
      · clear hU hW
        refine wp_region_held_drew (S := (fun Y => Y.cell? ⟨b9, 0, none⟩ = some (.slice a9 m c9) ∧ Y.cell? ⟨bw, 0, none⟩ = some (.slice (some ⟨gw, 0, none⟩) 3 3))) (by kernel_rfl) T0 (fun hHeld => ?_)
        refine wpAnyH_take (i := 0) (oi := { dst := some 184, op := Op.load 26 (Operand.tmp 20), type := 26, pos := "law.go:204", after := #[], guard := none }) (v := ?_) rfl (by kernel_rfl) (by kernel_rfl) (by kernel_rfl) (fun c _ w h => HQ.out c _ _ w h) (Or.inl ⟨by rfl, ?_⟩) (by assumption) ?_
        rotate_left
        · (intro w hSw; (try dsimp only at hSw); go_simp; try with_reducible rfl)
        try simp only [Act.put, List.setIfInBounds_toArray, List.set_cons_zero, List.set_cons_succ]
        refine wpAnyH_ready (rs := [1]) (by kernel_rfl) (by simp) ?_
        refine AllReadyH.cons (o := { dst := some 185, op := Op.call { callee := Callee.value (Operand.func 15), args := #[Operand.tmp 184], argTypes := #[26] }, type := 37, pos := "law.go:204", after := #[{ on := 0, ground := Ground.data }], guard := none }) rfl (fun K hK => ?_) AllReadyH.nil
        go_simp
        refine (HV9.out _ _ _ (P9.out.low (Below.refl _ _).drew) HRU.out).mono ?_
        rintro e wa ⟨rfl, la⟩
        have LA := hid (bchS (Below.refl _ _).drew la)
        clear la
        have T1 := And.intro ((LA.out.cell (p := ⟨b9, 0, none⟩) hl9).trans T0.1) ((LA.out.cell (p := ⟨bw, 0, none⟩) hlw).trans T0.2)
        clear hHeld
        try simp only [fv]
        go_wp2_with fail
        refine hK.out _ _ T1 (fun hHeld => ?_)
        clear hK K
        try simp only [Act.put, List.setIfInBounds_toArray, List.set_cons_zero, List.set_cons_succ]
        refine wpAnyH_take (i := 2) (oi := { dst := some 186, op := Op.binOp BinOp.eql 37 (Operand.tmp 185) (Operand.const Value.nilIface) 37, type := 4, pos := "law.go:204", after := #[{ on := 1, ground := Ground.data }], guard := none }) (v := ?_) rfl (by kernel_rfl) (by kernel_rfl) (by kernel_rfl) (fun c _ w h => HQ.out c _ _ w h) (Or.inl ⟨by rfl, ?_⟩) (by assumption) ?_
        rotate_left
        · (intro w hSw; (try dsimp only at hSw); go_simp; try with_reducible rfl)
        try simp only [Act.put, List.setIfInBounds_toArray, List.set_cons_zero, List.set_cons_succ]
        refine wpAnyH_take (i := 3) (oi := { dst := some 187, op := Op.move (Operand.tmp 186), type := 4, pos := "law.go:204", after := #[{ on := 2, ground := Ground.data }, { on := 1, ground := Ground.chain }], guard := none }) (v := ?_) rfl (by kernel_rfl) (by kernel_rfl) (by kernel_rfl) (fun c _ w h => HQ.out c _ _ w h) (Or.inl ⟨by rfl, ?_⟩) (by assumption) ?_
        rotate_left
        · (intro w hSw; (try dsimp only at hSw); go_simp; try with_reducible rfl)
        try simp only [Act.put, List.setIfInBounds_toArray, List.set_cons_zero, List.set_cons_succ]
        refine wpAnyH_take (i := 4) (oi := { dst := some 188, op := Op.load 26 (Operand.tmp 23), type := 26, pos := "law.go:204", after := #[{ on := 3, ground := Ground.guard }], guard := some (3, true) }) (v := ?_) rfl (by kernel_rfl) (by kernel_rfl) (by kernel_rfl) (fun c _ w h => HQ.out c _ _ w h) (Or.inl ⟨by rfl, ?_⟩) (by assumption) ?_
        rotate_left
        · (intro w hSw; (try dsimp only at hSw); go_simp; try with_reducible rfl)
        try simp only [Act.put, List.setIfInBounds_toArray, List.set_cons_zero, List.set_cons_succ]
        refine wpAnyH_ready (rs := [5]) (by kernel_rfl) (by simp) ?_
        refine AllReadyH.cons (o := { dst := some 189, op := Op.call { callee := Callee.value (Operand.func 15), args := #[Operand.tmp 188], argTypes := #[26] }, type := 37, pos := "law.go:204", after := #[{ on := 4, ground := Ground.data }, { on := 3, ground := Ground.chain }, { on := 3, ground := Ground.guard }], guard := some (3, true) }) rfl (fun K hK => ?_) AllReadyH.nil
        go_simp
        refine (HVW.out _ _ (PW.out.low LA.out) HRW.out).mono ?_
        rintro e wb ⟨rfl, lb⟩
        have LB := hid (bchS LA.out lb)
        clear lb
        have T2 := And.intro ((LB.out.cell (p := ⟨b9, 0, none⟩) hl9).trans T0.1) ((LB.out.cell (p := ⟨bw, 0, none⟩) hlw).trans T0.2)
        clear hHeld
        try simp only [fv]
        go_wp2_with fail
        refine hK.out _ _ T2 (fun hHeld => ?_)
        clear hK K
        try simp only [Act.put, List.setIfInBounds_toArray, List.set_cons_zero, List.set_cons_succ]
        refine wpAnyH_take (i := 6) (oi := { dst := some 190, op := Op.binOp BinOp.eql 37 (Operand.tmp 189) (Operand.const Value.nilIface) 37, type := 4, pos := "law.go:204", after := #[{ on := 5, ground := Ground.data }, { on := 3, ground := Ground.guard }], guard := some (3, true) }) (v := ?_) rfl (by kernel_rfl) (by kernel_rfl) (by kernel_rfl) (fun c _ w h => HQ.out c _ _ w h) (Or.inl ⟨by rfl, ?_⟩) (by assumption) ?_
        rotate_left
        · (intro w hSw; (try dsimp only at hSw); go_simp; try with_reducible rfl)
        try simp only [Act.put, List.setIfInBounds_toArray, List.set_cons_zero, List.set_cons_succ]
        refine wpAnyH_take (i := 7) (oi := { dst := some 191, op := Op.pick (Operand.tmp 187) (Operand.tmp 190) (Operand.const (Value.bool false)), type := 4, pos := "law.go:204", after := #[{ on := 3, ground := Ground.data }, { on := 6, ground := Ground.data }], guard := none }) (v := ?_) rfl (by kernel_rfl) (by kernel_rfl) (by kernel_rfl) (fun c _ w h => HQ.out c _ _ w h) (Or.inl ⟨by rfl, ?_⟩) (by assumption) ?_
        rotate_left
        · (intro w hSw; (try dsimp only at hSw); go_simp; try with_reducible rfl)
        try simp only [Act.put, List.setIfInBounds_toArray, List.set_cons_zero, List.set_cons_succ]
        refine wpAnyH_take (i := 8) (oi := { dst := some 192, op := Op.move (Operand.tmp 191), type := 4, pos := "law.go:204", after := #[{ on := 7, ground := Ground.data }, { on := 5, ground := Ground.chain }], guard := none }) (v := ?_) rfl (by kernel_rfl) (by kernel_rfl) (by kernel_rfl) (fun c _ w h => HQ.out c _ _ w h) (Or.inl ⟨by rfl, ?_⟩) (by assumption) ?_
        rotate_left
        · (intro w hSw; (try dsimp only at hSw); go_simp; try with_reducible rfl)
        try simp only [Act.put, List.setIfInBounds_toArray, List.set_cons_zero, List.set_cons_succ]
        refine wpAnyH_take (i := 9) (oi := { dst := some 193, op := Op.move (Operand.tmp 22), type := 37, pos := "law.go:204", after := #[{ on := 8, ground := Ground.guard }], guard := some (8, true) }) (v := ?_) rfl (by kernel_rfl) (by kernel_rfl) (by kernel_rfl) (fun c _ w h => HQ.out c _ _ w h) (Or.inl ⟨by rfl, ?_⟩) (by assumption) ?_
        rotate_left
        · (intro w hSw; (try dsimp only at hSw); go_simp; try with_reducible rfl)
        try simp only [Act.put, List.setIfInBounds_toArray, List.set_cons_zero, List.set_cons_succ]
        refine wpAnyH_take (i := 10) (oi := { dst := some 194, op := Op.binOp BinOp.eql 37 (Operand.tmp 193) (Operand.const Value.nilIface) 37, type := 4, pos := "law.go:204", after := #[{ on := 9, ground := Ground.data }, { on := 8, ground := Ground.guard }], guard := some (8, true) }) (v := ?_) rfl (by kernel_rfl) (by kernel_rfl) (by kernel_rfl) (fun c _ w h => HQ.out c _ _ w h) (Or.inl ⟨by rfl, ?_⟩) (by assumption) ?_
        rotate_left
        · (intro w hSw; (try dsimp only at hSw); go_simp; try with_reducible rfl)
        try simp only [Act.put, List.setIfInBounds_toArray, List.set_cons_zero, List.set_cons_succ]
        refine wpAnyH_take (i := 11) (oi := { dst := some 195, op := Op.move (Operand.tmp 25), type := 37, pos := "law.go:204", after := #[{ on := 8, ground := Ground.guard }], guard := some (8, true) }) (v := ?_) rfl (by kernel_rfl) (by kernel_rfl) (by kernel_rfl) (fun c _ w h => HQ.out c _ _ w h) (Or.inl ⟨by rfl, ?_⟩) (by assumption) ?_
        rotate_left
        · (intro w hSw; (try dsimp only at hSw); go_simp; try with_reducible rfl)
        try simp only [Act.put, List.setIfInBounds_toArray, List.set_cons_zero, List.set_cons_succ]
        refine wpAnyH_take (i := 12) (oi := { dst := some 196, op := Op.binOp BinOp.eql 37 (Operand.tmp 195) (Operand.const Value.nilIface) 37, type := 4, pos := "law.go:204", after := #[{ on := 11, ground := Ground.data }, { on := 8, ground := Ground.guard }], guard := some (8, true) }) (v := ?_) rfl (by kernel_rfl) (by kernel_rfl) (by kernel_rfl) (fun c _ w h => HQ.out c _ _ w h) (Or.inl ⟨by rfl, ?_⟩) (by assumption) ?_
        rotate_left
        · (intro w hSw; (try dsimp only at hSw); go_simp; try with_reducible rfl)
        try simp only [Act.put, List.setIfInBounds_toArray, List.set_cons_zero, List.set_cons_succ]
        refine wpAnyH_take (i := 13) (oi := { dst := some 197, op := Op.binOp BinOp.neq 4 (Operand.tmp 194) (Operand.tmp 196) 4, type := 4, pos := "law.go:204", after := #[{ on := 10, ground := Ground.data }, { on := 12, ground := Ground.data }, { on := 8, ground := Ground.guard }], guard := some (8, true) }) (v := ?_) rfl (by kernel_rfl) (by kernel_rfl) (by kernel_rfl) (fun c _ w h => HQ.out c _ _ w h) (Or.inl ⟨by rfl, ?_⟩) (by assumption) ?_
        rotate_left
        · (intro w hSw; (try dsimp only at hSw); go_simp; try with_reducible rfl)
        try simp only [Act.put, List.setIfInBounds_toArray, List.set_cons_zero, List.set_cons_succ]
        refine wpAnyH_take (i := 14) (oi := { dst := some 198, op := Op.pick (Operand.tmp 192) (Operand.tmp 197) (Operand.const (Value.bool false)), type := 4, pos := "law.go:204", after := #[{ on := 8, ground := Ground.data }, { on := 13, ground := Ground.data }], guard := none }) (v := ?_) rfl (by kernel_rfl) (by kernel_rfl) (by kernel_rfl) (fun c _ w h => HQ.out c _ _ w h) (Or.inl ⟨by rfl, ?_⟩) (by assumption) ?_
        rotate_left
        · (intro w hSw; (try dsimp only at hSw); go_simp; try with_reducible rfl)
        try simp only [Act.put, List.setIfInBounds_toArray, List.set_cons_zero, List.set_cons_succ]
        refine wpAnyH_done (by kernel_rfl) ?_ _
        refine HKK.out _ _ ?_
        go_wp2_with fail
        exact NX.out _ LB.out
      · clear hU hW
        simp only [fv]
        refine wp_region_held_drew (S := (fun Y => Y.cell? ⟨b9, 0, none⟩ = some (.slice a9 m c9) ∧ Y.cell? ⟨bw, 0, none⟩ = some (.slice (some ⟨gw, 0, none⟩) 3 3))) (by kernel_rfl) T0 (fun hHeld => ?_)
        refine wpAnyH_take (i := 0) (oi := { dst := some 184, op := Op.load 26 (Operand.tmp 20), type := 26, pos := "law.go:204", after := #[], guard := none }) (v := ?_) rfl (by kernel_rfl) (by kernel_rfl) (by kernel_rfl) (fun c _ w h => HQ.out c _ _ w h) (Or.inl ⟨by rfl, ?_⟩) (by assumption) ?_
        rotate_left
        · (intro w hSw; (try dsimp only at hSw); go_simp; try with_reducible rfl)
        try simp only [Act.put, List.setIfInBounds_toArray, List.set_cons_zero, List.set_cons_succ]
        refine wpAnyH_ready (rs := [1]) (by kernel_rfl) (by simp) ?_
        refine AllReadyH.cons (o := { dst := some 185, op := Op.call { callee := Callee.value (Operand.func 15), args := #[Operand.tmp 184], argTypes := #[26] }, type := 37, pos := "law.go:204", after := #[{ on := 0, ground := Ground.data }], guard := none }) rfl (fun K hK => ?_) AllReadyH.nil
        go_simp
        refine (HV9.out _ _ _ (P9.out.low (Below.refl _ _).drew) HRU.out).mono ?_
        rintro e wa ⟨rfl, la⟩
        have LA := hid (bchS (Below.refl _ _).drew la)
        clear la
        have T1 := And.intro ((LA.out.cell (p := ⟨b9, 0, none⟩) hl9).trans T0.1) ((LA.out.cell (p := ⟨bw, 0, none⟩) hlw).trans T0.2)
        clear hHeld
        try simp only [fv]
        go_wp2_with fail
        refine hK.out _ _ T1 (fun hHeld => ?_)
        clear hK K
        try simp only [Act.put, List.setIfInBounds_toArray, List.set_cons_zero, List.set_cons_succ]
        refine wpAnyH_take (i := 2) (oi := { dst := some 186, op := Op.binOp BinOp.eql 37 (Operand.tmp 185) (Operand.const Value.nilIface) 37, type := 4, pos := "law.go:204", after := #[{ on := 1, ground := Ground.data }], guard := none }) (v := ?_) rfl (by kernel_rfl) (by kernel_rfl) (by kernel_rfl) (fun c _ w h => HQ.out c _ _ w h) (Or.inl ⟨by rfl, ?_⟩) (by assumption) ?_
        rotate_left
        · (intro w hSw; (try dsimp only at hSw); go_simp; try with_reducible rfl)
        try simp only [Act.put, List.setIfInBounds_toArray, List.set_cons_zero, List.set_cons_succ]
        refine wpAnyH_take (i := 3) (oi := { dst := some 187, op := Op.move (Operand.tmp 186), type := 4, pos := "law.go:204", after := #[{ on := 2, ground := Ground.data }, { on := 1, ground := Ground.chain }], guard := none }) (v := ?_) rfl (by kernel_rfl) (by kernel_rfl) (by kernel_rfl) (fun c _ w h => HQ.out c _ _ w h) (Or.inl ⟨by rfl, ?_⟩) (by assumption) ?_
        rotate_left
        · (intro w hSw; (try dsimp only at hSw); go_simp; try with_reducible rfl)
        try simp only [Act.put, List.setIfInBounds_toArray, List.set_cons_zero, List.set_cons_succ]
        refine wpAnyH_take (i := 4) (oi := { dst := some 188, op := Op.load 26 (Operand.tmp 23), type := 26, pos := "law.go:204", after := #[{ on := 3, ground := Ground.guard }], guard := some (3, true) }) (v := ?_) rfl (by kernel_rfl) (by kernel_rfl) (by kernel_rfl) (fun c _ w h => HQ.out c _ _ w h) (Or.inl ⟨by rfl, ?_⟩) (by assumption) ?_
        rotate_left
        · (intro w hSw; (try dsimp only at hSw); go_simp; try with_reducible rfl)
        try simp only [Act.put, List.setIfInBounds_toArray, List.set_cons_zero, List.set_cons_succ]
        refine wpAnyH_ready (rs := [5]) (by kernel_rfl) (by simp) ?_
        refine AllReadyH.cons (o := { dst := some 189, op := Op.call { callee := Callee.value (Operand.func 15), args := #[Operand.tmp 188], argTypes := #[26] }, type := 37, pos := "law.go:204", after := #[{ on := 4, ground := Ground.data }, { on := 3, ground := Ground.chain }, { on := 3, ground := Ground.guard }], guard := some (3, true) }) rfl (fun K hK => ?_) AllReadyH.nil
        go_simp
        refine (HVW.out _ _ (PW.out.low LA.out) HRW.out).mono ?_
        rintro e wb ⟨rfl, lb⟩
        have LB := hid (bchS LA.out lb)
        clear lb
        have T2 := And.intro ((LB.out.cell (p := ⟨b9, 0, none⟩) hl9).trans T0.1) ((LB.out.cell (p := ⟨bw, 0, none⟩) hlw).trans T0.2)
        clear hHeld
        try simp only [fv]
        go_wp2_with fail
        refine hK.out _ _ T2 (fun hHeld => ?_)
        clear hK K
        try simp only [Act.put, List.setIfInBounds_toArray, List.set_cons_zero, List.set_cons_succ]
        refine wpAnyH_take (i := 6) (oi := { dst := some 190, op := Op.binOp BinOp.eql 37 (Operand.tmp 189) (Operand.const Value.nilIface) 37, type := 4, pos := "law.go:204", after := #[{ on := 5, ground := Ground.data }, { on := 3, ground := Ground.guard }], guard := some (3, true) }) (v := ?_) rfl (by kernel_rfl) (by kernel_rfl) (by kernel_rfl) (fun c _ w h => HQ.out c _ _ w h) (Or.inl ⟨by rfl, ?_⟩) (by assumption) ?_
        rotate_left
        · (intro w hSw; (try dsimp only at hSw); go_simp; try with_reducible rfl)
        try simp only [Act.put, List.setIfInBounds_toArray, List.set_cons_zero, List.set_cons_succ]
        refine wpAnyH_take (i := 7) (oi := { dst := some 191, op := Op.pick (Operand.tmp 187) (Operand.tmp 190) (Operand.const (Value.bool false)), type := 4, pos := "law.go:204", after := #[{ on := 3, ground := Ground.data }, { on := 6, ground := Ground.data }], guard := none }) (v := ?_) rfl (by kernel_rfl) (by kernel_rfl) (by kernel_rfl) (fun c _ w h => HQ.out c _ _ w h) (Or.inl ⟨by rfl, ?_⟩) (by assumption) ?_
        rotate_left
        · (intro w hSw; (try dsimp only at hSw); go_simp; try with_reducible rfl)
        try simp only [Act.put, List.setIfInBounds_toArray, List.set_cons_zero, List.set_cons_succ]
        refine wpAnyH_take (i := 8) (oi := { dst := some 192, op := Op.move (Operand.tmp 191), type := 4, pos := "law.go:204", after := #[{ on := 7, ground := Ground.data }, { on := 5, ground := Ground.chain }], guard := none }) (v := ?_) rfl (by kernel_rfl) (by kernel_rfl) (by kernel_rfl) (fun c _ w h => HQ.out c _ _ w h) (Or.inl ⟨by rfl, ?_⟩) (by assumption) ?_
        rotate_left
        · (intro w hSw; (try dsimp only at hSw); go_simp; try with_reducible rfl)
        try simp only [Act.put, List.setIfInBounds_toArray, List.set_cons_zero, List.set_cons_succ]
        refine wpAnyH_take (i := 9) (oi := { dst := some 193, op := Op.move (Operand.tmp 22), type := 37, pos := "law.go:204", after := #[{ on := 8, ground := Ground.guard }], guard := some (8, true) }) (v := ?_) rfl (by kernel_rfl) (by kernel_rfl) (by kernel_rfl) (fun c _ w h => HQ.out c _ _ w h) (Or.inl ⟨by rfl, ?_⟩) (by assumption) ?_
        rotate_left
        · (intro w hSw; (try dsimp only at hSw); go_simp; try with_reducible rfl)
        try simp only [Act.put, List.setIfInBounds_toArray, List.set_cons_zero, List.set_cons_succ]
        refine wpAnyH_take (i := 10) (oi := { dst := some 194, op := Op.binOp BinOp.eql 37 (Operand.tmp 193) (Operand.const Value.nilIface) 37, type := 4, pos := "law.go:204", after := #[{ on := 9, ground := Ground.data }, { on := 8, ground := Ground.guard }], guard := some (8, true) }) (v := ?_) rfl (by kernel_rfl) (by kernel_rfl) (by kernel_rfl) (fun c _ w h => HQ.out c _ _ w h) (Or.inl ⟨by rfl, ?_⟩) (by assumption) ?_
        rotate_left
        · (intro w hSw; (try dsimp only at hSw); go_simp; try with_reducible rfl)
        try simp only [Act.put, List.setIfInBounds_toArray, List.set_cons_zero, List.set_cons_succ]
        refine wpAnyH_take (i := 11) (oi := { dst := some 195, op := Op.move (Operand.tmp 25), type := 37, pos := "law.go:204", after := #[{ on := 8, ground := Ground.guard }], guard := some (8, true) }) (v := ?_) rfl (by kernel_rfl) (by kernel_rfl) (by kernel_rfl) (fun c _ w h => HQ.out c _ _ w h) (Or.inl ⟨by rfl, ?_⟩) (by assumption) ?_
        rotate_left
        · (intro w hSw; (try dsimp only at hSw); go_simp; try with_reducible rfl)
        try simp only [Act.put, List.setIfInBounds_toArray, List.set_cons_zero, List.set_cons_succ]
        refine wpAnyH_take (i := 12) (oi := { dst := some 196, op := Op.binOp BinOp.eql 37 (Operand.tmp 195) (Operand.const Value.nilIface) 37, type := 4, pos := "law.go:204", after := #[{ on := 11, ground := Ground.data }, { on := 8, ground := Ground.guard }], guard := some (8, true) }) (v := ?_) rfl (by kernel_rfl) (by kernel_rfl) (by kernel_rfl) (fun c _ w h => HQ.out c _ _ w h) (Or.inl ⟨by rfl, ?_⟩) (by assumption) ?_
        rotate_left
        · (intro w hSw; (try dsimp only at hSw); go_simp; try with_reducible rfl)
        try simp only [Act.put, List.setIfInBounds_toArray, List.set_cons_zero, List.set_cons_succ]
        refine wpAnyH_take (i := 13) (oi := { dst := some 197, op := Op.binOp BinOp.neq 4 (Operand.tmp 194) (Operand.tmp 196) 4, type := 4, pos := "law.go:204", after := #[{ on := 10, ground := Ground.data }, { on := 12, ground := Ground.data }, { on := 8, ground := Ground.guard }], guard := some (8, true) }) (v := ?_) rfl (by kernel_rfl) (by kernel_rfl) (by kernel_rfl) (fun c _ w h => HQ.out c _ _ w h) (Or.inl ⟨by rfl, ?_⟩) (by assumption) ?_
        rotate_left
        · (intro w hSw; (try dsimp only at hSw); go_simp; try with_reducible rfl)
        try simp only [Act.put, List.setIfInBounds_toArray, List.set_cons_zero, List.set_cons_succ]
        refine wpAnyH_take (i := 14) (oi := { dst := some 198, op := Op.pick (Operand.tmp 192) (Operand.tmp 197) (Operand.const (Value.bool false)), type := 4, pos := "law.go:204", after := #[{ on := 8, ground := Ground.data }, { on := 13, ground := Ground.data }], guard := none }) (v := ?_) rfl (by kernel_rfl) (by kernel_rfl) (by kernel_rfl) (fun c _ w h => HQ.out c _ _ w h) (Or.inl ⟨by rfl, ?_⟩) (by assumption) ?_
        rotate_left
        · (intro w hSw; (try dsimp only at hSw); go_simp; try with_reducible rfl)
        try simp only [Act.put, List.setIfInBounds_toArray, List.set_cons_zero, List.set_cons_succ]
        refine wpAnyH_done (by kernel_rfl) ?_ _
        refine HKK.out _ _ ?_
        go_wp2_with fail
        exact NX.out _ LB.out
    · have HRW := hid hW
      clear hU hW
      refine wp_region_held_drew (S := (fun Y => Y.cell? ⟨b9, 0, none⟩ = some (.slice a9 m c9) ∧ Y.cell? ⟨bw, 0, none⟩ = some (.slice (some ⟨gw, 0, none⟩) 3 3))) (by kernel_rfl) T0 (fun hHeld => ?_)
      refine wpAnyH_take (i := 0) (oi := { dst := some 184, op := Op.load 26 (Operand.tmp 20), type := 26, pos := "law.go:204", after := #[], guard := none }) (v := ?_) rfl (by kernel_rfl) (by kernel_rfl) (by kernel_rfl) (fun c _ w h => HQ.out c _ _ w h) (Or.inl ⟨by rfl, ?_⟩) (by assumption) ?_
      rotate_left
      · (intro w hSw; (try dsimp only at hSw); go_simp; try with_reducible rfl)
      try simp only [Act.put, List.setIfInBounds_toArray, List.set_cons_zero, List.set_cons_succ]
      refine wpAnyH_ready (rs := [1]) (by kernel_rfl) (by simp) ?_
      refine AllReadyH.cons (o := { dst := some 185, op := Op.call { callee := Callee.value (Operand.func 15), args := #[Operand.tmp 184], argTypes := #[26] }, type := 37, pos := "law.go:204", after := #[{ on := 0, ground := Ground.data }], guard := none }) rfl (fun K hK => ?_) AllReadyH.nil
      go_simp
      refine (HV9.out _ _ _ (P9.out.low (Below.refl _ _).drew) HRU.out).mono ?_
      rintro e wa ⟨rfl, la⟩
      have LA := hid (bchS (Below.refl _ _).drew la)
      clear la
      have T1 := And.intro ((LA.out.cell (p := ⟨b9, 0, none⟩) hl9).trans T0.1) ((LA.out.cell (p := ⟨bw, 0, none⟩) hlw).trans T0.2)
      clear hHeld
      try simp only [fv]
      go_wp2_with fail
      refine hK.out _ _ T1 (fun hHeld => ?_)
      clear hK K
      try simp only [Act.put, List.setIfInBounds_toArray, List.set_cons_zero, List.set_cons_succ]
      refine wpAnyH_take (i := 2) (oi := { dst := some 186, op := Op.binOp BinOp.eql 37 (Operand.tmp 185) (Operand.const Value.nilIface) 37, type := 4, pos := "law.go:204", after := #[{ on := 1, ground := Ground.data }], guard := none }) (v := ?_) rfl (by kernel_rfl) (by kernel_rfl) (by kernel_rfl) (fun c _ w h => HQ.out c _ _ w h) (Or.inl ⟨by rfl, ?_⟩) (by assumption) ?_
      rotate_left
      · (intro w hSw; (try dsimp only at hSw); go_simp; try with_reducible rfl)
      try simp only [Act.put, List.setIfInBounds_toArray, List.set_cons_zero, List.set_cons_succ]
      refine wpAnyH_take (i := 3) (oi := { dst := some 187, op := Op.move (Operand.tmp 186), type := 4, pos := "law.go:204", after := #[{ on := 2, ground := Ground.data }, { on := 1, ground := Ground.chain }], guard := none }) (v := ?_) rfl (by kernel_rfl) (by kernel_rfl) (by kernel_rfl) (fun c _ w h => HQ.out c _ _ w h) (Or.inl ⟨by rfl, ?_⟩) (by assumption) ?_
      rotate_left
      · (intro w hSw; (try dsimp only at hSw); go_simp; try with_reducible rfl)
      try simp only [Act.put, List.setIfInBounds_toArray, List.set_cons_zero, List.set_cons_succ]
      refine wpAnyH_take (i := 4) (oi := { dst := some 188, op := Op.load 26 (Operand.tmp 23), type := 26, pos := "law.go:204", after := #[{ on := 3, ground := Ground.guard }], guard := some (3, true) }) (v := ?_) rfl (by kernel_rfl) (by kernel_rfl) (by kernel_rfl) (fun c _ w h => HQ.out c _ _ w h) (Or.inl ⟨by rfl, ?_⟩) (by assumption) ?_
      rotate_left
      · (intro w hSw; (try dsimp only at hSw); go_simp; try with_reducible rfl)
      try simp only [Act.put, List.setIfInBounds_toArray, List.set_cons_zero, List.set_cons_succ]
      refine wpAnyH_ready (rs := [5]) (by kernel_rfl) (by simp) ?_
      refine AllReadyH.cons (o := { dst := some 189, op := Op.call { callee := Callee.value (Operand.func 15), args := #[Operand.tmp 188], argTypes := #[26] }, type := 37, pos := "law.go:204", after := #[{ on := 4, ground := Ground.data }, { on := 3, ground := Ground.chain }, { on := 3, ground := Ground.guard }], guard := some (3, true) }) rfl (fun K hK => ?_) AllReadyH.nil
      go_simp
      refine (HNW.out _ _ (PW.out.low LA.out) HRW.out).mono ?_
      rintro e wb ⟨Nb, rfl, lb⟩
      have LB := hid (bchS LA.out lb)
      clear lb
      have T2 := And.intro ((LB.out.cell (p := ⟨b9, 0, none⟩) hl9).trans T0.1) ((LB.out.cell (p := ⟨bw, 0, none⟩) hlw).trans T0.2)
      clear hHeld
      try simp only [fv]
      go_wp2_with fail
      refine hK.out _ _ T2 (fun hHeld => ?_)
      clear hK K
      try simp only [Act.put, List.setIfInBounds_toArray, List.set_cons_zero, List.set_cons_succ]
      refine wpAnyH_take (i := 6) (oi := { dst := some 190, op := Op.binOp BinOp.eql 37 (Operand.tmp 189) (Operand.const Value.nilIface) 37, type := 4, pos := "law.go:204", after := #[{ on := 5, ground := Ground.data }, { on := 3, ground := Ground.guard }], guard := some (3, true) }) (v := ?_) rfl (by kernel_rfl) (by kernel_rfl) (by kernel_rfl) (fun c _ w h => HQ.out c _ _ w h) (Or.inl ⟨by rfl, ?_⟩) (by assumption) ?_
      rotate_left
      · (intro w hSw; (try dsimp only at hSw); go_simp; try with_reducible rfl)
      try simp only [Act.put, List.setIfInBounds_toArray, List.set_cons_zero, List.set_cons_succ]
      refine wpAnyH_take (i := 7) (oi := { dst := some 191, op := Op.pick (Operand.tmp 187) (Operand.tmp 190) (Operand.const (Value.bool false)), type := 4, pos := "law.go:204", after := #[{ on := 3, ground := Ground.data }, { on := 6, ground := Ground.data }], guard := none }) (v := ?_) rfl (by kernel_rfl) (by kernel_rfl) (by kernel_rfl) (fun c _ w h => HQ.out c _ _ w h) (Or.inl ⟨by rfl, ?_⟩) (by assumption) ?_
      rotate_left
      · (intro w hSw; (try dsimp only at hSw); go_simp; try with_reducible rfl)
      try simp only [Act.put, List.setIfInBounds_toArray, List.set_cons_zero, List.set_cons_succ]
      refine wpAnyH_take (i := 8) (oi := { dst := some 192, op := Op.move (Operand.tmp 191), type := 4, pos := "law.go:204", after := #[{ on := 7, ground := Ground.data }, { on := 5, ground := Ground.chain }], guard := none }) (v := ?_) rfl (by kernel_rfl) (by kernel_rfl) (by kernel_rfl) (fun c _ w h => HQ.out c _ _ w h) (Or.inl ⟨by rfl, ?_⟩) (by assumption) ?_
      rotate_left
      · (intro w hSw; (try dsimp only at hSw); go_simp; try with_reducible rfl)
      try simp only [Act.put, List.setIfInBounds_toArray, List.set_cons_zero, List.set_cons_succ]
      refine wpAnyH_take (i := 9) (oi := { dst := some 193, op := Op.move (Operand.tmp 22), type := 37, pos := "law.go:204", after := #[{ on := 8, ground := Ground.guard }], guard := some (8, true) }) (v := undef) rfl (by kernel_rfl) (by kernel_rfl) (by kernel_rfl) (fun c _ w h => HQ.out c _ _ w h) (Or.inr ⟨by rfl, rfl⟩) (by assumption) ?_
      try simp only [Act.put, List.setIfInBounds_toArray, List.set_cons_zero, List.set_cons_succ]
      refine wpAnyH_take (i := 10) (oi := { dst := some 194, op := Op.binOp BinOp.eql 37 (Operand.tmp 193) (Operand.const Value.nilIface) 37, type := 4, pos := "law.go:204", after := #[{ on := 9, ground := Ground.data }, { on := 8, ground := Ground.guard }], guard := some (8, true) }) (v := undef) rfl (by kernel_rfl) (by kernel_rfl) (by kernel_rfl) (fun c _ w h => HQ.out c _ _ w h) (Or.inr ⟨by rfl, rfl⟩) (by assumption) ?_
      try simp only [Act.put, List.setIfInBounds_toArray, List.set_cons_zero, List.set_cons_succ]
      refine wpAnyH_take (i := 11) (oi := { dst := some 195, op := Op.move (Operand.tmp 25), type := 37, pos := "law.go:204", after := #[{ on := 8, ground := Ground.guard }], guard := some (8, true) }) (v := undef) rfl (by kernel_rfl) (by kernel_rfl) (by kernel_rfl) (fun c _ w h => HQ.out c _ _ w h) (Or.inr ⟨by rfl, rfl⟩) (by assumption) ?_
      try simp only [Act.put, List.setIfInBounds_toArray, List.set_cons_zero, List.set_cons_succ]
      refine wpAnyH_take (i := 12) (oi := { dst := some 196, op := Op.binOp BinOp.eql 37 (Operand.tmp 195) (Operand.const Value.nilIface) 37, type := 4, pos := "law.go:204", after := #[{ on := 11, ground := Ground.data }, { on := 8, ground := Ground.guard }], guard := some (8, true) }) (v := undef) rfl (by kernel_rfl) (by kernel_rfl) (by kernel_rfl) (fun c _ w h => HQ.out c _ _ w h) (Or.inr ⟨by rfl, rfl⟩) (by assumption) ?_
      try simp only [Act.put, List.setIfInBounds_toArray, List.set_cons_zero, List.set_cons_succ]
      refine wpAnyH_take (i := 13) (oi := { dst := some 197, op := Op.binOp BinOp.neq 4 (Operand.tmp 194) (Operand.tmp 196) 4, type := 4, pos := "law.go:204", after := #[{ on := 10, ground := Ground.data }, { on := 12, ground := Ground.data }, { on := 8, ground := Ground.guard }], guard := some (8, true) }) (v := undef) rfl (by kernel_rfl) (by kernel_rfl) (by kernel_rfl) (fun c _ w h => HQ.out c _ _ w h) (Or.inr ⟨by rfl, rfl⟩) (by assumption) ?_
      try simp only [Act.put, List.setIfInBounds_toArray, List.set_cons_zero, List.set_cons_succ]
      refine wpAnyH_take (i := 14) (oi := { dst := some 198, op := Op.pick (Operand.tmp 192) (Operand.tmp 197) (Operand.const (Value.bool false)), type := 4, pos := "law.go:204", after := #[{ on := 8, ground := Ground.data }, { on := 13, ground := Ground.data }], guard := none }) (v := ?_) rfl (by kernel_rfl) (by kernel_rfl) (by kernel_rfl) (fun c _ w h => HQ.out c _ _ w h) (Or.inl ⟨by rfl, ?_⟩) (by assumption) ?_
      rotate_left
      · (intro w hSw; (try dsimp only at hSw); go_simp; try with_reducible rfl)
      try simp only [Act.put, List.setIfInBounds_toArray, List.set_cons_zero, List.set_cons_succ]
      refine wpAnyH_done (by kernel_rfl) ?_ _
      refine HKK.out _ _ ?_
      go_wp2_with fail
      exact NX.out _ LB.out
  · have HRU := hid hU
    clear hU
    refine wp_region_held_drew (S := (fun Y => Y.cell? ⟨b9, 0, none⟩ = some (.slice a9 m c9) ∧ Y.cell? ⟨bw, 0, none⟩ = some (.slice (some ⟨gw, 0, none⟩) 3 3))) (by kernel_rfl) T0 (fun hHeld => ?_)
    refine wpAnyH_take (i := 0) (oi := { dst := some 184, op := Op.load 26 (Operand.tmp 20), type := 26, pos := "law.go:204", after := #[], guard := none }) (v := ?_) rfl (by kernel_rfl) (by kernel_rfl) (by kernel_rfl) (fun c _ w h => HQ.out c _ _ w h) (Or.inl ⟨by rfl, ?_⟩) (by assumption) ?_
    rotate_left
    · (intro w hSw; (try dsimp only at hSw); go_simp; try with_reducible rfl)
    try simp only [Act.put, List.setIfInBounds_toArray, List.set_cons_zero, List.set_cons_succ]
    refine wpAnyH_ready (rs := [1]) (by kernel_rfl) (by simp) ?_
    refine AllReadyH.cons (o := { dst := some 185, op := Op.call { callee := Callee.value (Operand.func 15), args := #[Operand.tmp 184], argTypes := #[26] }, type := 37, pos := "law.go:204", after := #[{ on := 0, ground := Ground.data }], guard := none }) rfl (fun K hK => ?_) AllReadyH.nil
    go_simp
    refine (HN9.out _ _ _ (P9.out.low (Below.refl _ _).drew) HRU.out).mono ?_
    rintro e wa ⟨Na, rfl, la⟩
    have LA := hid (bchS (Below.refl _ _).drew la)
    clear la
    have T1 := And.intro ((LA.out.cell (p := ⟨b9, 0, none⟩) hl9).trans T0.1) ((LA.out.cell (p := ⟨bw, 0, none⟩) hlw).trans T0.2)
    clear hHeld
    try simp only [fv]
    go_wp2_with fail
    refine hK.out _ _ T1 (fun hHeld => ?_)
    clear hK K
    try simp only [Act.put, List.setIfInBounds_toArray, List.set_cons_zero, List.set_cons_succ]
    refine wpAnyH_take (i := 2) (oi := { dst := some 186, op := Op.binOp BinOp.eql 37 (Operand.tmp 185) (Operand.const Value.nilIface) 37, type := 4, pos := "law.go:204", after := #[{ on := 1, ground := Ground.data }], guard := none }) (v := ?_) rfl (by kernel_rfl) (by kernel_rfl) (by kernel_rfl) (fun c _ w h => HQ.out c _ _ w h) (Or.inl ⟨by rfl, ?_⟩) (by assumption) ?_
    rotate_left
    · (intro w hSw; (try dsimp only at hSw); go_simp; try with_reducible rfl)
    try simp only [Act.put, List.setIfInBounds_toArray, List.set_cons_zero, List.set_cons_succ]
    refine wpAnyH_take (i := 3) (oi := { dst := some 187, op := Op.move (Operand.tmp 186), type := 4, pos := "law.go:204", after := #[{ on := 2, ground := Ground.data }, { on := 1, ground := Ground.chain }], guard := none }) (v := ?_) rfl (by kernel_rfl) (by kernel_rfl) (by kernel_rfl) (fun c _ w h => HQ.out c _ _ w h) (Or.inl ⟨by rfl, ?_⟩) (by assumption) ?_
    rotate_left
    · (intro w hSw; (try dsimp only at hSw); go_simp; try with_reducible rfl)
    try simp only [Act.put, List.setIfInBounds_toArray, List.set_cons_zero, List.set_cons_succ]
    refine wpAnyH_take (i := 4) (oi := { dst := some 188, op := Op.load 26 (Operand.tmp 23), type := 26, pos := "law.go:204", after := #[{ on := 3, ground := Ground.guard }], guard := some (3, true) }) (v := undef) rfl (by kernel_rfl) (by kernel_rfl) (by kernel_rfl) (fun c _ w h => HQ.out c _ _ w h) (Or.inr ⟨by rfl, rfl⟩) (by assumption) ?_
    try simp only [Act.put, List.setIfInBounds_toArray, List.set_cons_zero, List.set_cons_succ]
    refine wpAnyH_take (i := 5) (oi := { dst := some 189, op := Op.call { callee := Callee.value (Operand.func 15), args := #[Operand.tmp 188], argTypes := #[26] }, type := 37, pos := "law.go:204", after := #[{ on := 4, ground := Ground.data }, { on := 3, ground := Ground.chain }, { on := 3, ground := Ground.guard }], guard := some (3, true) }) (v := undef) rfl (by kernel_rfl) (by kernel_rfl) (by kernel_rfl) (fun c _ w h => HQ.out c _ _ w h) (Or.inr ⟨by rfl, rfl⟩) (by assumption) ?_
    try simp only [Act.put, List.setIfInBounds_toArray, List.set_cons_zero, List.set_cons_succ]
    refine wpAnyH_take (i := 6) (oi := { dst := some 190, op := Op.binOp BinOp.eql 37 (Operand.tmp 189) (Operand.const Value.nilIface) 37, type := 4, pos := "law.go:204", after := #[{ on := 5, ground := Ground.data }, { on := 3, ground := Ground.guard }], guard := some (3, true) }) (v := undef) rfl (by kernel_rfl) (by kernel_rfl) (by kernel_rfl) (fun c _ w h => HQ.out c _ _ w h) (Or.inr ⟨by rfl, rfl⟩) (by assumption) ?_
    try simp only [Act.put, List.setIfInBounds_toArray, List.set_cons_zero, List.set_cons_succ]
    refine wpAnyH_take (i := 7) (oi := { dst := some 191, op := Op.pick (Operand.tmp 187) (Operand.tmp 190) (Operand.const (Value.bool false)), type := 4, pos := "law.go:204", after := #[{ on := 3, ground := Ground.data }, { on := 6, ground := Ground.data }], guard := none }) (v := ?_) rfl (by kernel_rfl) (by kernel_rfl) (by kernel_rfl) (fun c _ w h => HQ.out c _ _ w h) (Or.inl ⟨by rfl, ?_⟩) (by assumption) ?_
    rotate_left
    · (intro w hSw; (try dsimp only at hSw); go_simp; try with_reducible rfl)
    try simp only [Act.put, List.setIfInBounds_toArray, List.set_cons_zero, List.set_cons_succ]
    refine wpAnyH_take (i := 8) (oi := { dst := some 192, op := Op.move (Operand.tmp 191), type := 4, pos := "law.go:204", after := #[{ on := 7, ground := Ground.data }, { on := 5, ground := Ground.chain }], guard := none }) (v := ?_) rfl (by kernel_rfl) (by kernel_rfl) (by kernel_rfl) (fun c _ w h => HQ.out c _ _ w h) (Or.inl ⟨by rfl, ?_⟩) (by assumption) ?_
    rotate_left
    · (intro w hSw; (try dsimp only at hSw); go_simp; try with_reducible rfl)
    try simp only [Act.put, List.setIfInBounds_toArray, List.set_cons_zero, List.set_cons_succ]
    refine wpAnyH_take (i := 9) (oi := { dst := some 193, op := Op.move (Operand.tmp 22), type := 37, pos := "law.go:204", after := #[{ on := 8, ground := Ground.guard }], guard := some (8, true) }) (v := undef) rfl (by kernel_rfl) (by kernel_rfl) (by kernel_rfl) (fun c _ w h => HQ.out c _ _ w h) (Or.inr ⟨by rfl, rfl⟩) (by assumption) ?_
    try simp only [Act.put, List.setIfInBounds_toArray, List.set_cons_zero, List.set_cons_succ]
    refine wpAnyH_take (i := 10) (oi := { dst := some 194, op := Op.binOp BinOp.eql 37 (Operand.tmp 193) (Operand.const Value.nilIface) 37, type := 4, pos := "law.go:204", after := #[{ on := 9, ground := Ground.data }, { on := 8, ground := Ground.guard }], guard := some (8, true) }) (v := undef) rfl (by kernel_rfl) (by kernel_rfl) (by kernel_rfl) (fun c _ w h => HQ.out c _ _ w h) (Or.inr ⟨by rfl, rfl⟩) (by assumption) ?_
    try simp only [Act.put, List.setIfInBounds_toArray, List.set_cons_zero, List.set_cons_succ]
    refine wpAnyH_take (i := 11) (oi := { dst := some 195, op := Op.move (Operand.tmp 25), type := 37, pos := "law.go:204", after := #[{ on := 8, ground := Ground.guard }], guard := some (8, true) }) (v := undef) rfl (by kernel_rfl) (by kernel_rfl) (by kernel_rfl) (fun c _ w h => HQ.out c _ _ w h) (Or.inr ⟨by rfl, rfl⟩) (by assumption) ?_
    try simp only [Act.put, List.setIfInBounds_toArray, List.set_cons_zero, List.set_cons_succ]
    refine wpAnyH_take (i := 12) (oi := { dst := some 196, op := Op.binOp BinOp.eql 37 (Operand.tmp 195) (Operand.const Value.nilIface) 37, type := 4, pos := "law.go:204", after := #[{ on := 11, ground := Ground.data }, { on := 8, ground := Ground.guard }], guard := some (8, true) }) (v := undef) rfl (by kernel_rfl) (by kernel_rfl) (by kernel_rfl) (fun c _ w h => HQ.out c _ _ w h) (Or.inr ⟨by rfl, rfl⟩) (by assumption) ?_
    try simp only [Act.put, List.setIfInBounds_toArray, List.set_cons_zero, List.set_cons_succ]
    refine wpAnyH_take (i := 13) (oi := { dst := some 197, op := Op.binOp BinOp.neq 4 (Operand.tmp 194) (Operand.tmp 196) 4, type := 4, pos := "law.go:204", after := #[{ on := 10, ground := Ground.data }, { on := 12, ground := Ground.data }, { on := 8, ground := Ground.guard }], guard := some (8, true) }) (v := undef) rfl (by kernel_rfl) (by kernel_rfl) (by kernel_rfl) (fun c _ w h => HQ.out c _ _ w h) (Or.inr ⟨by rfl, rfl⟩) (by assumption) ?_
    try simp only [Act.put, List.setIfInBounds_toArray, List.set_cons_zero, List.set_cons_succ]
    refine wpAnyH_take (i := 14) (oi := { dst := some 198, op := Op.pick (Operand.tmp 192) (Operand.tmp 197) (Operand.const (Value.bool false)), type := 4, pos := "law.go:204", after := #[{ on := 8, ground := Ground.data }, { on := 13, ground := Ground.data }], guard := none }) (v := ?_) rfl (by kernel_rfl) (by kernel_rfl) (by kernel_rfl) (fun c _ w h => HQ.out c _ _ w h) (Or.inl ⟨by rfl, ?_⟩) (by assumption) ?_
    rotate_left
    · (intro w hSw; (try dsimp only at hSw); go_simp; try with_reducible rfl)
    try simp only [Act.put, List.setIfInBounds_toArray, List.set_cons_zero, List.set_cons_succ]
    refine wpAnyH_done (by kernel_rfl) ?_ _
    refine HKK.out _ _ ?_
    go_wp2_with fail
    exact NX.out _ LA.out
end Go.Proofs.YtiddnjjaidiohaaGreatDoor.L
