import Derived.Test.YtcldglilhhhdoaaGreatDoorPhJ
namespace Go.Proofs.YtcldglilhhhdoaaGreatDoor.L
open Go.RowKit
set_option linter.unusedVariables false
set_option linter.unusedSimpArgs false
def rtC : Code → Code
  | .seq _ b => b
  | c => c
def hdC : Code → Code
  | .seq a _ => a
  | c => c
theorem made_i1 (w : World) (x : Int) : OwnI (w.alloc (.cells #[.int .i64 x] 3)) 0 (.slice (some ⟨w.heap.size, 0, none⟩) 1 1) [x] := ⟨rfl, .inr ⟨w.heap.size, 1, _, rfl, Nat.zero_le _, heap_alloc_new w _, Nat.le_refl _, by decide, rfl, rfl⟩⟩
theorem made_i2 (w : World) (x y : Int) : OwnI (w.alloc (.cells #[.int .i64 x, .int .i64 y] 3)) 0 (.slice (some ⟨w.heap.size, 0, none⟩) 2 2) [x, y] := ⟨rfl, .inr ⟨w.heap.size, 2, _, rfl, Nat.zero_le _, heap_alloc_new w _, Nat.le_refl _, by decide, rfl, rfl⟩⟩
theorem bch3 {W W1 W2 : World} (h : Below W.heap.size W W1) (k : Below W1.heap.size W1 W2) : Below W.heap.size W W2 := h.trans (k.mono h.size)
/-- A tree as it is, and behind others. -/
theorem shift0 (a : Option Addr) (T : List Pt) (cap n : Nat) (w : World) (hn : n = T.length) (hT : PL w a T) (hl : n ≤ 1000) (hS : Smk T) : Calls Tryz.prog 19 #[.agg #[.slice a n cap], .int .i64 0] w fun e w' => ∃ v ks, e = .returned v ∧ OwnR w' w.heap.size v T ks T.length ∧ Below w.heap.size w w' := by
  subst hn
  refine (shifted_any a T cap 0 w hT hl hS (Nat.zero_le _)).mono ?_
  rintro e w' ⟨v, ks, rfl, h, l⟩
  have e0 : T.map (shK ((0 : Nat) : Int)) = T := map_sh0 T
  rw [e0] at h
  exact ⟨v, ks, rfl, h.r, l⟩
theorem shiftn (a : Option Addr) (T : List Pt) (cap n m : Nat) (w : World) (hn : m = T.length) (hT : PL w a T) (hl : m ≤ 1000) (hS : Smk T) (hb : n ≤ 1000) : Calls Tryz.prog 19 #[.agg #[.slice a m cap], .int .i64 (n : Int)] w fun e w' => ∃ v ks, e = .returned v ∧ OwnR w' w.heap.size v (T.map (shK n)) ks (T.map (shK n)).length ∧ Below w.heap.size w w' := by
  subst hn
  refine (shifted_any a T cap n w hT hl hS hb).mono ?_
  rintro e w' ⟨v, ks, rfl, h, l⟩
  rw [List.length_map]
  exact ⟨v, ks, rfl, h.r, l⟩
set_option maxHeartbeats 16000000 in
set_option maxRecDepth 100000 in
theorem joins_8 {C C2 : Code} {K : Act → World → Prop} {Q : Exit → Act → World → Prop} (hK : ∀ a w, C2.wp Tryz.prog Q a w → K a w) (hC : C = hdC (rtC (rtC (rtC (rtC (rtC (rtC (Option.getD Tryz.f6.body Code.skip)))))))) (W : World) (F S q : ByteArray) (ba bb n m cb : Nat) (vb : Option Addr) {t3 t4 t5 t6 t8 t9 t11 t12 t14 t15 t16 t17 t18 t19 t20 t21 t22 t23 t24 t25 t26 t27 t28 t29 t30 t31 t32 t33 t34 t35 t36 t37 t38 t39 t40 t41 t42 t43 t44 t45 t46 t47 t48 t49 t50 t51 t52 t53 t54 t55 t56 t57 t58 t59 t60 t61 t62 t63 t64 t65 t66 t67 t68 t69 t70 t71 t72 t73 t74 t75 t76 t77 t78 t79 t80 t81 t82 t83 t84 t85 t86 t87 t88 t89 t90 t91 t92 t93 t94 t95 t96 t97 t98 t99 t100 t101 t102 t103 t104 t105 t106 t107 t108 t109 t110 t111 t112 t113 t114 t115 t116 t117 t118 t119 t120 t121 t122 t123 t124 t125 t126 t127 t128 t129 t130 t131 t132 t133 t134 t135 t136 t137 t138 t139 t140 t141 t142 t143 t144 t145 t146 t147 t148 t149 t150 t151 t152 t153 t154 t155 t156 t157 t158 t159 t160 t161 t162 t163 t164 t165 t166 t167 t168 t169 t170 t171 t172 t173 t174 t175 t176 t177 t178 t179 t180 t181 t182 t183 t184 t185 t186 t187 t188 t189 t190 t191 t192 t193 t194 t195 t196 t197 t198 t199 : Value} (hx : W.cell? ⟨bb, 0, none⟩ = some (.slice vb m cb)) (hb : bb < W.heap.size) (hn : n ≤ 1000) (hm : m ≤ 1000) (hq : ∀ c a a' w, Q (.panic c) a w → Q (.panic c) a' w)
    (nx : ∀ (o1 o2 : Nat) (W' : World) {x65 x66 x67 x68 x69 x70 x71 x72 x73 x74 x75 x76 : Value}, Below W.heap.size W W' → OwnI W' 0 (.slice (some ⟨o1, 0, none⟩) 1 1) [(n : Int) - 1] → OwnI W' 0 (.slice (some ⟨o2, 0, none⟩) 2 2) [(n : Int) - 1, (n : Int) + (m : Int) - 1] → C2.wp Tryz.prog Q { tmps := #[.string F, .string S, .string q, t3, t4, t5, t6, .pointer (some ⟨ba, 0, none⟩), t8, t9, .pointer (some ⟨bb, 0, none⟩), t11, t12, .int .i64 (n : Int), .slice (some ⟨o1, 0, none⟩) 1 1, .slice (some ⟨o2, 0, none⟩) 2 2, t16, t17, t18, t19, t20, t21, t22, t23, t24, t25, t26, t27, t28, t29, t30, t31, t32, t33, t34, t35, t36, t37, t38, t39, t40, t41, t42, t43, t44, t45, t46, t47, t48, t49, t50, t51, t52, t53, t54, t55, t56, t57, t58, t59, t60, t61, t62, t63, t64, x65, x66, x67, x68, x69, x70, x71, x72, x73, x74, x75, x76, t77, t78, t79, t80, t81, t82, t83, t84, t85, t86, t87, t88, t89, t90, t91, t92, t93, t94, t95, t96, t97, t98, t99, t100, t101, t102, t103, t104, t105, t106, t107, t108, t109, t110, t111, t112, t113, t114, t115, t116, t117, t118, t119, t120, t121, t122, t123, t124, t125, t126, t127, t128, t129, t130, t131, t132, t133, t134, t135, t136, t137, t138, t139, t140, t141, t142, t143, t144, t145, t146, t147, t148, t149, t150, t151, t152, t153, t154, t155, t156, t157, t158, t159, t160, t161, t162, t163, t164, t165, t166, t167, t168, t169, t170, t171, t172, t173, t174, t175, t176, t177, t178, t179, t180, t181, t182, t183, t184, t185, t186, t187, t188, t189, t190, t191, t192, t193, t194, t195, t196, t197, t198, t199], defers := [] } W') :
    Code.wp Tryz.prog C (Exit.then K Q) { tmps := #[.string F, .string S, .string q, t3, t4, t5, t6, .pointer (some ⟨ba, 0, none⟩), t8, t9, .pointer (some ⟨bb, 0, none⟩), t11, t12, .int .i64 (n : Int), t14, t15, t16, t17, t18, t19, t20, t21, t22, t23, t24, t25, t26, t27, t28, t29, t30, t31, t32, t33, t34, t35, t36, t37, t38, t39, t40, t41, t42, t43, t44, t45, t46, t47, t48, t49, t50, t51, t52, t53, t54, t55, t56, t57, t58, t59, t60, t61, t62, t63, t64, t65, t66, t67, t68, t69, t70, t71, t72, t73, t74, t75, t76, t77, t78, t79, t80, t81, t82, t83, t84, t85, t86, t87, t88, t89, t90, t91, t92, t93, t94, t95, t96, t97, t98, t99, t100, t101, t102, t103, t104, t105, t106, t107, t108, t109, t110, t111, t112, t113, t114, t115, t116, t117, t118, t119, t120, t121, t122, t123, t124, t125, t126, t127, t128, t129, t130, t131, t132, t133, t134, t135, t136, t137, t138, t139, t140, t141, t142, t143, t144, t145, t146, t147, t148, t149, t150, t151, t152, t153, t154, t155, t156, t157, t158, t159, t160, t161, t162, t163, t164, t165, t166, t167, t168, t169, t170, t171, t172, t173, t174, t175, t176, t177, t178, t179, t180, t181, t182, t183, t184, t185, t186, t187, t188, t189, t190, t191, t192, t193, t194, t195, t196, t197, t198, t199], defers := [] } W := by
  subst hC
  have HKK := hid hK
  have NX := hid nx
  have HQ := hid hq
  have HLB := hid hb
  clear hK nx hq hb
  have hw1 : IntKind.i64.wrap ((n : Int) - 1) = (n : Int) - 1 := by (simp [IntKind.wrap, IntKind.bits, IntKind.signed]; omega)
  have hw2 : IntKind.i64.wrap ((n : Int) + (m : Int)) = (n : Int) + (m : Int) := by (simp [IntKind.wrap, IntKind.bits, IntKind.signed]; omega)
  have hw3 : IntKind.i64.wrap ((n : Int) + (m : Int) - 1) = (n : Int) + (m : Int) - 1 := by (simp [IntKind.wrap, IntKind.bits, IntKind.signed]; omega)
  have hmm : m ≤ maxLen := by unfold maxLen; omega
  simp only [hdC, rtC, Option.getD, Tryz.f6]
  refine wp_region_held_drew (S := (fun Y => Y.cell? ⟨bb, 0, none⟩ = some (.slice vb m cb))) (by kernel_rfl) hx (fun hHeld => ?_)
  have HLZ := hid (show Below W.heap.size W W.drew from (Below.refl _ _).drew)
  have HSZ := hid (show W.drew.cell? ⟨bb, 0, none⟩ = some (.slice vb m cb) from hx)
  clear hx
  generalize W.drew = Z at *
  refine wpAnyH_take (i := 0) (oi := { dst := some 65, op := Op.move (Operand.tmp 13), type := 3, pos := "law.go:268", after := #[], guard := none }) (v := ?_) rfl (by kernel_rfl) (by kernel_rfl) (by kernel_rfl) (fun c _ w h => HQ.out c _ _ w h) (Or.inl ⟨by rfl, ?_⟩) (by assumption) ?_
  rotate_left
  · (intro w hSw; (try dsimp only at hSw); go_simp; try with_reducible rfl)
  try simp only [Act.put, List.setIfInBounds_toArray, List.set_cons_zero, List.set_cons_succ]
  refine wpAnyH_take (i := 1) (oi := { dst := some 66, op := Op.binOp BinOp.sub 3 (Operand.tmp 65) (Operand.const (Value.int IntKind.i64 1)) 3, type := 3, pos := "law.go:268", after := #[{ on := 0, ground := Ground.data }], guard := none }) (v := ?_) rfl (by kernel_rfl) (by kernel_rfl) (by kernel_rfl) (fun c _ w h => HQ.out c _ _ w h) (Or.inl ⟨by rfl, ?_⟩) (by assumption) ?_
  rotate_left
  · (intro w hSw; (try dsimp only at hSw); go_simp; try with_reducible rfl)
  try simp only [Act.put, List.setIfInBounds_toArray, List.set_cons_zero, List.set_cons_succ]
  refine wpAnyH_take (i := 3) (oi := { dst := some 68, op := Op.move (Operand.tmp 13), type := 3, pos := "law.go:268", after := #[{ on := 12, ground := Ground.gcOnly Departure.lateStores }], guard := none }) (v := ?_) rfl (by kernel_rfl) (by kernel_rfl) (by kernel_rfl) (fun c _ w h => HQ.out c _ _ w h) (Or.inl ⟨by rfl, ?_⟩) (by assumption) ?_
  rotate_left
  · (intro w hSw; (try dsimp only at hSw); go_simp; try with_reducible rfl)
  try simp only [Act.put, List.setIfInBounds_toArray, List.set_cons_zero, List.set_cons_succ]
  refine wpAnyH_take (i := 4) (oi := { dst := some 69, op := Op.binOp BinOp.sub 3 (Operand.tmp 68) (Operand.const (Value.int IntKind.i64 1)) 3, type := 3, pos := "law.go:268", after := #[{ on := 3, ground := Ground.data }, { on := 12, ground := Ground.gcOnly Departure.lateStores }], guard := none }) (v := ?_) rfl (by kernel_rfl) (by kernel_rfl) (by kernel_rfl) (fun c _ w h => HQ.out c _ _ w h) (Or.inl ⟨by rfl, ?_⟩) (by assumption) ?_
  rotate_left
  · (intro w hSw; (try dsimp only at hSw); go_simp; try with_reducible rfl)
  try simp only [Act.put, List.setIfInBounds_toArray, List.set_cons_zero, List.set_cons_succ]
  refine wpAnyH_take (i := 5) (oi := { dst := some 70, op := Op.move (Operand.tmp 13), type := 3, pos := "law.go:268", after := #[{ on := 12, ground := Ground.gcOnly Departure.lateStores }], guard := none }) (v := ?_) rfl (by kernel_rfl) (by kernel_rfl) (by kernel_rfl) (fun c _ w h => HQ.out c _ _ w h) (Or.inl ⟨by rfl, ?_⟩) (by assumption) ?_
  rotate_left
  · (intro w hSw; (try dsimp only at hSw); go_simp; try with_reducible rfl)
  try simp only [Act.put, List.setIfInBounds_toArray, List.set_cons_zero, List.set_cons_succ]
  refine wpAnyH_take (i := 6) (oi := { dst := some 71, op := Op.fieldAddr 25 (Operand.tmp 10) 0, type := 0, pos := "law.go:268", after := #[], guard := none }) (v := ?_) rfl (by kernel_rfl) (by kernel_rfl) (by kernel_rfl) (fun c _ w h => HQ.out c _ _ w h) (Or.inl ⟨by rfl, ?_⟩) (by assumption) ?_
  rotate_left
  · (intro w hSw; (try dsimp only at hSw); go_simp; try with_reducible rfl)
  try simp only [Act.put, List.setIfInBounds_toArray, List.set_cons_zero, List.set_cons_succ]
  refine wpAnyH_take (i := 7) (oi := { dst := some 72, op := Op.load 23 (Operand.tmp 71), type := 23, pos := "law.go:268", after := #[{ on := 6, ground := Ground.data }], guard := none }) (v := ?_) rfl (by kernel_rfl) (by kernel_rfl) (by kernel_rfl) (fun c _ w h => HQ.out c _ _ w h) (Or.inl ⟨by rfl, ?_⟩) (by assumption) ?_
  rotate_left
  · (intro w hSw; (try dsimp only at hSw); go_simp; try with_reducible rfl)
  try simp only [Act.put, List.setIfInBounds_toArray, List.set_cons_zero, List.set_cons_succ]
  refine wpAnyH_take (i := 8) (oi := { dst := some 73, op := Op.call { callee := Callee.builtin Builtin.len, args := #[Operand.tmp 72], argTypes := #[23] }, type := 3, pos := "law.go:268", after := #[{ on := 7, ground := Ground.data }], guard := none }) (v := ?_) rfl (by kernel_rfl) (by kernel_rfl) (by kernel_rfl) (fun c _ w h => HQ.out c _ _ w h) (Or.inl ⟨by rfl, ?_⟩) (by assumption) ?_
  rotate_left
  · (intro w hSw; (try dsimp only at hSw); go_simp; try with_reducible rfl)
  try simp only [Act.put, List.setIfInBounds_toArray, List.set_cons_zero, List.set_cons_succ]
  refine wpAnyH_take (i := 9) (oi := { dst := some 74, op := Op.binOp BinOp.add 3 (Operand.tmp 70) (Operand.tmp 73) 3, type := 3, pos := "law.go:268", after := #[{ on := 5, ground := Ground.data }, { on := 8, ground := Ground.data }, { on := 12, ground := Ground.gcOnly Departure.lateStores }], guard := none }) (v := ?_) rfl (by kernel_rfl) (by kernel_rfl) (by kernel_rfl) (fun c _ w h => HQ.out c _ _ w h) (Or.inl ⟨by rfl, ?_⟩) (by assumption) ?_
  rotate_left
  · (intro w hSw; (try dsimp only at hSw); go_simp; try with_reducible rfl)
  try simp only [Act.put, List.setIfInBounds_toArray, List.set_cons_zero, List.set_cons_succ]
  refine wpAnyH_take (i := 10) (oi := { dst := some 75, op := Op.binOp BinOp.sub 3 (Operand.tmp 74) (Operand.const (Value.int IntKind.i64 1)) 3, type := 3, pos := "law.go:268", after := #[{ on := 9, ground := Ground.data }, { on := 12, ground := Ground.gcOnly Departure.lateStores }], guard := none }) (v := ?_) rfl (by kernel_rfl) (by kernel_rfl) (by kernel_rfl) (fun c _ w h => HQ.out c _ _ w h) (Or.inl ⟨by rfl, ?_⟩) (by assumption) ?_
  rotate_left
  · (intro w hSw; (try dsimp only at hSw); go_simp; try with_reducible rfl)
  try simp only [Act.put, List.setIfInBounds_toArray, List.set_cons_zero, List.set_cons_succ]
  refine wpAnyH_ready (rs := [2, 11]) (by kernel_rfl) (by simp) ?_
  refine AllReadyH.cons (o := { dst := some 67, op := Op.buildSlice 26 1 #[(0, Operand.tmp 66)], type := 26, pos := "law.go:268", after := #[{ on := 1, ground := Ground.data }], guard := none }) rfl (fun K' hK => ?_) ?_
  · go_simp
    have H1 := hid (made_i1 Z ((n : Int) - 1))
    have HBY := hid (belowA Z (.cells #[.int .i64 ((n : Int) - 1)] 3))
    have HSY := hid ((HBY.out.cell (p := ⟨bb, 0, none⟩) (Nat.lt_of_lt_of_le HLB.out (HLZ.out.size))).trans HSZ.out)
    have HLY := hid (bch3 HLZ.out HBY.out)
    refine hK.out _ _ ?_ (fun hHeld => ?_)
    · exact HSY.out
    clear hK K'
    try simp only [Act.put, List.setIfInBounds_toArray, List.set_cons_zero, List.set_cons_succ]
    generalize Z.alloc (.cells #[.int .i64 ((n : Int) - 1)] 3) = Y at *
    refine wpAnyH_take (i := 12) (oi := { dst := some 14, op := Op.assign (Operand.tmp 67), type := 26, pos := "law.go:268", after := #[{ on := 2, ground := Ground.data }, { on := 0, ground := Ground.phase }, { on := 1, ground := Ground.phase }, { on := 2, ground := Ground.phase }, { on := 3, ground := Ground.textOnly Departure.lateStores }, { on := 4, ground := Ground.textOnly Departure.lateStores }, { on := 5, ground := Ground.textOnly Departure.lateStores }, { on := 6, ground := Ground.textOnly Departure.lateStores }, { on := 7, ground := Ground.textOnly Departure.lateStores }, { on := 8, ground := Ground.textOnly Departure.lateStoresUnsure }, { on := 9, ground := Ground.textOnly Departure.lateStores }, { on := 10, ground := Ground.textOnly Departure.lateStores }, { on := 11, ground := Ground.textOnly Departure.lateStores }], guard := none }) (v := ?_) rfl (by kernel_rfl) (by kernel_rfl) (by kernel_rfl) (fun c _ w h => HQ.out c _ _ w h) (Or.inl ⟨by rfl, ?_⟩) (by assumption) ?_
    rotate_left
    · (intro w hSw; (try dsimp only at hSw); go_simp; try with_reducible rfl)
    try simp only [Act.put, List.setIfInBounds_toArray, List.set_cons_zero, List.set_cons_succ]
    refine wpAnyH_ready (rs := [11]) (by kernel_rfl) (by simp) ?_
    refine AllReadyH.cons (o := { dst := some 76, op := Op.buildSlice 26 2 #[(0, Operand.tmp 69), (1, Operand.tmp 75)], type := 26, pos := "law.go:268", after := #[{ on := 4, ground := Ground.data }, { on := 10, ground := Ground.data }, { on := 12, ground := Ground.gcOnly Departure.lateStores }], guard := none }) rfl (fun K' hK => ?_) AllReadyH.nil
    go_simp
    have H2 := hid (made_i2 Y ((n : Int) - 1) ((n : Int) + (m : Int) - 1))
    have HBV := hid (belowA Y (.cells #[.int .i64 ((n : Int) - 1), .int .i64 ((n : Int) + (m : Int) - 1)] 3))
    have HSV := hid ((HBV.out.cell (p := ⟨bb, 0, none⟩) (Nat.lt_of_lt_of_le HLB.out (HLY.out.size))).trans HSY.out)
    have HLV := hid (bch3 HLY.out HBV.out)
    refine hK.out _ _ ?_ (fun hHeld => ?_)
    · exact HSV.out
    clear hK K'
    try simp only [Act.put, List.setIfInBounds_toArray, List.set_cons_zero, List.set_cons_succ]
    generalize Y.alloc (.cells #[.int .i64 ((n : Int) - 1), .int .i64 ((n : Int) + (m : Int) - 1)] 3) = V at *
    refine wpAnyH_take (i := 13) (oi := { dst := some 15, op := Op.assign (Operand.tmp 76), type := 26, pos := "law.go:268", after := #[{ on := 11, ground := Ground.data }, { on := 12, ground := Ground.chain }, { on := 0, ground := Ground.phase }, { on := 1, ground := Ground.phase }, { on := 2, ground := Ground.phase }, { on := 3, ground := Ground.phase }, { on := 4, ground := Ground.phase }, { on := 5, ground := Ground.phase }, { on := 6, ground := Ground.phase }, { on := 7, ground := Ground.phase }, { on := 8, ground := Ground.phase }, { on := 9, ground := Ground.phase }, { on := 10, ground := Ground.phase }, { on := 11, ground := Ground.phase }, { on := 12, ground := Ground.phase }], guard := none }) (v := ?_) rfl (by kernel_rfl) (by kernel_rfl) (by kernel_rfl) (fun c _ w h => HQ.out c _ _ w h) (Or.inl ⟨by rfl, ?_⟩) (by assumption) ?_
    rotate_left
    · (intro w hSw; (try dsimp only at hSw); go_simp; try with_reducible rfl)
    try simp only [Act.put, List.setIfInBounds_toArray, List.set_cons_zero, List.set_cons_succ]
    refine wpAnyH_done (by kernel_rfl) ?_ _
    clear hHeld
    refine HKK.out _ _ ?_
    exact NX.out _ _ _ HLV.out (own_low H1.out HBV.out) H2.out
  refine AllReadyH.cons (o := { dst := some 76, op := Op.buildSlice 26 2 #[(0, Operand.tmp 69), (1, Operand.tmp 75)], type := 26, pos := "law.go:268", after := #[{ on := 4, ground := Ground.data }, { on := 10, ground := Ground.data }, { on := 12, ground := Ground.gcOnly Departure.lateStores }], guard := none }) rfl (fun K' hK => ?_) AllReadyH.nil
  go_simp
  have H2 := hid (made_i2 Z ((n : Int) - 1) ((n : Int) + (m : Int) - 1))
  have HBY := hid (belowA Z (.cells #[.int .i64 ((n : Int) - 1), .int .i64 ((n : Int) + (m : Int) - 1)] 3))
  have HSY := hid ((HBY.out.cell (p := ⟨bb, 0, none⟩) (Nat.lt_of_lt_of_le HLB.out (HLZ.out.size))).trans HSZ.out)
  have HLY := hid (bch3 HLZ.out HBY.out)
  refine hK.out _ _ ?_ (fun hHeld => ?_)
  · exact HSY.out
  clear hK K'
  try simp only [Act.put, List.setIfInBounds_toArray, List.set_cons_zero, List.set_cons_succ]
  generalize Z.alloc (.cells #[.int .i64 ((n : Int) - 1), .int .i64 ((n : Int) + (m : Int) - 1)] 3) = Y at *
  refine wpAnyH_ready (rs := [2]) (by kernel_rfl) (by simp) ?_
  refine AllReadyH.cons (o := { dst := some 67, op := Op.buildSlice 26 1 #[(0, Operand.tmp 66)], type := 26, pos := "law.go:268", after := #[{ on := 1, ground := Ground.data }], guard := none }) rfl (fun K' hK => ?_) AllReadyH.nil
  go_simp
  have H1 := hid (made_i1 Y ((n : Int) - 1))
  have HBV := hid (belowA Y (.cells #[.int .i64 ((n : Int) - 1)] 3))
  have HSV := hid ((HBV.out.cell (p := ⟨bb, 0, none⟩) (Nat.lt_of_lt_of_le HLB.out (HLY.out.size))).trans HSY.out)
  have HLV := hid (bch3 HLY.out HBV.out)
  refine hK.out _ _ ?_ (fun hHeld => ?_)
  · exact HSV.out
  clear hK K'
  try simp only [Act.put, List.setIfInBounds_toArray, List.set_cons_zero, List.set_cons_succ]
  generalize Y.alloc (.cells #[.int .i64 ((n : Int) - 1)] 3) = V at *
  refine wpAnyH_take (i := 12) (oi := { dst := some 14, op := Op.assign (Operand.tmp 67), type := 26, pos := "law.go:268", after := #[{ on := 2, ground := Ground.data }, { on := 0, ground := Ground.phase }, { on := 1, ground := Ground.phase }, { on := 2, ground := Ground.phase }, { on := 3, ground := Ground.textOnly Departure.lateStores }, { on := 4, ground := Ground.textOnly Departure.lateStores }, { on := 5, ground := Ground.textOnly Departure.lateStores }, { on := 6, ground := Ground.textOnly Departure.lateStores }, { on := 7, ground := Ground.textOnly Departure.lateStores }, { on := 8, ground := Ground.textOnly Departure.lateStoresUnsure }, { on := 9, ground := Ground.textOnly Departure.lateStores }, { on := 10, ground := Ground.textOnly Departure.lateStores }, { on := 11, ground := Ground.textOnly Departure.lateStores }], guard := none }) (v := ?_) rfl (by kernel_rfl) (by kernel_rfl) (by kernel_rfl) (fun c _ w h => HQ.out c _ _ w h) (Or.inl ⟨by rfl, ?_⟩) (by assumption) ?_
  rotate_left
  · (intro w hSw; (try dsimp only at hSw); go_simp; try with_reducible rfl)
  try simp only [Act.put, List.setIfInBounds_toArray, List.set_cons_zero, List.set_cons_succ]
  refine wpAnyH_take (i := 13) (oi := { dst := some 15, op := Op.assign (Operand.tmp 76), type := 26, pos := "law.go:268", after := #[{ on := 11, ground := Ground.data }, { on := 12, ground := Ground.chain }, { on := 0, ground := Ground.phase }, { on := 1, ground := Ground.phase }, { on := 2, ground := Ground.phase }, { on := 3, ground := Ground.phase }, { on := 4, ground := Ground.phase }, { on := 5, ground := Ground.phase }, { on := 6, ground := Ground.phase }, { on := 7, ground := Ground.phase }, { on := 8, ground := Ground.phase }, { on := 9, ground := Ground.phase }, { on := 10, ground := Ground.phase }, { on := 11, ground := Ground.phase }, { on := 12, ground := Ground.phase }], guard := none }) (v := ?_) rfl (by kernel_rfl) (by kernel_rfl) (by kernel_rfl) (fun c _ w h => HQ.out c _ _ w h) (Or.inl ⟨by rfl, ?_⟩) (by assumption) ?_
  rotate_left
  · (intro w hSw; (try dsimp only at hSw); go_simp; try with_reducible rfl)
  try simp only [Act.put, List.setIfInBounds_toArray, List.set_cons_zero, List.set_cons_succ]
  refine wpAnyH_done (by kernel_rfl) ?_ _
  clear hHeld
  refine HKK.out _ _ ?_
  exact NX.out _ _ _ HLV.out H1.out (own_low H2.out HBV.out)
set_option maxHeartbeats 16000000 in
set_option maxRecDepth 100000 in
theorem joins_9 {C C2 : Code} {K : Act → World → Prop} {Q : Exit → Act → World → Prop} (hK : ∀ a w, C2.wp Tryz.prog Q a w → K a w) (hC : C = hdC (rtC (rtC (rtC (rtC (rtC (rtC (rtC (Option.getD Tryz.f6.body Code.skip))))))))) (W : World) (F S q : ByteArray) (A B : List Pt) (ba bb n m ca cb : Nat) (va vb : Option Addr) {t3 t4 t5 t6 t8 t9 t11 t12 t14 t15 t16 t17 t18 t19 t20 t21 t22 t23 t24 t25 t26 t27 t28 t29 t30 t31 t32 t33 t34 t35 t36 t37 t38 t39 t40 t41 t42 t43 t44 t45 t46 t47 t48 t49 t50 t51 t52 t53 t54 t55 t56 t57 t58 t59 t60 t61 t62 t63 t64 t65 t66 t67 t68 t69 t70 t71 t72 t73 t74 t75 t76 t77 t78 t79 t80 t81 t82 t83 t84 t85 t86 t87 t88 t89 t90 t91 t92 t93 t94 t95 t96 t97 t98 t99 t100 t101 t102 t103 t104 t105 t106 t107 t108 t109 t110 t111 t112 t113 t114 t115 t116 t117 t118 t119 t120 t121 t122 t123 t124 t125 t126 t127 t128 t129 t130 t131 t132 t133 t134 t135 t136 t137 t138 t139 t140 t141 t142 t143 t144 t145 t146 t147 t148 t149 t150 t151 t152 t153 t154 t155 t156 t157 t158 t159 t160 t161 t162 t163 t164 t165 t166 t167 t168 t169 t170 t171 t172 t173 t174 t175 t176 t177 t178 t179 t180 t181 t182 t183 t184 t185 t186 t187 t188 t189 t190 t191 t192 t193 t194 t195 t196 t197 t198 t199 : Value} (hx1 : W.cell? ⟨ba, 0, none⟩ = some (.slice va n ca)) (hx2 : W.cell? ⟨bb, 0, none⟩ = some (.slice vb m cb)) (hba : ba < W.heap.size) (hbb : bb < W.heap.size) (hn : n ≤ 1000) (hm : m ≤ 1000) (hna : n = A.length) (hnb : m = B.length) (hmp : 0 < B.length) (hpa : PL W va A) (hpb : PL W vb B) (hsa : Smk A) (hsb : Smk B) (hq : ∀ c a a' w, Q (.panic c) a w → Q (.panic c) a' w)
    (nx : ∀ (vo : Value) (kb : Nat → Value) (W' : World) {x77 x78 x79 x80 x81 x82 : Value}, Below W.heap.size W W' → OwnR W' W.heap.size vo (A ++ B.map (shK n)) kb (A ++ B.map (shK n)).length → C2.wp Tryz.prog Q { tmps := #[.string F, .string S, .string q, t3, t4, t5, t6, .pointer (some ⟨ba, 0, none⟩), t8, t9, .pointer (some ⟨bb, 0, none⟩), t11, t12, .int .i64 (n : Int), t14, t15, vo, t17, t18, t19, t20, t21, t22, t23, t24, t25, t26, t27, t28, t29, t30, t31, t32, t33, t34, t35, t36, t37, t38, t39, t40, t41, t42, t43, t44, t45, t46, t47, t48, t49, t50, t51, t52, t53, t54, t55, t56, t57, t58, t59, t60, t61, t62, t63, t64, t65, t66, t67, t68, t69, t70, t71, t72, t73, t74, t75, t76, x77, x78, x79, x80, x81, x82, t83, t84, t85, t86, t87, t88, t89, t90, t91, t92, t93, t94, t95, t96, t97, t98, t99, t100, t101, t102, t103, t104, t105, t106, t107, t108, t109, t110, t111, t112, t113, t114, t115, t116, t117, t118, t119, t120, t121, t122, t123, t124, t125, t126, t127, t128, t129, t130, t131, t132, t133, t134, t135, t136, t137, t138, t139, t140, t141, t142, t143, t144, t145, t146, t147, t148, t149, t150, t151, t152, t153, t154, t155, t156, t157, t158, t159, t160, t161, t162, t163, t164, t165, t166, t167, t168, t169, t170, t171, t172, t173, t174, t175, t176, t177, t178, t179, t180, t181, t182, t183, t184, t185, t186, t187, t188, t189, t190, t191, t192, t193, t194, t195, t196, t197, t198, t199], defers := [] } W') :
    Code.wp Tryz.prog C (Exit.then K Q) { tmps := #[.string F, .string S, .string q, t3, t4, t5, t6, .pointer (some ⟨ba, 0, none⟩), t8, t9, .pointer (some ⟨bb, 0, none⟩), t11, t12, .int .i64 (n : Int), t14, t15, t16, t17, t18, t19, t20, t21, t22, t23, t24, t25, t26, t27, t28, t29, t30, t31, t32, t33, t34, t35, t36, t37, t38, t39, t40, t41, t42, t43, t44, t45, t46, t47, t48, t49, t50, t51, t52, t53, t54, t55, t56, t57, t58, t59, t60, t61, t62, t63, t64, t65, t66, t67, t68, t69, t70, t71, t72, t73, t74, t75, t76, t77, t78, t79, t80, t81, t82, t83, t84, t85, t86, t87, t88, t89, t90, t91, t92, t93, t94, t95, t96, t97, t98, t99, t100, t101, t102, t103, t104, t105, t106, t107, t108, t109, t110, t111, t112, t113, t114, t115, t116, t117, t118, t119, t120, t121, t122, t123, t124, t125, t126, t127, t128, t129, t130, t131, t132, t133, t134, t135, t136, t137, t138, t139, t140, t141, t142, t143, t144, t145, t146, t147, t148, t149, t150, t151, t152, t153, t154, t155, t156, t157, t158, t159, t160, t161, t162, t163, t164, t165, t166, t167, t168, t169, t170, t171, t172, t173, t174, t175, t176, t177, t178, t179, t180, t181, t182, t183, t184, t185, t186, t187, t188, t189, t190, t191, t192, t193, t194, t195, t196, t197, t198, t199], defers := [] } W := by
  subst hC
  have HKK := hid hK
  have NX := hid nx
  have HQ := hid hq
  have HLA := hid hba
  have HLB := hid hbb
  have HX := hid (And.intro hx1 hx2)
  have HPA := hid hpa
  have HPB := hid hpb
  have HSA := hid hsa
  have HSB := hid hsb
  have HNA := hid hna
  have HNB := hid hnb
  clear hK nx hq hba hbb hx1 hx2 hpa hpb hsa hsb hna hnb
  simp only [hdC, rtC, Option.getD, Tryz.f6]
  refine wp_region_held_drew (S := (fun Y => Y.cell? ⟨ba, 0, none⟩ = some (.slice va n ca) ∧ Y.cell? ⟨bb, 0, none⟩ = some (.slice vb m cb))) (by kernel_rfl) HX.out (fun hHeld => ?_)
  have HLZ := hid (show Below W.heap.size W W.drew from (Below.refl _ _).drew)
  generalize W.drew = Z at *
  refine wpAnyH_take (i := 0) (oi := { dst := some 77, op := Op.load 25 (Operand.tmp 7), type := 25, pos := "law.go:269", after := #[], guard := none }) (v := ?_) rfl (by kernel_rfl) (by kernel_rfl) (by kernel_rfl) (fun c _ w h => HQ.out c _ _ w h) (Or.inl ⟨by rfl, ?_⟩) (by assumption) ?_
  rotate_left
  · (intro w hSw; (try dsimp only at hSw); go_simp; try with_reducible rfl)
  try simp only [Act.put, List.setIfInBounds_toArray, List.set_cons_zero, List.set_cons_succ]
  refine wpAnyH_take (i := 2) (oi := { dst := some 79, op := Op.load 25 (Operand.tmp 10), type := 25, pos := "law.go:269", after := #[], guard := none }) (v := ?_) rfl (by kernel_rfl) (by kernel_rfl) (by kernel_rfl) (fun c _ w h => HQ.out c _ _ w h) (Or.inl ⟨by rfl, ?_⟩) (by assumption) ?_
  rotate_left
  · (intro w hSw; (try dsimp only at hSw); go_simp; try with_reducible rfl)
  try simp only [Act.put, List.setIfInBounds_toArray, List.set_cons_zero, List.set_cons_succ]
  refine wpAnyH_take (i := 3) (oi := { dst := some 80, op := Op.move (Operand.tmp 13), type := 3, pos := "law.go:269", after := #[], guard := none }) (v := ?_) rfl (by kernel_rfl) (by kernel_rfl) (by kernel_rfl) (fun c _ w h => HQ.out c _ _ w h) (Or.inl ⟨by rfl, ?_⟩) (by assumption) ?_
  rotate_left
  · (intro w hSw; (try dsimp only at hSw); go_simp; try with_reducible rfl)
  try simp only [Act.put, List.setIfInBounds_toArray, List.set_cons_zero, List.set_cons_succ]
  refine wpAnyH_ready (rs := [1]) (by kernel_rfl) (by simp) ?_
  refine AllReadyH.cons (o := { dst := some 78, op := Op.call { callee := Callee.value (Operand.func 19), args := #[Operand.tmp 77, Operand.const (Value.int IntKind.i64 0)], argTypes := #[25, 3] }, type := 23, pos := "law.go:269", after := #[{ on := 0, ground := Ground.data }], guard := none }) rfl (fun K' hK => ?_) AllReadyH.nil
  go_simp
  refine (shift0 va A ca n Z HNA.out (HPA.out.low HLZ.out) hn HSA.out).mono ?_
  rintro e Y ⟨v1, k1, rfl, r1, l⟩
  have HLY := hid (bch3 HLZ.out l)
  have HSY := hid (And.intro ((HLY.out.cell (p := ⟨ba, 0, none⟩) HLA.out).trans HX.out.1) ((HLY.out.cell (p := ⟨bb, 0, none⟩) HLB.out).trans HX.out.2))
  have HR1 := hid r1
  have HLY2 := hid l
  clear r1 l
  refine hK.out _ _ ?_ (fun hHeld => ?_)
  · exact HSY.out
  clear hK K'
  try simp only [Act.put, List.setIfInBounds_toArray, List.set_cons_zero, List.set_cons_succ]
  refine wpAnyH_ready (rs := [4]) (by kernel_rfl) (by simp) ?_
  refine AllReadyH.cons (o := { dst := some 81, op := Op.call { callee := Callee.value (Operand.func 19), args := #[Operand.tmp 79, Operand.tmp 80], argTypes := #[25, 3] }, type := 23, pos := "law.go:269", after := #[{ on := 2, ground := Ground.data }, { on := 3, ground := Ground.data }, { on := 1, ground := Ground.chain }], guard := none }) rfl (fun K' hK => ?_) AllReadyH.nil
  go_simp
  refine (shiftn vb B cb n m Y HNB.out (HPB.out.low HLY.out) hm HSB.out hn).mono ?_
  rintro e V ⟨v2, k2, rfl, r2, l⟩
  have HLV := hid (bch3 HLY.out l)
  have HSV := hid (And.intro ((HLV.out.cell (p := ⟨ba, 0, none⟩) HLA.out).trans HX.out.1) ((HLV.out.cell (p := ⟨bb, 0, none⟩) HLB.out).trans HX.out.2))
  have HR2 := hid r2
  have HR1V := hid (HR1.out.low l)
  have HZV := hid (HLY2.out.size)
  have HYV := hid l.size
  clear r2 l
  refine hK.out _ _ ?_ (fun hHeld => ?_)
  · exact HSV.out
  clear hK K'
  try simp only [Act.put, List.setIfInBounds_toArray, List.set_cons_zero, List.set_cons_succ]
  refine wpAnyH_ready (rs := [5]) (by kernel_rfl) (by simp) ?_
  refine AllReadyH.cons (o := { dst := some 82, op := Op.call { callee := Callee.builtin Builtin.append, args := #[Operand.tmp 78, Operand.tmp 81], argTypes := #[23, 23] }, type := 23, pos := "law.go:269", after := #[{ on := 1, ground := Ground.data }, { on := 4, ground := Ground.data }, { on := 4, ground := Ground.chain }], guard := none }) rfl (fun K' hK => ?_) AllReadyH.nil
  rw [if_pos (by first | rfl | kernel_rfl)]
  refine wp_parts _ _ rfl rfl rfl HR1V.out HR2.out (by rw [List.length_map]; exact hmp) (by rw [List.length_map, ← HNA.out, ← HNB.out]; omega) (Nat.le_trans HZV.out HYV.out) ?_
  intro v3 U r3 l3
  have HR3 := hid r3
  have HLU := hid (show Below W.heap.size W U from HLV.out.trans (l3.mono HLZ.out.size))
  have HSU := hid (And.intro ((HLU.out.cell (p := ⟨ba, 0, none⟩) HLA.out).trans HX.out.1) ((HLU.out.cell (p := ⟨bb, 0, none⟩) HLB.out).trans HX.out.2))
  clear r3 l3
  refine hK.out _ _ ?_ (fun hHeld => ?_)
  · exact HSU.out
  clear hK K'
  try simp only [Act.put, List.setIfInBounds_toArray, List.set_cons_zero, List.set_cons_succ]
  refine wpAnyH_take (i := 6) (oi := { dst := some 16, op := Op.assign (Operand.tmp 82), type := 23, pos := "law.go:269", after := #[{ on := 5, ground := Ground.data }, { on := 5, ground := Ground.chain }, { on := 0, ground := Ground.phase }, { on := 1, ground := Ground.phase }, { on := 2, ground := Ground.phase }, { on := 3, ground := Ground.phase }, { on := 4, ground := Ground.phase }, { on := 5, ground := Ground.phase }], guard := none }) (v := ?_) rfl (by kernel_rfl) (by kernel_rfl) (by kernel_rfl) (fun c _ w h => HQ.out c _ _ w h) (Or.inl ⟨by rfl, ?_⟩) (by assumption) ?_
  rotate_left
  · (intro w hSw; (try dsimp only at hSw); go_simp; try with_reducible rfl)
  try simp only [Act.put, List.setIfInBounds_toArray, List.set_cons_zero, List.set_cons_succ]
  refine wpAnyH_done (by kernel_rfl) ?_ _
  clear hHeld
  refine HKK.out _ _ ?_
  exact NX.out _ _ _ HLU.out (HR3.out.base HLZ.out.size)
end Go.Proofs.YtcldglilhhhdoaaGreatDoor.L
