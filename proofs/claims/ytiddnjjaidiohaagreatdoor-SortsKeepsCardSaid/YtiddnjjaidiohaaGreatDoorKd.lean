import Derived.Test.YtiddnjjaidiohaaGreatDoorMgBC
namespace Go.Proofs.YtiddnjjaidiohaaGreatDoor.L.Kp
open Go.RowKit Go.Shelf
set_option linter.unusedVariables false
set_option linter.unusedSimpArgs false
/-- What stands between the two stores of a round. -/
structure Mid (W : World) (base gp gr mb mc n : Nat) (T : List Pt) (ks : Nat → Value) (xs : List Value) (k : Nat) (rv : Value) (l : Nat) (zs : List Int) : Prop where
  box : W.heap[mb]? = some (.cells #[.slice (some ⟨gp, 0, none⟩) n mc] 26 (0, 0))
  mine : OwnP W base (.slice (some ⟨gp, 0, none⟩) n mc) T ks n
  room : W.ownsRow base 58 1 (.slice (some ⟨gr, 0, none⟩) n n) n xs
  own : W.ownsRow base 3 1 rv l (zs.map (Value.int .i64))
  at' : fv_ xs k = rv
set_option maxHeartbeats 16000000 in
set_option maxRecDepth 100000 in
theorem keep_12 {C : Code} {Q : Exit → Act → World → Prop} (hC : C = rtC (rtC (bdC (hdC (rtC (rtC (bdC (bdC (rtC (hdC (rtC (rtC (rtC (rtC (rtC (rtC (Option.getD Tryz.f7.body Code.skip))))))))))))))))) (W : World) (base gp gr mb mc k n : Nat) (T : List Pt) (ks : Nat → Value) (xs : List Value) (a9 : Option Addr) (m c9 : Nat) (zs : List Int) {t0 t1 t2 t3 t4 t5 t6 t10 t11 t12 t13 t14 t15 t16 t17 t18 t19 t20 t21 t22 t23 t24 t25 t26 t27 t28 t29 t30 t31 t32 t33 t34 t35 t36 t37 t38 t39 t40 t41 t42 t43 t44 t45 t46 t47 t48 t49 t50 t51 t52 t53 t54 t55 t56 t57 t58 t59 t60 t61 t62 t63 t64 t65 t66 t67 t68 t69 t70 t71 t72 t73 t74 t75 t76 t77 t78 t79 t80 t81 t82 t83 t84 t85 t86 t87 t88 t89 t90 t91 t92 t93 t94 t95 t96 t97 t98 t99 t100 t101 t102 t103 t104 t105 t106 t107 t108 t109 t110 t111 t112 t113 t114 t115 t116 t117 t118 t119 t120 t121 t122 t123 t124 t125 t126 t127 t128 t129 t130 t131 t132 t133 t134 t135 t136 t137 t138 t139 t140 t141 t142 t143 t144 t145 t146 t147 t148 t149 t150 t151 t152 t153 t154 t155 t156 t157 t158 t159 t160 t161 t162 t163 t164 t165 t166 t167 t168 t169 t170 t171 t172 t173 t174 t175 t176 t177 t178 t179 t180 t181 t182 t183 t184 t185 t186 t187 t188 t189 t190 t191 t192 t193 t194 t195 t196 t197 t198 t199 t200 t201 t202 t203 t204 t205 t206 t207 t208 t209 t210 t211 t212 t213 t214 t215 t216 t217 t218 t219 t220 t221 t222 t223 t224 t225 t226 t227 t228 t229 t230 t231 t232 t233 t234 t235 t236 t237 t238 t239 t240 t241 t242 t243 t244 t245 t246 t247 t248 t249 t250 t251 t252 t253 t254 t255 t256 t257 t258 t259 t260 t261 t262 t263 t264 t265 t266 t267 t268 t269 t270 t271 t272 t273 t274 t275 t276 t277 t278 t279 t280 t281 t282 t283 t284 t285 t286 t287 t288 t289 t290 t291 t292 t293 t294 : Value}
    (hm : Mid W base gp gr mb mc n T ks xs k (.slice a9 (m + 3) c9) (m + 3) (zs ++ mks)) (hk : k < n) (hn : n ≤ 100000) (hzs : zs = (pt T k).kids) (hmz : m = zs.length) (hl : m ≤ 100000)
    (hq : ∀ c a a' w, Q (.panic c) a w → Q (.panic c) a' w)
    (nx : ∀ (W' : World) {x73 x74 x75 x76 x77 x78 x79 x80 x81 x82 x83 x84 x85 x86 x87 x88 : Value}, But2 (some gp) (some gr) W W' → OwnP W' base (.slice (some ⟨gp, 0, none⟩) n mc) T (fun j => if j = k then cutV (.slice a9 (m + 3) c9) m else ks j) n → W'.ownsRow base 58 1 (.slice (some ⟨gr, 0, none⟩) n n) n xs → OwnI W' base (.slice a9 (m + 3) c9) (zs ++ mks) → Q Exit.normal { tmps := #[t0, t1, t2, t3, t4, t5, t6, .pointer (some ⟨mb, 0, none⟩), .slice (some ⟨gr, 0, none⟩) n n, .int .i64 (k : Int), t10, t11, t12, t13, t14, t15, t16, t17, t18, t19, t20, t21, t22, t23, t24, t25, t26, t27, t28, t29, t30, t31, t32, t33, t34, t35, t36, t37, t38, t39, t40, t41, t42, t43, t44, t45, t46, t47, t48, t49, t50, t51, t52, t53, t54, t55, t56, t57, t58, t59, t60, t61, t62, t63, t64, t65, t66, t67, t68, t69, t70, t71, t72, x73, x74, x75, x76, x77, x78, x79, x80, x81, x82, x83, x84, x85, x86, x87, x88, t89, t90, t91, t92, t93, t94, t95, t96, t97, t98, t99, t100, t101, t102, t103, t104, t105, t106, t107, t108, t109, t110, t111, t112, t113, t114, t115, t116, t117, t118, t119, t120, t121, t122, t123, t124, t125, t126, t127, t128, t129, t130, t131, t132, t133, t134, t135, t136, t137, t138, t139, t140, t141, t142, t143, t144, t145, t146, t147, t148, t149, t150, t151, t152, t153, t154, t155, t156, t157, t158, t159, t160, t161, t162, t163, t164, t165, t166, t167, t168, t169, t170, t171, t172, t173, t174, t175, t176, t177, t178, t179, t180, t181, t182, t183, t184, t185, t186, t187, t188, t189, t190, t191, t192, t193, t194, t195, t196, t197, t198, t199, t200, t201, t202, t203, t204, t205, t206, t207, t208, t209, t210, t211, t212, t213, t214, t215, t216, t217, t218, t219, t220, t221, t222, t223, t224, t225, t226, t227, t228, t229, t230, t231, t232, t233, t234, t235, t236, t237, t238, t239, t240, t241, t242, t243, t244, t245, t246, t247, t248, t249, t250, t251, t252, t253, t254, t255, t256, t257, t258, t259, t260, t261, t262, t263, t264, t265, t266, t267, t268, t269, t270, t271, t272, t273, t274, t275, t276, t277, t278, t279, t280, t281, t282, t283, t284, t285, t286, t287, t288, t289, t290, t291, t292, t293, t294], defers := [] } W') :
    Code.wp Tryz.prog C Q { tmps := #[t0, t1, t2, t3, t4, t5, t6, .pointer (some ⟨mb, 0, none⟩), .slice (some ⟨gr, 0, none⟩) n n, .int .i64 (k : Int), t10, t11, t12, t13, t14, t15, t16, t17, t18, t19, t20, t21, t22, t23, t24, t25, t26, t27, t28, t29, t30, t31, t32, t33, t34, t35, t36, t37, t38, t39, t40, t41, t42, t43, t44, t45, t46, t47, t48, t49, t50, t51, t52, t53, t54, t55, t56, t57, t58, t59, t60, t61, t62, t63, t64, t65, t66, t67, t68, t69, t70, t71, t72, t73, t74, t75, t76, t77, t78, t79, t80, t81, t82, t83, t84, t85, t86, t87, t88, t89, t90, t91, t92, t93, t94, t95, t96, t97, t98, t99, t100, t101, t102, t103, t104, t105, t106, t107, t108, t109, t110, t111, t112, t113, t114, t115, t116, t117, t118, t119, t120, t121, t122, t123, t124, t125, t126, t127, t128, t129, t130, t131, t132, t133, t134, t135, t136, t137, t138, t139, t140, t141, t142, t143, t144, t145, t146, t147, t148, t149, t150, t151, t152, t153, t154, t155, t156, t157, t158, t159, t160, t161, t162, t163, t164, t165, t166, t167, t168, t169, t170, t171, t172, t173, t174, t175, t176, t177, t178, t179, t180, t181, t182, t183, t184, t185, t186, t187, t188, t189, t190, t191, t192, t193, t194, t195, t196, t197, t198, t199, t200, t201, t202, t203, t204, t205, t206, t207, t208, t209, t210, t211, t212, t213, t214, t215, t216, t217, t218, t219, t220, t221, t222, t223, t224, t225, t226, t227, t228, t229, t230, t231, t232, t233, t234, t235, t236, t237, t238, t239, t240, t241, t242, t243, t244, t245, t246, t247, t248, t249, t250, t251, t252, t253, t254, t255, t256, t257, t258, t259, t260, t261, t262, t263, t264, t265, t266, t267, t268, t269, t270, t271, t272, t273, t274, t275, t276, t277, t278, t279, t280, t281, t282, t283, t284, t285, t286, t287, t288, t289, t290, t291, t292, t293, t294], defers := [] } W := by
  subst hC
  have hxl : k < xs.length := by have h1 := hm.room.1; rw [Nat.mul_one] at h1; omega
  have hat := hm.at'
  obtain ⟨g, hg9, hgc, hgl⟩ : ∃ g, a9 = some ⟨g, 0, none⟩ ∧ m + 3 ≤ c9 ∧ c9 ≤ maxLen := by
    rcases hm.own.2 with ⟨e, _⟩ | ⟨g, cap, cur, e, _, _, h3, h4, _⟩
    · cases e
    · cases e
      exact ⟨g, rfl, h3, h4⟩
  subst hg9
  have NX := hid nx
  have HQ := hid hq
  have HM := hid hm
  have HKN := hid hk
  have HMP := hid (show mb ≠ gp from blk_ne hm.mine.row hm.box (by decide))
  have HPR := hid (show gp ≠ gr from fun e => by
    obtain ⟨cs, hcs⟩ := row_heap hm.mine.row
    exact blk_ne hm.room hcs (by decide) e)
  have c1 : W.cell? ⟨gr, k, none⟩ = some (.slice (some ⟨g, 0, none⟩) (m + 3) c9) := by
    rw [row_cell hm.room k (by omega), List.getElem?_eq_getElem hxl]
    unfold fv_ at hat
    rw [List.getD_eq_getElem?_getD, List.getElem?_eq_getElem hxl] at hat
    rw [← hat]
    rfl
  have T0 : W.drew.cell? ⟨mb, 0, none⟩ = some (.slice (some ⟨gp, 0, none⟩) n mc) ∧ W.drew.cell? ⟨gr, k, none⟩ = some (.slice (some ⟨g, 0, none⟩) (m + 3) c9) := ⟨cell_of_one hm.box, c1⟩
  have HFI : Hid (∀ Y : World, Below W.heap.size W Y → But2 (some gp) (some gr) W (Y.setCell ⟨gp, k * 4 + 3, none⟩ (.slice (some ⟨g, 0, none⟩) m c9)) ∧ OwnP (Y.setCell ⟨gp, k * 4 + 3, none⟩ (.slice (some ⟨g, 0, none⟩) m c9)) base (.slice (some ⟨gp, 0, none⟩) n mc) T (fun j => if j = k then .slice (some ⟨g, 0, none⟩) m c9 else ks j) n ∧ (Y.setCell ⟨gp, k * 4 + 3, none⟩ (.slice (some ⟨g, 0, none⟩) m c9)).ownsRow base 58 1 (.slice (some ⟨gr, 0, none⟩) n n) n xs ∧ OwnI (Y.setCell ⟨gp, k * 4 + 3, none⟩ (.slice (some ⟨g, 0, none⟩) m c9)) base (.slice (some ⟨g, 0, none⟩) (m + 3) c9) (zs ++ mks)) := hid (fun Y hb => by
    have hg := Ap.grown_set Y gp (k * 4 + 3) (.slice (some ⟨g, 0, none⟩) m c9)
    have hM1 := hm.mine.low hb
    have hR1 := row_low hm.room hb
    have hO1 := row_low hm.own hb
    obtain ⟨cs, hcs⟩ := row_heap hM1.row
    have hle : (zs ++ mks).length = m + 3 := by rw [List.length_append, ← hmz]; rfl
    have hO2 : OwnI (Y.setCell ⟨gp, k * 4 + 3, none⟩ (.slice (some ⟨g, 0, none⟩) m c9)) base (.slice (some ⟨g, 0, none⟩) (m + 3) c9) (zs ++ mks) := by
      unfold OwnI
      rw [hle]
      exact World.ownsRow.kept hO1 hg (row_off hO1 hcs (by decide))
    have hcut : OwnI (Y.setCell ⟨gp, k * 4 + 3, none⟩ (.slice (some ⟨g, 0, none⟩) m c9)) base (.slice (some ⟨g, 0, none⟩) m c9) zs := by
      have h1 : OwnI (Y.setCell ⟨gp, k * 4 + 3, none⟩ (.slice (some ⟨g, 0, none⟩) m c9)) base (.slice (some ⟨g, 0, none⟩) (zs ++ mks).length c9) (zs ++ mks) := by rw [hle]; exact hO2
      have h2 := own_take h1 m (by omega)
      have h3 : (zs ++ mks).take m = zs := by rw [hmz]; exact List.take_left ..
      rw [h3] at h2
      exact h2
    refine ⟨(But2.of_below hb).trans (But2.of_left hg), ⟨?_, fun j hj => ?_⟩, World.ownsRow.kept hR1 hg (row_off hR1 hcs (by decide)), hO2⟩
    · have h3 := row_set hM1.row (k * 4 + 3) (by omega) (.slice (some ⟨g, 0, none⟩) m c9)
      rwa [CP_set T ks k _ n hk] at h3
    · by_cases e : j = k
      · simp only [if_pos e]
        rw [e, ← hzs]
        exact hcut
      · simp only [if_neg e]
        exact World.ownsRow.kept (hM1.kids j hj) hg (row_off (hM1.kids j hj) hcs (by decide)))
  have g1 : (k : Int) < (n : Int) := by omega
  have g2 : (0 : Int) ≤ (k : Int) := by omega
  have g3 : ((k : Int) * 4).toNat = k * 4 := by omega
  have hw3 : IntKind.i64.wrap (m : Int) = (m : Int) := by rw [IntKind.wrap_i64]; omega
  have hmc : m ≤ c9 := by omega
  clear nx hq hm hk hn hzs hmz c1 hat hxl
  simp only [hdC, bdC, rtC, Option.getD, Tryz.f7]
  refine wp_region_held_drew (S := (fun Y => Y.cell? ⟨mb, 0, none⟩ = some (.slice (some ⟨gp, 0, none⟩) n mc) ∧ Y.cell? ⟨gr, k, none⟩ = some (.slice (some ⟨g, 0, none⟩) (m + 3) c9))) (by kernel_rfl) T0 (fun hHeld => ?_)
  have BD := hid (Below.refl W.heap.size W).drew
  clear T0
  generalize W.drew = Y0 at *
  refine wpAnyH_take (i := 0) (oi := { dst := some 73, op := Op.fieldAddr 26 (Operand.tmp 7) 0, type := 0, pos := "law.go:309", after := #[], guard := none }) (v := ?_) rfl (by kernel_rfl) (by kernel_rfl) (by kernel_rfl) (fun c _ w h => HQ.out c _ _ w h) (Or.inl ⟨by rfl, ?_⟩) (by assumption) ?_
  rotate_left
  · (intro w hSw; (try dsimp only at hSw); go_simp; try with_reducible rfl)
  try simp only [Act.put, List.setIfInBounds_toArray, List.set_cons_zero, List.set_cons_succ]
  refine wpAnyH_take (i := 1) (oi := { dst := some 74, op := Op.load 24 (Operand.tmp 73), type := 24, pos := "law.go:309", after := #[{ on := 0, ground := Ground.data }], guard := none }) (v := ?_) rfl (by kernel_rfl) (by kernel_rfl) (by kernel_rfl) (fun c _ w h => HQ.out c _ _ w h) (Or.inl ⟨by rfl, ?_⟩) (by assumption) ?_
  rotate_left
  · (intro w hSw; (try dsimp only at hSw); go_simp; try with_reducible rfl)
  try simp only [Act.put, List.setIfInBounds_toArray, List.set_cons_zero, List.set_cons_succ]
  refine wpAnyH_take (i := 2) (oi := { dst := some 75, op := Op.move (Operand.tmp 9), type := 3, pos := "law.go:309", after := #[], guard := none }) (v := ?_) rfl (by kernel_rfl) (by kernel_rfl) (by kernel_rfl) (fun c _ w h => HQ.out c _ _ w h) (Or.inl ⟨by rfl, ?_⟩) (by assumption) ?_
  rotate_left
  · (intro w hSw; (try dsimp only at hSw); go_simp; try with_reducible rfl)
  try simp only [Act.put, List.setIfInBounds_toArray, List.set_cons_zero, List.set_cons_succ]
  refine wpAnyH_take (i := 3) (oi := { dst := some 76, op := Op.move (Operand.tmp 8), type := 63, pos := "law.go:309", after := #[], guard := none }) (v := ?_) rfl (by kernel_rfl) (by kernel_rfl) (by kernel_rfl) (fun c _ w h => HQ.out c _ _ w h) (Or.inl ⟨by rfl, ?_⟩) (by assumption) ?_
  rotate_left
  · (intro w hSw; (try dsimp only at hSw); go_simp; try with_reducible rfl)
  try simp only [Act.put, List.setIfInBounds_toArray, List.set_cons_zero, List.set_cons_succ]
  refine wpAnyH_take (i := 4) (oi := { dst := some 77, op := Op.move (Operand.tmp 9), type := 3, pos := "law.go:309", after := #[], guard := none }) (v := ?_) rfl (by kernel_rfl) (by kernel_rfl) (by kernel_rfl) (fun c _ w h => HQ.out c _ _ w h) (Or.inl ⟨by rfl, ?_⟩) (by assumption) ?_
  rotate_left
  · (intro w hSw; (try dsimp only at hSw); go_simp; try with_reducible rfl)
  try simp only [Act.put, List.setIfInBounds_toArray, List.set_cons_zero, List.set_cons_succ]
  refine wpAnyH_take (i := 5) (oi := { dst := some 78, op := Op.indexAddr 63 (Operand.tmp 76) (Operand.tmp 77), type := 0, pos := "law.go:309", after := #[{ on := 3, ground := Ground.data }, { on := 4, ground := Ground.data }], guard := none }) (v := ?_) rfl (by kernel_rfl) (by kernel_rfl) (by kernel_rfl) (fun c _ w h => HQ.out c _ _ w h) (Or.inl ⟨by rfl, ?_⟩) (by assumption) ?_
  rotate_left
  · (intro w hSw; (try dsimp only at hSw); go_simp; try with_reducible rfl)
  try simp only [Act.put, List.setIfInBounds_toArray, List.set_cons_zero, List.set_cons_succ]
  refine wpAnyH_take (i := 6) (oi := { dst := some 79, op := Op.load 58 (Operand.tmp 78), type := 58, pos := "law.go:309", after := #[{ on := 5, ground := Ground.data }], guard := none }) (v := ?_) rfl (by kernel_rfl) (by kernel_rfl) (by kernel_rfl) (fun c _ w h => HQ.out c _ _ w h) (Or.inl ⟨by rfl, ?_⟩) (by assumption) ?_
  rotate_left
  · (intro w hSw; (try dsimp only at hSw); go_simp; try with_reducible rfl)
  try simp only [Act.put, List.setIfInBounds_toArray, List.set_cons_zero, List.set_cons_succ]
  refine wpAnyH_take (i := 7) (oi := { dst := some 80, op := Op.move (Operand.tmp 8), type := 63, pos := "law.go:309", after := #[], guard := none }) (v := ?_) rfl (by kernel_rfl) (by kernel_rfl) (by kernel_rfl) (fun c _ w h => HQ.out c _ _ w h) (Or.inl ⟨by rfl, ?_⟩) (by assumption) ?_
  rotate_left
  · (intro w hSw; (try dsimp only at hSw); go_simp; try with_reducible rfl)
  try simp only [Act.put, List.setIfInBounds_toArray, List.set_cons_zero, List.set_cons_succ]
  refine wpAnyH_take (i := 8) (oi := { dst := some 81, op := Op.move (Operand.tmp 9), type := 3, pos := "law.go:309", after := #[], guard := none }) (v := ?_) rfl (by kernel_rfl) (by kernel_rfl) (by kernel_rfl) (fun c _ w h => HQ.out c _ _ w h) (Or.inl ⟨by rfl, ?_⟩) (by assumption) ?_
  rotate_left
  · (intro w hSw; (try dsimp only at hSw); go_simp; try with_reducible rfl)
  try simp only [Act.put, List.setIfInBounds_toArray, List.set_cons_zero, List.set_cons_succ]
  refine wpAnyH_take (i := 9) (oi := { dst := some 82, op := Op.indexAddr 63 (Operand.tmp 80) (Operand.tmp 81), type := 0, pos := "law.go:309", after := #[{ on := 7, ground := Ground.data }, { on := 8, ground := Ground.data }], guard := none }) (v := ?_) rfl (by kernel_rfl) (by kernel_rfl) (by kernel_rfl) (fun c _ w h => HQ.out c _ _ w h) (Or.inl ⟨by rfl, ?_⟩) (by assumption) ?_
  rotate_left
  · (intro w hSw; (try dsimp only at hSw); go_simp; try with_reducible rfl)
  try simp only [Act.put, List.setIfInBounds_toArray, List.set_cons_zero, List.set_cons_succ]
  refine wpAnyH_take (i := 10) (oi := { dst := some 83, op := Op.load 58 (Operand.tmp 82), type := 58, pos := "law.go:309", after := #[{ on := 9, ground := Ground.data }], guard := none }) (v := ?_) rfl (by kernel_rfl) (by kernel_rfl) (by kernel_rfl) (fun c _ w h => HQ.out c _ _ w h) (Or.inl ⟨by rfl, ?_⟩) (by assumption) ?_
  rotate_left
  · (intro w hSw; (try dsimp only at hSw); go_simp; try with_reducible rfl)
  try simp only [Act.put, List.setIfInBounds_toArray, List.set_cons_zero, List.set_cons_succ]
  refine wpAnyH_take (i := 11) (oi := { dst := some 84, op := Op.call { callee := Callee.builtin Builtin.len, args := #[Operand.tmp 83], argTypes := #[58] }, type := 3, pos := "law.go:309", after := #[{ on := 10, ground := Ground.data }], guard := none }) (v := ?_) rfl (by kernel_rfl) (by kernel_rfl) (by kernel_rfl) (fun c _ w h => HQ.out c _ _ w h) (Or.inl ⟨by rfl, ?_⟩) (by assumption) ?_
  rotate_left
  · (intro w hSw; (try dsimp only at hSw); go_simp; try with_reducible rfl)
  try simp only [Act.put, List.setIfInBounds_toArray, List.set_cons_zero, List.set_cons_succ]
  refine wpAnyH_take (i := 12) (oi := { dst := some 85, op := Op.binOp BinOp.sub 3 (Operand.tmp 84) (Operand.const (Value.int IntKind.i64 3)) 3, type := 3, pos := "law.go:309", after := #[{ on := 11, ground := Ground.data }], guard := none }) (v := ?_) rfl (by kernel_rfl) (by kernel_rfl) (by kernel_rfl) (fun c _ w h => HQ.out c _ _ w h) (Or.inl ⟨by rfl, ?_⟩) (by assumption) ?_
  rotate_left
  · (intro w hSw; (try dsimp only at hSw); go_simp; try with_reducible rfl)
  try simp only [Act.put, List.setIfInBounds_toArray, List.set_cons_zero, List.set_cons_succ]
  refine wpAnyH_take (i := 13) (oi := { dst := some 86, op := Op.slice 58 (Operand.tmp 79) none (some (Operand.tmp 85)) none, type := 58, pos := "law.go:309", after := #[{ on := 6, ground := Ground.data }, { on := 12, ground := Ground.data }], guard := none }) (v := ?_) rfl (by kernel_rfl) (by kernel_rfl) (by kernel_rfl) (fun c _ w h => HQ.out c _ _ w h) (Or.inl ⟨by rfl, ?_⟩) (by assumption) ?_
  rotate_left
  · (intro w hSw; (try dsimp only at hSw); go_simp; try with_reducible rfl)
  try simp only [Act.put, List.setIfInBounds_toArray, List.set_cons_zero, List.set_cons_succ]
  refine wpAnyH_take (i := 14) (oi := { dst := some 87, op := Op.indexAddr 24 (Operand.tmp 74) (Operand.tmp 75), type := 0, pos := "law.go:309", after := #[{ on := 1, ground := Ground.data }, { on := 2, ground := Ground.data }, { on := 0, ground := Ground.phase }, { on := 1, ground := Ground.phase }, { on := 2, ground := Ground.phase }, { on := 3, ground := Ground.phase }, { on := 4, ground := Ground.phase }, { on := 5, ground := Ground.phase }, { on := 6, ground := Ground.phase }, { on := 7, ground := Ground.phase }, { on := 8, ground := Ground.phase }, { on := 9, ground := Ground.phase }, { on := 10, ground := Ground.phase }, { on := 11, ground := Ground.phase }, { on := 12, ground := Ground.phase }, { on := 13, ground := Ground.phase }], guard := none }) (v := ?_) rfl (by kernel_rfl) (by kernel_rfl) (by kernel_rfl) (fun c _ w h => HQ.out c _ _ w h) (Or.inl ⟨by rfl, ?_⟩) (by assumption) ?_
  rotate_left
  · (intro w hSw; (try dsimp only at hSw); go_simp; try with_reducible rfl)
  try simp only [Act.put, List.setIfInBounds_toArray, List.set_cons_zero, List.set_cons_succ]
  refine wpAnyH_take (i := 15) (oi := { dst := some 88, op := Op.fieldAddr 60 (Operand.tmp 87) 3, type := 0, pos := "law.go:309", after := #[{ on := 14, ground := Ground.data }, { on := 0, ground := Ground.phase }, { on := 1, ground := Ground.phase }, { on := 2, ground := Ground.phase }, { on := 3, ground := Ground.phase }, { on := 4, ground := Ground.phase }, { on := 5, ground := Ground.phase }, { on := 6, ground := Ground.phase }, { on := 7, ground := Ground.phase }, { on := 8, ground := Ground.phase }, { on := 9, ground := Ground.phase }, { on := 10, ground := Ground.phase }, { on := 11, ground := Ground.phase }, { on := 12, ground := Ground.phase }, { on := 13, ground := Ground.phase }], guard := none }) (v := ?_) rfl (by kernel_rfl) (by kernel_rfl) (by kernel_rfl) (fun c _ w h => HQ.out c _ _ w h) (Or.inl ⟨by rfl, ?_⟩) (by assumption) ?_
  rotate_left
  · (intro w hSw; (try dsimp only at hSw); go_simp; try with_reducible rfl)
  try simp only [Act.put, List.setIfInBounds_toArray, List.set_cons_zero, List.set_cons_succ]
  refine wpAnyH_ready (rs := [16]) (by kernel_rfl) (by simp) ?_
  refine AllReadyH.cons (o := { dst := none, op := Op.store 58 (Operand.tmp 88) (Operand.tmp 86), type := 0, pos := "law.go:309", after := #[{ on := 15, ground := Ground.data }, { on := 13, ground := Ground.data }, { on := 0, ground := Ground.phase }, { on := 1, ground := Ground.phase }, { on := 2, ground := Ground.phase }, { on := 3, ground := Ground.phase }, { on := 4, ground := Ground.phase }, { on := 5, ground := Ground.phase }, { on := 6, ground := Ground.phase }, { on := 7, ground := Ground.phase }, { on := 8, ground := Ground.phase }, { on := 9, ground := Ground.phase }, { on := 10, ground := Ground.phase }, { on := 11, ground := Ground.phase }, { on := 12, ground := Ground.phase }, { on := 13, ground := Ground.phase }], guard := none }) rfl (fun K hK => ?_) AllReadyH.nil
  have d0 := row_cell (row_low HM.out.mine.row BD.out) (k * 4 + 3) (by have := HKN.out; omega)
  rw [CP_get T ks k 3 (by decide) HKN.out] at d0
  have d1 := row_frz (row_low HM.out.mine.row BD.out) (k * 4 + 3)
  go_simp
  refine hK.out _ _ ?_ (fun hHeld => ?_)
  · exact ⟨(cell_othS HMP.out).trans hHeld.1, (cell_othS (Ne.symm HPR.out)).trans hHeld.2⟩
  clear hK K hHeld d0 d1
  try simp only [Act.put, List.setIfInBounds_toArray, List.set_cons_zero, List.set_cons_succ]
  refine wpAnyH_done (by kernel_rfl) ?_ _
  have F := HFI.out Y0 BD.out
  exact NX.out _ F.1 F.2.1 F.2.2.1 F.2.2.2
set_option maxHeartbeats 16000000 in
set_option maxRecDepth 100000 in
theorem keep_11 {C C2 : Code} {K : Act → World → Prop} {Q : Exit → Act → World → Prop} (hK : ∀ a w, C2.wp Tryz.prog Q a w → K a w) (hC : C = hdC (rtC (bdC (hdC (rtC (rtC (bdC (bdC (rtC (hdC (rtC (rtC (rtC (rtC (rtC (rtC (Option.getD Tryz.f7.body Code.skip))))))))))))))))) (hC2 : C2 = rtC (rtC (bdC (hdC (rtC (rtC (bdC (bdC (rtC (hdC (rtC (rtC (rtC (rtC (rtC (rtC (Option.getD Tryz.f7.body Code.skip))))))))))))))))) (W : World) (base gp gr mb mc k n : Nat) (T : List Pt) (ks : Nat → Value) (xs : List Value) {t0 t1 t2 t3 t4 t5 t6 t10 t11 t12 t13 t14 t15 t16 t17 t18 t19 t20 t21 t22 t23 t24 t25 t26 t27 t28 t29 t30 t31 t32 t33 t34 t35 t36 t37 t38 t39 t40 t41 t42 t43 t44 t45 t46 t47 t48 t49 t50 t51 t52 t53 t54 t55 t56 t57 t58 t59 t60 t61 t62 t63 t64 t65 t66 t67 t68 t69 t70 t71 t72 t73 t74 t75 t76 t77 t78 t79 t80 t81 t82 t83 t84 t85 t86 t87 t88 t89 t90 t91 t92 t93 t94 t95 t96 t97 t98 t99 t100 t101 t102 t103 t104 t105 t106 t107 t108 t109 t110 t111 t112 t113 t114 t115 t116 t117 t118 t119 t120 t121 t122 t123 t124 t125 t126 t127 t128 t129 t130 t131 t132 t133 t134 t135 t136 t137 t138 t139 t140 t141 t142 t143 t144 t145 t146 t147 t148 t149 t150 t151 t152 t153 t154 t155 t156 t157 t158 t159 t160 t161 t162 t163 t164 t165 t166 t167 t168 t169 t170 t171 t172 t173 t174 t175 t176 t177 t178 t179 t180 t181 t182 t183 t184 t185 t186 t187 t188 t189 t190 t191 t192 t193 t194 t195 t196 t197 t198 t199 t200 t201 t202 t203 t204 t205 t206 t207 t208 t209 t210 t211 t212 t213 t214 t215 t216 t217 t218 t219 t220 t221 t222 t223 t224 t225 t226 t227 t228 t229 t230 t231 t232 t233 t234 t235 t236 t237 t238 t239 t240 t241 t242 t243 t244 t245 t246 t247 t248 t249 t250 t251 t252 t253 t254 t255 t256 t257 t258 t259 t260 t261 t262 t263 t264 t265 t266 t267 t268 t269 t270 t271 t272 t273 t274 t275 t276 t277 t278 t279 t280 t281 t282 t283 t284 t285 t286 t287 t288 t289 t290 t291 t292 t293 t294 : Value}
    (hx : W.heap[mb]? = some (.cells #[.slice (some ⟨gp, 0, none⟩) n mc] 26 (0, 0))) (hM : OwnP W base (.slice (some ⟨gp, 0, none⟩) n mc) T ks n) (hR : W.ownsRow base 58 1 (.slice (some ⟨gr, 0, none⟩) n n) n xs) (hk : k < n) (hn : n ≤ 100000) (hl : (pt T k).kids.length ≤ 100000)
    (hq : ∀ c a a' w, Q (.panic c) a w → Q (.panic c) a' w)
    (nx : ∀ (W' : World) (rv : Value) {x52 x53 x54 x55 x56 x57 x58 x59 x60 x61 x62 x63 x64 x65 x66 x67 x68 x69 x70 x71 x72 x73 x74 x75 x76 x77 x78 x79 x80 x81 x82 x83 x84 x85 x86 x87 x88 : Value}, But2 (some gp) (some gr) W W' → OwnP W' base (.slice (some ⟨gp, 0, none⟩) n mc) T (fun j => if j = k then cutV rv (pt T k).kids.length else ks j) n → W'.ownsRow base 58 1 (.slice (some ⟨gr, 0, none⟩) n n) n (xs.set k rv) → OwnI W' base rv ((pt T k).kids ++ mks) → Q Exit.normal { tmps := #[t0, t1, t2, t3, t4, t5, t6, .pointer (some ⟨mb, 0, none⟩), .slice (some ⟨gr, 0, none⟩) n n, .int .i64 (k : Int), t10, t11, t12, t13, t14, t15, t16, t17, t18, t19, t20, t21, t22, t23, t24, t25, t26, t27, t28, t29, t30, t31, t32, t33, t34, t35, t36, t37, t38, t39, t40, t41, t42, t43, t44, t45, t46, t47, t48, t49, t50, t51, x52, x53, x54, x55, x56, x57, x58, x59, x60, x61, x62, x63, x64, x65, x66, x67, x68, x69, x70, x71, x72, x73, x74, x75, x76, x77, x78, x79, x80, x81, x82, x83, x84, x85, x86, x87, x88, t89, t90, t91, t92, t93, t94, t95, t96, t97, t98, t99, t100, t101, t102, t103, t104, t105, t106, t107, t108, t109, t110, t111, t112, t113, t114, t115, t116, t117, t118, t119, t120, t121, t122, t123, t124, t125, t126, t127, t128, t129, t130, t131, t132, t133, t134, t135, t136, t137, t138, t139, t140, t141, t142, t143, t144, t145, t146, t147, t148, t149, t150, t151, t152, t153, t154, t155, t156, t157, t158, t159, t160, t161, t162, t163, t164, t165, t166, t167, t168, t169, t170, t171, t172, t173, t174, t175, t176, t177, t178, t179, t180, t181, t182, t183, t184, t185, t186, t187, t188, t189, t190, t191, t192, t193, t194, t195, t196, t197, t198, t199, t200, t201, t202, t203, t204, t205, t206, t207, t208, t209, t210, t211, t212, t213, t214, t215, t216, t217, t218, t219, t220, t221, t222, t223, t224, t225, t226, t227, t228, t229, t230, t231, t232, t233, t234, t235, t236, t237, t238, t239, t240, t241, t242, t243, t244, t245, t246, t247, t248, t249, t250, t251, t252, t253, t254, t255, t256, t257, t258, t259, t260, t261, t262, t263, t264, t265, t266, t267, t268, t269, t270, t271, t272, t273, t274, t275, t276, t277, t278, t279, t280, t281, t282, t283, t284, t285, t286, t287, t288, t289, t290, t291, t292, t293, t294], defers := [] } W') :
    Code.wp Tryz.prog C (Exit.then K Q) { tmps := #[t0, t1, t2, t3, t4, t5, t6, .pointer (some ⟨mb, 0, none⟩), .slice (some ⟨gr, 0, none⟩) n n, .int .i64 (k : Int), t10, t11, t12, t13, t14, t15, t16, t17, t18, t19, t20, t21, t22, t23, t24, t25, t26, t27, t28, t29, t30, t31, t32, t33, t34, t35, t36, t37, t38, t39, t40, t41, t42, t43, t44, t45, t46, t47, t48, t49, t50, t51, t52, t53, t54, t55, t56, t57, t58, t59, t60, t61, t62, t63, t64, t65, t66, t67, t68, t69, t70, t71, t72, t73, t74, t75, t76, t77, t78, t79, t80, t81, t82, t83, t84, t85, t86, t87, t88, t89, t90, t91, t92, t93, t94, t95, t96, t97, t98, t99, t100, t101, t102, t103, t104, t105, t106, t107, t108, t109, t110, t111, t112, t113, t114, t115, t116, t117, t118, t119, t120, t121, t122, t123, t124, t125, t126, t127, t128, t129, t130, t131, t132, t133, t134, t135, t136, t137, t138, t139, t140, t141, t142, t143, t144, t145, t146, t147, t148, t149, t150, t151, t152, t153, t154, t155, t156, t157, t158, t159, t160, t161, t162, t163, t164, t165, t166, t167, t168, t169, t170, t171, t172, t173, t174, t175, t176, t177, t178, t179, t180, t181, t182, t183, t184, t185, t186, t187, t188, t189, t190, t191, t192, t193, t194, t195, t196, t197, t198, t199, t200, t201, t202, t203, t204, t205, t206, t207, t208, t209, t210, t211, t212, t213, t214, t215, t216, t217, t218, t219, t220, t221, t222, t223, t224, t225, t226, t227, t228, t229, t230, t231, t232, t233, t234, t235, t236, t237, t238, t239, t240, t241, t242, t243, t244, t245, t246, t247, t248, t249, t250, t251, t252, t253, t254, t255, t256, t257, t258, t259, t260, t261, t262, t263, t264, t265, t266, t267, t268, t269, t270, t271, t272, t273, t274, t275, t276, t277, t278, t279, t280, t281, t282, t283, t284, t285, t286, t287, t288, t289, t290, t291, t292, t293, t294], defers := [] } W := by
  subst hC hC2
  have HKK := hid hK
  have NX := hid nx
  have HQ := hid hq
  have HM := hid hM
  have HR := hid hR
  have HX := hid hx
  have hbw : base ≤ gr ∧ gr < W.heap.size := row_lt hR rfl
  have hbg : base ≤ gp ∧ gp < W.heap.size := row_lt hM.row rfl
  have HBW := hid hbw
  have HBG := hid hbg
  have HBS := hid (show base ≤ W.heap.size by omega)
  obtain ⟨ka, kc, hks⟩ := own_form (hM.kids k hk)
  have HKO := hid (hM.kids k hk)
  rw [hks] at HKO
  have c1 : W.cell? ⟨gp, k * 4 + 3, none⟩ = some (.slice ka (pt T k).kids.length kc) := by
    rw [row_cell hM.row _ (by omega), CP_get T ks k 3 (by decide) hk, hks]
    rfl
  obtain ⟨zs, hzs⟩ : ∃ zs, zs = (pt T k).kids := ⟨_, rfl⟩
  have HZS := hid hzs
  rw [← hzs] at c1 HKO hl
  obtain ⟨m, hm⟩ : ∃ m, m = zs.length := ⟨_, rfl⟩
  have HMZ := hid hm
  rw [← hm] at c1 HKO hl
  have c0 := cell_of_one hx
  have hgm : mb < W.heap.size := lt_blk hx
  have MK := make_room m hl
  have HMK := hid (fun Y => own_room Y m)
  have hw3 : IntKind.i64.wrap ((m : Int) + 3) = (m : Int) + 3 := by rw [IntKind.wrap_i64]; omega
  have HLL := hid hl
  have mkS : Hid (∀ Y, Below W.heap.size W Y → Y.cell? ⟨mb, 0, none⟩ = some (.slice (some ⟨gp, 0, none⟩) n mc) ∧ Y.cell? ⟨gp, k * 4 + 3, none⟩ = some (.slice ka m kc)) := hid (fun Y hb => ⟨(hb.cell (p := ⟨mb, 0, none⟩) hgm).trans c0, (hb.cell (p := ⟨gp, k * 4 + 3, none⟩) hbg.2).trans c1⟩)
  have T0 := mkS.out _ (Below.refl W.heap.size W).drew
  have g1 : (k : Int) < (n : Int) := by omega
  have g2 : (0 : Int) ≤ (k : Int) := by omega
  have g3 : ((k : Int) * 4).toNat = k * 4 := by omega
  have HKN := hid hk
  have HMR := hid (show mb ≠ gr from blk_ne hR hx (by decide))
  have HMP := hid (show mb ≠ gp from blk_ne hM.row hx (by decide))
  have HPR := hid (show gp ≠ gr from fun e => by
    rcases hM.row.2 with ⟨e1, _⟩ | ⟨g', cap', cur, e1, _, hg, _⟩
    · cases e1
    · cases e1
      exact blk_ne hR hg (by decide) e)
  have HNO := hid (own_rdI HKO.out).2.2
  have HKR := hid (own_rdI HKO.out).2.1
  have HNN := hid hn
  have MID : Hid (∀ (Y : World) (rv : Value), Below W.heap.size W Y → OwnI Y W.heap.size rv (zs ++ mks) → Mid (Y.setCell ⟨gr, k, none⟩ rv) base gp gr mb mc n T ks (xs.set k rv) k rv (m + 3) (zs ++ mks)) := hid (fun Y rv hb ho => by
    have hle : (zs ++ mks).length = m + 3 := by rw [List.length_append, ← hm]; rfl
    unfold OwnI at ho
    rw [hle] at ho
    have hg := Ap.grown_set Y gr k rv
    have hR1 := row_low hR hb
    have hM1 := hM.low hb
    obtain ⟨cs, hcs⟩ := row_heap hR1
    have hxl : k < xs.length := by have h1 := hR.1; rw [Nat.mul_one] at h1; omega
    refine ⟨?_, OwnP.keep hM1 hg (row_off hM1.row hcs (by decide)) (fun j hj => row_off (hM1.kids j hj) hcs (by decide)), row_set hR1 k (by omega) rv, ?_, ?_⟩
    · refine (Below.heap_setCell Y ⟨gr, k, none⟩ rv mb (blk_ne hR hx (by decide))).trans ((hb.block mb (lt_blk hx)).trans hx)
    · exact row_mono (World.ownsRow.kept ho hg (row_off ho hcs (by decide))) (by omega)
    · rw [fv_set xs k k rv hxl, if_pos rfl])
  clear nx hq hK hM hR hx hbw hbg hzs hm c0 c1 hgm hks hk hn
  simp only [hdC, bdC, rtC, Option.getD, Tryz.f7] at HKK ⊢
  refine wp_region_held_drew (S := (fun Y => Y.cell? ⟨mb, 0, none⟩ = some (.slice (some ⟨gp, 0, none⟩) n mc) ∧ Y.cell? ⟨gp, k * 4 + 3, none⟩ = some (.slice ka m kc))) (by kernel_rfl) T0 (fun hHeld => ?_)
  have BD := hid (Below.refl W.heap.size W).drew
  clear T0
  generalize W.drew = Y0 at *
  refine wpAnyH_take (i := 0) (oi := { dst := some 52, op := Op.move (Operand.tmp 8), type := 63, pos := "law.go:308", after := #[], guard := none }) (v := ?_) rfl (by kernel_rfl) (by kernel_rfl) (by kernel_rfl) (fun c _ w h => HQ.out c _ _ w h) (Or.inl ⟨by rfl, ?_⟩) (by assumption) ?_
  rotate_left
  · (intro w hSw; (try dsimp only at hSw); go_simp; try with_reducible rfl)
  try simp only [Act.put, List.setIfInBounds_toArray, List.set_cons_zero, List.set_cons_succ]
  refine wpAnyH_take (i := 1) (oi := { dst := some 53, op := Op.move (Operand.tmp 9), type := 3, pos := "law.go:308", after := #[], guard := none }) (v := ?_) rfl (by kernel_rfl) (by kernel_rfl) (by kernel_rfl) (fun c _ w h => HQ.out c _ _ w h) (Or.inl ⟨by rfl, ?_⟩) (by assumption) ?_
  rotate_left
  · (intro w hSw; (try dsimp only at hSw); go_simp; try with_reducible rfl)
  try simp only [Act.put, List.setIfInBounds_toArray, List.set_cons_zero, List.set_cons_succ]
  refine wpAnyH_take (i := 2) (oi := { dst := some 54, op := Op.fieldAddr 26 (Operand.tmp 7) 0, type := 0, pos := "law.go:308", after := #[], guard := none }) (v := ?_) rfl (by kernel_rfl) (by kernel_rfl) (by kernel_rfl) (fun c _ w h => HQ.out c _ _ w h) (Or.inl ⟨by rfl, ?_⟩) (by assumption) ?_
  rotate_left
  · (intro w hSw; (try dsimp only at hSw); go_simp; try with_reducible rfl)
  try simp only [Act.put, List.setIfInBounds_toArray, List.set_cons_zero, List.set_cons_succ]
  refine wpAnyH_take (i := 3) (oi := { dst := some 55, op := Op.load 24 (Operand.tmp 54), type := 24, pos := "law.go:308", after := #[{ on := 2, ground := Ground.data }], guard := none }) (v := ?_) rfl (by kernel_rfl) (by kernel_rfl) (by kernel_rfl) (fun c _ w h => HQ.out c _ _ w h) (Or.inl ⟨by rfl, ?_⟩) (by assumption) ?_
  rotate_left
  · (intro w hSw; (try dsimp only at hSw); go_simp; try with_reducible rfl)
  try simp only [Act.put, List.setIfInBounds_toArray, List.set_cons_zero, List.set_cons_succ]
  refine wpAnyH_take (i := 4) (oi := { dst := some 56, op := Op.move (Operand.tmp 9), type := 3, pos := "law.go:308", after := #[], guard := none }) (v := ?_) rfl (by kernel_rfl) (by kernel_rfl) (by kernel_rfl) (fun c _ w h => HQ.out c _ _ w h) (Or.inl ⟨by rfl, ?_⟩) (by assumption) ?_
  rotate_left
  · (intro w hSw; (try dsimp only at hSw); go_simp; try with_reducible rfl)
  try simp only [Act.put, List.setIfInBounds_toArray, List.set_cons_zero, List.set_cons_succ]
  refine wpAnyH_take (i := 5) (oi := { dst := some 57, op := Op.indexAddr 24 (Operand.tmp 55) (Operand.tmp 56), type := 0, pos := "law.go:308", after := #[{ on := 3, ground := Ground.data }, { on := 4, ground := Ground.data }], guard := none }) (v := ?_) rfl (by kernel_rfl) (by kernel_rfl) (by kernel_rfl) (fun c _ w h => HQ.out c _ _ w h) (Or.inl ⟨by rfl, ?_⟩) (by assumption) ?_
  rotate_left
  · (intro w hSw; (try dsimp only at hSw); go_simp; try with_reducible rfl)
  try simp only [Act.put, List.setIfInBounds_toArray, List.set_cons_zero, List.set_cons_succ]
  refine wpAnyH_take (i := 6) (oi := { dst := some 58, op := Op.fieldAddr 60 (Operand.tmp 57) 3, type := 0, pos := "law.go:308", after := #[{ on := 5, ground := Ground.data }], guard := none }) (v := ?_) rfl (by kernel_rfl) (by kernel_rfl) (by kernel_rfl) (fun c _ w h => HQ.out c _ _ w h) (Or.inl ⟨by rfl, ?_⟩) (by assumption) ?_
  rotate_left
  · (intro w hSw; (try dsimp only at hSw); go_simp; try with_reducible rfl)
  try simp only [Act.put, List.setIfInBounds_toArray, List.set_cons_zero, List.set_cons_succ]
  refine wpAnyH_take (i := 7) (oi := { dst := some 59, op := Op.load 58 (Operand.tmp 58), type := 58, pos := "law.go:308", after := #[{ on := 6, ground := Ground.data }], guard := none }) (v := ?_) rfl (by kernel_rfl) (by kernel_rfl) (by kernel_rfl) (fun c _ w h => HQ.out c _ _ w h) (Or.inl ⟨by rfl, ?_⟩) (by assumption) ?_
  rotate_left
  · (intro w hSw; (try dsimp only at hSw); go_simp; try with_reducible rfl)
  try simp only [Act.put, List.setIfInBounds_toArray, List.set_cons_zero, List.set_cons_succ]
  refine wpAnyH_take (i := 8) (oi := { dst := some 60, op := Op.call { callee := Callee.builtin Builtin.len, args := #[Operand.tmp 59], argTypes := #[58] }, type := 3, pos := "law.go:308", after := #[{ on := 7, ground := Ground.data }], guard := none }) (v := ?_) rfl (by kernel_rfl) (by kernel_rfl) (by kernel_rfl) (fun c _ w h => HQ.out c _ _ w h) (Or.inl ⟨by rfl, ?_⟩) (by assumption) ?_
  rotate_left
  · (intro w hSw; (try dsimp only at hSw); go_simp; try with_reducible rfl)
  try simp only [Act.put, List.setIfInBounds_toArray, List.set_cons_zero, List.set_cons_succ]
  refine wpAnyH_take (i := 9) (oi := { dst := some 61, op := Op.binOp BinOp.add 3 (Operand.tmp 60) (Operand.const (Value.int IntKind.i64 3)) 3, type := 3, pos := "law.go:308", after := #[{ on := 8, ground := Ground.data }], guard := none }) (v := ?_) rfl (by kernel_rfl) (by kernel_rfl) (by kernel_rfl) (fun c _ w h => HQ.out c _ _ w h) (Or.inl ⟨by rfl, ?_⟩) (by assumption) ?_
  rotate_left
  · (intro w hSw; (try dsimp only at hSw); go_simp; try with_reducible rfl)
  try simp only [Act.put, List.setIfInBounds_toArray, List.set_cons_zero, List.set_cons_succ]
  refine wpAnyH_take (i := 11) (oi := { dst := some 63, op := Op.fieldAddr 26 (Operand.tmp 7) 0, type := 0, pos := "law.go:308", after := #[], guard := none }) (v := ?_) rfl (by kernel_rfl) (by kernel_rfl) (by kernel_rfl) (fun c _ w h => HQ.out c _ _ w h) (Or.inl ⟨by rfl, ?_⟩) (by assumption) ?_
  rotate_left
  · (intro w hSw; (try dsimp only at hSw); go_simp; try with_reducible rfl)
  try simp only [Act.put, List.setIfInBounds_toArray, List.set_cons_zero, List.set_cons_succ]
  refine wpAnyH_take (i := 12) (oi := { dst := some 64, op := Op.load 24 (Operand.tmp 63), type := 24, pos := "law.go:308", after := #[{ on := 11, ground := Ground.data }], guard := none }) (v := ?_) rfl (by kernel_rfl) (by kernel_rfl) (by kernel_rfl) (fun c _ w h => HQ.out c _ _ w h) (Or.inl ⟨by rfl, ?_⟩) (by assumption) ?_
  rotate_left
  · (intro w hSw; (try dsimp only at hSw); go_simp; try with_reducible rfl)
  try simp only [Act.put, List.setIfInBounds_toArray, List.set_cons_zero, List.set_cons_succ]
  refine wpAnyH_take (i := 13) (oi := { dst := some 65, op := Op.move (Operand.tmp 9), type := 3, pos := "law.go:308", after := #[], guard := none }) (v := ?_) rfl (by kernel_rfl) (by kernel_rfl) (by kernel_rfl) (fun c _ w h => HQ.out c _ _ w h) (Or.inl ⟨by rfl, ?_⟩) (by assumption) ?_
  rotate_left
  · (intro w hSw; (try dsimp only at hSw); go_simp; try with_reducible rfl)
  try simp only [Act.put, List.setIfInBounds_toArray, List.set_cons_zero, List.set_cons_succ]
  refine wpAnyH_take (i := 14) (oi := { dst := some 66, op := Op.indexAddr 24 (Operand.tmp 64) (Operand.tmp 65), type := 0, pos := "law.go:308", after := #[{ on := 12, ground := Ground.data }, { on := 13, ground := Ground.data }], guard := none }) (v := ?_) rfl (by kernel_rfl) (by kernel_rfl) (by kernel_rfl) (fun c _ w h => HQ.out c _ _ w h) (Or.inl ⟨by rfl, ?_⟩) (by assumption) ?_
  rotate_left
  · (intro w hSw; (try dsimp only at hSw); go_simp; try with_reducible rfl)
  try simp only [Act.put, List.setIfInBounds_toArray, List.set_cons_zero, List.set_cons_succ]
  refine wpAnyH_take (i := 15) (oi := { dst := some 67, op := Op.fieldAddr 60 (Operand.tmp 66) 3, type := 0, pos := "law.go:308", after := #[{ on := 14, ground := Ground.data }], guard := none }) (v := ?_) rfl (by kernel_rfl) (by kernel_rfl) (by kernel_rfl) (fun c _ w h => HQ.out c _ _ w h) (Or.inl ⟨by rfl, ?_⟩) (by assumption) ?_
  rotate_left
  · (intro w hSw; (try dsimp only at hSw); go_simp; try with_reducible rfl)
  try simp only [Act.put, List.setIfInBounds_toArray, List.set_cons_zero, List.set_cons_succ]
  refine wpAnyH_take (i := 16) (oi := { dst := some 68, op := Op.load 58 (Operand.tmp 67), type := 58, pos := "law.go:308", after := #[{ on := 15, ground := Ground.data }], guard := none }) (v := ?_) rfl (by kernel_rfl) (by kernel_rfl) (by kernel_rfl) (fun c _ w h => HQ.out c _ _ w h) (Or.inl ⟨by rfl, ?_⟩) (by assumption) ?_
  rotate_left
  · (intro w hSw; (try dsimp only at hSw); go_simp; try with_reducible rfl)
  try simp only [Act.put, List.setIfInBounds_toArray, List.set_cons_zero, List.set_cons_succ]
  refine wpAnyH_ready (rs := [10, 18]) (by kernel_rfl) (by simp) ?_
  refine AllReadyH.cons (o := { dst := some 62, op := Op.makeSlice 58 (Operand.const (Value.int IntKind.i64 0)) (Operand.tmp 61), type := 58, pos := "law.go:308", after := #[{ on := 9, ground := Ground.data }], guard := none }) rfl (fun K hK => ?_) ?_
  · go_simp
    have B1 := hid (bchS BD.out (belowA Y0 (.cells (madeCells #[.int .i64 0] (m + 3)) 3)))
    have O2 := hid (HMK.out Y0 W.heap.size HLL.out BD.out.size)
    have G5 := hid BD.out.size
    refine hK.out _ _ (mkS.out _ B1.out) (fun hHeld => ?_)
    clear hK K
    try simp only [Act.put, List.setIfInBounds_toArray, List.set_cons_zero, List.set_cons_succ]
    generalize Y0.alloc (.cells (madeCells #[.int .i64 0] (m + 3)) 3) = Y3 at *
    have VL6 := hid (show Y0.heap.size < Y3.heap.size from (row_lt O2.out rfl).2)
    generalize Y0.heap.size = vb4 at *
    refine wpAnyH_ready (rs := [17, 18]) (by kernel_rfl) (by simp) ?_
    refine AllReadyH.cons (o := { dst := some 69, op := Op.call { callee := Callee.builtin Builtin.append, args := #[Operand.tmp 62, Operand.tmp 68], argTypes := #[58, 58] }, type := 58, pos := "law.go:308", after := #[{ on := 10, ground := Ground.data }, { on := 16, ground := Ground.data }], guard := none }) rfl (fun K hK => ?_) ?_
    · rw [if_pos (by rfl)]
      refine append_op _ _ rfl W.heap.size (.slice (some ⟨vb4, 0, none⟩) 0 (m + 3)) [] rfl O2.out ka m kc zs HMZ.out rfl HNO.out (HKR.out.low B1.out (Nat.le_refl _)) (by have := HLL.out; have := HMZ.out; simp; omega) B1.out.size ?_
      intro v8 w7 o9 g10
      rw [List.nil_append] at o9
      have B11 := hid (B1.out.grown g10 B1.out.size (fun k e => by cases e; exact G5.out))
      have VL15 := hid (Nat.lt_of_lt_of_le VL6.out g10.size)
      have O12 := hid o9
      obtain ⟨a13, c14, rfl⟩ := own_form o9
      rw [← HMZ.out] at O12
      refine hK.out _ _ (mkS.out _ B11.out) (fun hHeld => ?_)
      clear hK K o9 g10
      try simp only [Act.put, List.setIfInBounds_toArray, List.set_cons_zero, List.set_cons_succ]
      rw [← HMZ.out]
      refine wpAnyH_ready (rs := [18]) (by kernel_rfl) (by simp) ?_
      refine AllReadyH.cons (o := { dst := some 70, op := Op.buildSlice 58 3 #[(0, Operand.const (Value.int IntKind.i64 (-91))), (1, Operand.const (Value.int IntKind.i64 (-92))), (2, Operand.const (Value.int IntKind.i64 (-93)))], type := 58, pos := "law.go:308", after := #[], guard := none }) rfl (fun K hK => ?_) AllReadyH.nil
      go_simp
      have B16 := hid (bchS B11.out (belowA w7 (.cells #[.int .i64 (-91), .int .i64 (-92), .int .i64 (-93)] 3)))
      have M17 := hid (rd_mks w7)
      have O12n := hid (own_low O12.out (belowA w7 (.cells #[.int .i64 (-91), .int .i64 (-92), .int .i64 (-93)] 3)))
      have GL20 := hid (show w7.heap.size < (w7.alloc (.cells #[.int .i64 (-91), .int .i64 (-92), .int .i64 (-93)] 3)).heap.size by simp)
      have VL21 := hid (Nat.lt_of_lt_of_le VL15.out (belowA w7 (.cells #[.int .i64 (-91), .int .i64 (-92), .int .i64 (-93)] 3)).size)
      refine hK.out _ _ (mkS.out _ B16.out) (fun hHeld => ?_)
      clear hK K
      try simp only [Act.put, List.setIfInBounds_toArray, List.set_cons_zero, List.set_cons_succ]
      generalize w7.alloc (.cells #[.int .i64 (-91), .int .i64 (-92), .int .i64 (-93)] 3) = Y18 at *
      generalize w7.heap.size = gm19 at *
      refine wpAnyH_ready (rs := [19]) (by kernel_rfl) (by simp) ?_
      refine AllReadyH.cons (o := { dst := some 71, op := Op.call { callee := Callee.builtin Builtin.append, args := #[Operand.tmp 69, Operand.tmp 70], argTypes := #[58, 58] }, type := 58, pos := "law.go:308", after := #[{ on := 17, ground := Ground.data }, { on := 18, ground := Ground.data }, { on := 17, ground := Ground.chain }], guard := none }) rfl (fun K hK => ?_) AllReadyH.nil
      rw [if_pos (by rfl)]
      have O12nz := hid O12n.out
      refine append_op _ _ rfl W.heap.size (.slice a13 m c14) zs rfl O12n.out (some ⟨gm19, 0, none⟩) 3 3 mks rfl rfl (fun h => by cases h) M17.out (by have := HLL.out; have := HMZ.out; simp [mks]; omega) B16.out.size ?_
      intro v23 w22 o24 g25
      have B26 := hid (B16.out.grown g25 B16.out.size (fun k e => (row_lt O12n.out e).1))
      have O27 := hid o24
      obtain ⟨a28, c29, rfl⟩ := own_form o24
      refine hK.out _ _ (mkS.out _ B26.out) (fun hHeld => ?_)
      clear hK K o24 g25
      try simp only [Act.put, List.setIfInBounds_toArray, List.set_cons_zero, List.set_cons_succ]
      have HE := hid (show (zs ++ mks).length = m + 3 by rw [List.length_append, ← HMZ.out]; rfl)
      rw [HE.out] at O27 ⊢
      refine wpAnyH_take (i := 20) (oi := { dst := some 72, op := Op.indexAddr 63 (Operand.tmp 52) (Operand.tmp 53), type := 0, pos := "law.go:308", after := #[{ on := 0, ground := Ground.data }, { on := 1, ground := Ground.data }, { on := 0, ground := Ground.phase }, { on := 1, ground := Ground.phase }, { on := 2, ground := Ground.phase }, { on := 3, ground := Ground.phase }, { on := 4, ground := Ground.phase }, { on := 5, ground := Ground.phase }, { on := 6, ground := Ground.phase }, { on := 7, ground := Ground.phase }, { on := 8, ground := Ground.phase }, { on := 9, ground := Ground.phase }, { on := 10, ground := Ground.phase }, { on := 11, ground := Ground.phase }, { on := 12, ground := Ground.phase }, { on := 13, ground := Ground.phase }, { on := 14, ground := Ground.phase }, { on := 15, ground := Ground.phase }, { on := 16, ground := Ground.phase }, { on := 17, ground := Ground.phase }, { on := 18, ground := Ground.phase }, { on := 19, ground := Ground.phase }], guard := none }) (v := ?_) rfl (by kernel_rfl) (by kernel_rfl) (by kernel_rfl) (fun c _ w h => HQ.out c _ _ w h) (Or.inl ⟨by rfl, ?_⟩) (by assumption) ?_
      rotate_left
      · (intro w hSw; (try dsimp only at hSw); go_simp; try with_reducible rfl)
      try simp only [Act.put, List.setIfInBounds_toArray, List.set_cons_zero, List.set_cons_succ]
      refine wpAnyH_ready (rs := [21]) (by kernel_rfl) (by simp) ?_
      refine AllReadyH.cons (o := { dst := none, op := Op.store 58 (Operand.tmp 72) (Operand.tmp 71), type := 0, pos := "law.go:308", after := #[{ on := 20, ground := Ground.data }, { on := 19, ground := Ground.data }, { on := 19, ground := Ground.chain }, { on := 0, ground := Ground.phase }, { on := 1, ground := Ground.phase }, { on := 2, ground := Ground.phase }, { on := 3, ground := Ground.phase }, { on := 4, ground := Ground.phase }, { on := 5, ground := Ground.phase }, { on := 6, ground := Ground.phase }, { on := 7, ground := Ground.phase }, { on := 8, ground := Ground.phase }, { on := 9, ground := Ground.phase }, { on := 10, ground := Ground.phase }, { on := 11, ground := Ground.phase }, { on := 12, ground := Ground.phase }, { on := 13, ground := Ground.phase }, { on := 14, ground := Ground.phase }, { on := 15, ground := Ground.phase }, { on := 16, ground := Ground.phase }, { on := 17, ground := Ground.phase }, { on := 18, ground := Ground.phase }, { on := 19, ground := Ground.phase }], guard := none }) rfl (fun K hK => ?_) AllReadyH.nil
      have HRY := hid (row_low HR.out B26.out)
      have d0 := row_cell HRY.out k (by have := HKN.out; omega)
      have hxl : k < xs.length := by have h1 := HRY.out.1; have := HKN.out; rw [Nat.mul_one] at h1; omega
      rw [List.getElem?_eq_getElem hxl] at d0
      have d1 := row_frz HRY.out k
      go_simp
      have SS : (w22.setCell ⟨gr, k, none⟩ (.slice a28 (m + 3) c29)).cell? ⟨mb, 0, none⟩ = some (.slice (some ⟨gp, 0, none⟩) n mc) ∧ (w22.setCell ⟨gr, k, none⟩ (.slice a28 (m + 3) c29)).cell? ⟨gp, k * 4 + 3, none⟩ = some (.slice ka m kc) := ⟨(cell_othS HMR.out).trans (mkS.out _ B26.out).1, (cell_othS HPR.out).trans (mkS.out _ B26.out).2⟩
      refine hK.out _ _ SS (fun hHeld => ?_)
      clear hK K hHeld d0 d1
      try simp only [Act.put, List.setIfInBounds_toArray, List.set_cons_zero, List.set_cons_succ]
      refine wpAnyH_done (by kernel_rfl) ?_ _
      refine HKK.out _ _ ?_
      exact keep_12 (by kernel_rfl) _ base gp gr mb mc k n T ks (xs.set k (.slice a28 (m + 3) c29)) a28 m c29 zs (by exact MID.out _ _ B26.out O27.out) HKN.out HNN.out HZS.out HMZ.out HLL.out HQ.out (fun W2 => by intros; rename_i h1 h2 h3 h4; exact NX.out W2 (.slice a28 (m + 3) c29) (by exact (((But2.of_below B26.out).trans (But2.of_right (Ap.grown_set _ gr k _))).trans h1)) (by rw [← HZS.out, ← HMZ.out]; exact h2) h3 (by rw [← HZS.out]; exact h4))
    refine AllReadyH.cons (o := { dst := some 70, op := Op.buildSlice 58 3 #[(0, Operand.const (Value.int IntKind.i64 (-91))), (1, Operand.const (Value.int IntKind.i64 (-92))), (2, Operand.const (Value.int IntKind.i64 (-93)))], type := 58, pos := "law.go:308", after := #[], guard := none }) rfl (fun K hK => ?_) AllReadyH.nil
    · go_simp
      have B30 := hid (bchS B1.out (belowA Y3 (.cells #[.int .i64 (-91), .int .i64 (-92), .int .i64 (-93)] 3)))
      have M31 := hid (rd_mks Y3)
      have O2n := hid (own_low O2.out (belowA Y3 (.cells #[.int .i64 (-91), .int .i64 (-92), .int .i64 (-93)] 3)))
      have N34 := hid (show Y3.heap.size ≠ vb4 from Ne.symm (Nat.ne_of_lt VL6.out))
      have GL35 := hid (show Y3.heap.size < (Y3.alloc (.cells #[.int .i64 (-91), .int .i64 (-92), .int .i64 (-93)] 3)).heap.size by simp)
      have VL36 := hid (Nat.lt_of_lt_of_le VL6.out (belowA Y3 (.cells #[.int .i64 (-91), .int .i64 (-92), .int .i64 (-93)] 3)).size)
      refine hK.out _ _ (mkS.out _ B30.out) (fun hHeld => ?_)
      clear hK K
      try simp only [Act.put, List.setIfInBounds_toArray, List.set_cons_zero, List.set_cons_succ]
      generalize Y3.alloc (.cells #[.int .i64 (-91), .int .i64 (-92), .int .i64 (-93)] 3) = Y32 at *
      generalize Y3.heap.size = gm33 at *
      refine wpAnyH_ready (rs := [17]) (by kernel_rfl) (by simp) ?_
      refine AllReadyH.cons (o := { dst := some 69, op := Op.call { callee := Callee.builtin Builtin.append, args := #[Operand.tmp 62, Operand.tmp 68], argTypes := #[58, 58] }, type := 58, pos := "law.go:308", after := #[{ on := 10, ground := Ground.data }, { on := 16, ground := Ground.data }], guard := none }) rfl (fun K hK => ?_) AllReadyH.nil
      rw [if_pos (by rfl)]
      refine append_op _ _ rfl W.heap.size (.slice (some ⟨vb4, 0, none⟩) 0 (m + 3)) [] rfl O2n.out ka m kc zs HMZ.out rfl HNO.out (HKR.out.low B30.out (Nat.le_refl _)) (by have := HLL.out; have := HMZ.out; simp; omega) B30.out.size ?_
      intro v38 w37 o39 g40
      rw [List.nil_append] at o39
      have B41 := hid (B30.out.grown g40 B30.out.size (fun k e => by cases e; exact G5.out))
      have M43 := hid (rd_grown M31.out g40 (fun e => N34.out (by simpa [Value.ownBlock] using e)))
      have VL46 := hid (Nat.lt_of_lt_of_le VL36.out g40.size)
      have O42 := hid o39
      obtain ⟨a44, c45, rfl⟩ := own_form o39
      rw [← HMZ.out] at O42
      refine hK.out _ _ (mkS.out _ B41.out) (fun hHeld => ?_)
      clear hK K o39 g40
      try simp only [Act.put, List.setIfInBounds_toArray, List.set_cons_zero, List.set_cons_succ]
      rw [← HMZ.out]
      refine wpAnyH_ready (rs := [19]) (by kernel_rfl) (by simp) ?_
      refine AllReadyH.cons (o := { dst := some 71, op := Op.call { callee := Callee.builtin Builtin.append, args := #[Operand.tmp 69, Operand.tmp 70], argTypes := #[58, 58] }, type := 58, pos := "law.go:308", after := #[{ on := 17, ground := Ground.data }, { on := 18, ground := Ground.data }, { on := 17, ground := Ground.chain }], guard := none }) rfl (fun K hK => ?_) AllReadyH.nil
      rw [if_pos (by rfl)]
      have O42z := hid O42.out
      refine append_op _ _ rfl W.heap.size (.slice a44 m c45) zs rfl O42.out (some ⟨gm33, 0, none⟩) 3 3 mks rfl rfl (fun h => by cases h) M43.out (by have := HLL.out; have := HMZ.out; simp [mks]; omega) B41.out.size ?_
      intro v48 w47 o49 g50
      have B51 := hid (B41.out.grown g50 B41.out.size (fun k e => (row_lt O42.out e).1))
      have O52 := hid o49
      obtain ⟨a53, c54, rfl⟩ := own_form o49
      refine hK.out _ _ (mkS.out _ B51.out) (fun hHeld => ?_)
      clear hK K o49 g50
      try simp only [Act.put, List.setIfInBounds_toArray, List.set_cons_zero, List.set_cons_succ]
      have HE := hid (show (zs ++ mks).length = m + 3 by rw [List.length_append, ← HMZ.out]; rfl)
      rw [HE.out] at O52 ⊢
      refine wpAnyH_take (i := 20) (oi := { dst := some 72, op := Op.indexAddr 63 (Operand.tmp 52) (Operand.tmp 53), type := 0, pos := "law.go:308", after := #[{ on := 0, ground := Ground.data }, { on := 1, ground := Ground.data }, { on := 0, ground := Ground.phase }, { on := 1, ground := Ground.phase }, { on := 2, ground := Ground.phase }, { on := 3, ground := Ground.phase }, { on := 4, ground := Ground.phase }, { on := 5, ground := Ground.phase }, { on := 6, ground := Ground.phase }, { on := 7, ground := Ground.phase }, { on := 8, ground := Ground.phase }, { on := 9, ground := Ground.phase }, { on := 10, ground := Ground.phase }, { on := 11, ground := Ground.phase }, { on := 12, ground := Ground.phase }, { on := 13, ground := Ground.phase }, { on := 14, ground := Ground.phase }, { on := 15, ground := Ground.phase }, { on := 16, ground := Ground.phase }, { on := 17, ground := Ground.phase }, { on := 18, ground := Ground.phase }, { on := 19, ground := Ground.phase }], guard := none }) (v := ?_) rfl (by kernel_rfl) (by kernel_rfl) (by kernel_rfl) (fun c _ w h => HQ.out c _ _ w h) (Or.inl ⟨by rfl, ?_⟩) (by assumption) ?_
      rotate_left
      · (intro w hSw; (try dsimp only at hSw); go_simp; try with_reducible rfl)
      try simp only [Act.put, List.setIfInBounds_toArray, List.set_cons_zero, List.set_cons_succ]
      refine wpAnyH_ready (rs := [21]) (by kernel_rfl) (by simp) ?_
      refine AllReadyH.cons (o := { dst := none, op := Op.store 58 (Operand.tmp 72) (Operand.tmp 71), type := 0, pos := "law.go:308", after := #[{ on := 20, ground := Ground.data }, { on := 19, ground := Ground.data }, { on := 19, ground := Ground.chain }, { on := 0, ground := Ground.phase }, { on := 1, ground := Ground.phase }, { on := 2, ground := Ground.phase }, { on := 3, ground := Ground.phase }, { on := 4, ground := Ground.phase }, { on := 5, ground := Ground.phase }, { on := 6, ground := Ground.phase }, { on := 7, ground := Ground.phase }, { on := 8, ground := Ground.phase }, { on := 9, ground := Ground.phase }, { on := 10, ground := Ground.phase }, { on := 11, ground := Ground.phase }, { on := 12, ground := Ground.phase }, { on := 13, ground := Ground.phase }, { on := 14, ground := Ground.phase }, { on := 15, ground := Ground.phase }, { on := 16, ground := Ground.phase }, { on := 17, ground := Ground.phase }, { on := 18, ground := Ground.phase }, { on := 19, ground := Ground.phase }], guard := none }) rfl (fun K hK => ?_) AllReadyH.nil
      have HRY := hid (row_low HR.out B51.out)
      have d0 := row_cell HRY.out k (by have := HKN.out; omega)
      have hxl : k < xs.length := by have h1 := HRY.out.1; have := HKN.out; rw [Nat.mul_one] at h1; omega
      rw [List.getElem?_eq_getElem hxl] at d0
      have d1 := row_frz HRY.out k
      go_simp
      have SS : (w47.setCell ⟨gr, k, none⟩ (.slice a53 (m + 3) c54)).cell? ⟨mb, 0, none⟩ = some (.slice (some ⟨gp, 0, none⟩) n mc) ∧ (w47.setCell ⟨gr, k, none⟩ (.slice a53 (m + 3) c54)).cell? ⟨gp, k * 4 + 3, none⟩ = some (.slice ka m kc) := ⟨(cell_othS HMR.out).trans (mkS.out _ B51.out).1, (cell_othS HPR.out).trans (mkS.out _ B51.out).2⟩
      refine hK.out _ _ SS (fun hHeld => ?_)
      clear hK K hHeld d0 d1
      try simp only [Act.put, List.setIfInBounds_toArray, List.set_cons_zero, List.set_cons_succ]
      refine wpAnyH_done (by kernel_rfl) ?_ _
      refine HKK.out _ _ ?_
      exact keep_12 (by kernel_rfl) _ base gp gr mb mc k n T ks (xs.set k (.slice a53 (m + 3) c54)) a53 m c54 zs (by exact MID.out _ _ B51.out O52.out) HKN.out HNN.out HZS.out HMZ.out HLL.out HQ.out (fun W2 => by intros; rename_i h1 h2 h3 h4; exact NX.out W2 (.slice a53 (m + 3) c54) (by exact (((But2.of_below B51.out).trans (But2.of_right (Ap.grown_set _ gr k _))).trans h1)) (by rw [← HZS.out, ← HMZ.out]; exact h2) h3 (by rw [← HZS.out]; exact h4))
  refine AllReadyH.cons (o := { dst := some 70, op := Op.buildSlice 58 3 #[(0, Operand.const (Value.int IntKind.i64 (-91))), (1, Operand.const (Value.int IntKind.i64 (-92))), (2, Operand.const (Value.int IntKind.i64 (-93)))], type := 58, pos := "law.go:308", after := #[], guard := none }) rfl (fun K hK => ?_) AllReadyH.nil
  · go_simp
    have B55 := hid (bchS BD.out (belowA Y0 (.cells #[.int .i64 (-91), .int .i64 (-92), .int .i64 (-93)] 3)))
    have M56 := hid (rd_mks Y0)
    have GL59 := hid (show Y0.heap.size < (Y0.alloc (.cells #[.int .i64 (-91), .int .i64 (-92), .int .i64 (-93)] 3)).heap.size by simp)
    refine hK.out _ _ (mkS.out _ B55.out) (fun hHeld => ?_)
    clear hK K
    try simp only [Act.put, List.setIfInBounds_toArray, List.set_cons_zero, List.set_cons_succ]
    generalize Y0.alloc (.cells #[.int .i64 (-91), .int .i64 (-92), .int .i64 (-93)] 3) = Y57 at *
    generalize Y0.heap.size = gm58 at *
    refine wpAnyH_ready (rs := [10]) (by kernel_rfl) (by simp) ?_
    refine AllReadyH.cons (o := { dst := some 62, op := Op.makeSlice 58 (Operand.const (Value.int IntKind.i64 0)) (Operand.tmp 61), type := 58, pos := "law.go:308", after := #[{ on := 9, ground := Ground.data }], guard := none }) rfl (fun K hK => ?_) AllReadyH.nil
    go_simp
    have B60 := hid (bchS B55.out (belowA Y57 (.cells (madeCells #[.int .i64 0] (m + 3)) 3)))
    have O61 := hid (HMK.out Y57 W.heap.size HLL.out B55.out.size)
    have M56n := hid (RdI.low M56.out (belowA Y57 (.cells (madeCells #[.int .i64 0] (m + 3)) 3)) (Nat.le_refl _))
    have G64 := hid B55.out.size
    have N65 := hid (show gm58 ≠ Y57.heap.size from Nat.ne_of_lt GL59.out)
    refine hK.out _ _ (mkS.out _ B60.out) (fun hHeld => ?_)
    clear hK K
    try simp only [Act.put, List.setIfInBounds_toArray, List.set_cons_zero, List.set_cons_succ]
    generalize Y57.alloc (.cells (madeCells #[.int .i64 0] (m + 3)) 3) = Y62 at *
    have VL66 := hid (show Y57.heap.size < Y62.heap.size from (row_lt O61.out rfl).2)
    generalize Y57.heap.size = vb63 at *
    refine wpAnyH_ready (rs := [17]) (by kernel_rfl) (by simp) ?_
    refine AllReadyH.cons (o := { dst := some 69, op := Op.call { callee := Callee.builtin Builtin.append, args := #[Operand.tmp 62, Operand.tmp 68], argTypes := #[58, 58] }, type := 58, pos := "law.go:308", after := #[{ on := 10, ground := Ground.data }, { on := 16, ground := Ground.data }], guard := none }) rfl (fun K hK => ?_) AllReadyH.nil
    rw [if_pos (by rfl)]
    refine append_op _ _ rfl W.heap.size (.slice (some ⟨vb63, 0, none⟩) 0 (m + 3)) [] rfl O61.out ka m kc zs HMZ.out rfl HNO.out (HKR.out.low B60.out (Nat.le_refl _)) (by have := HLL.out; have := HMZ.out; simp; omega) B60.out.size ?_
    intro v68 w67 o69 g70
    rw [List.nil_append] at o69
    have B71 := hid (B60.out.grown g70 B60.out.size (fun k e => by cases e; exact G64.out))
    have M73 := hid (rd_grown M56n.out g70 (fun e => N65.out (by simpa [Value.ownBlock] using e)))
    have VL76 := hid (Nat.lt_of_lt_of_le VL66.out g70.size)
    have O72 := hid o69
    obtain ⟨a74, c75, rfl⟩ := own_form o69
    rw [← HMZ.out] at O72
    refine hK.out _ _ (mkS.out _ B71.out) (fun hHeld => ?_)
    clear hK K o69 g70
    try simp only [Act.put, List.setIfInBounds_toArray, List.set_cons_zero, List.set_cons_succ]
    rw [← HMZ.out]
    refine wpAnyH_ready (rs := [19]) (by kernel_rfl) (by simp) ?_
    refine AllReadyH.cons (o := { dst := some 71, op := Op.call { callee := Callee.builtin Builtin.append, args := #[Operand.tmp 69, Operand.tmp 70], argTypes := #[58, 58] }, type := 58, pos := "law.go:308", after := #[{ on := 17, ground := Ground.data }, { on := 18, ground := Ground.data }, { on := 17, ground := Ground.chain }], guard := none }) rfl (fun K hK => ?_) AllReadyH.nil
    rw [if_pos (by rfl)]
    have O72z := hid O72.out
    refine append_op _ _ rfl W.heap.size (.slice a74 m c75) zs rfl O72.out (some ⟨gm58, 0, none⟩) 3 3 mks rfl rfl (fun h => by cases h) M73.out (by have := HLL.out; have := HMZ.out; simp [mks]; omega) B71.out.size ?_
    intro v78 w77 o79 g80
    have B81 := hid (B71.out.grown g80 B71.out.size (fun k e => (row_lt O72.out e).1))
    have O82 := hid o79
    obtain ⟨a83, c84, rfl⟩ := own_form o79
    refine hK.out _ _ (mkS.out _ B81.out) (fun hHeld => ?_)
    clear hK K o79 g80
    try simp only [Act.put, List.setIfInBounds_toArray, List.set_cons_zero, List.set_cons_succ]
    have HE := hid (show (zs ++ mks).length = m + 3 by rw [List.length_append, ← HMZ.out]; rfl)
    rw [HE.out] at O82 ⊢
    refine wpAnyH_take (i := 20) (oi := { dst := some 72, op := Op.indexAddr 63 (Operand.tmp 52) (Operand.tmp 53), type := 0, pos := "law.go:308", after := #[{ on := 0, ground := Ground.data }, { on := 1, ground := Ground.data }, { on := 0, ground := Ground.phase }, { on := 1, ground := Ground.phase }, { on := 2, ground := Ground.phase }, { on := 3, ground := Ground.phase }, { on := 4, ground := Ground.phase }, { on := 5, ground := Ground.phase }, { on := 6, ground := Ground.phase }, { on := 7, ground := Ground.phase }, { on := 8, ground := Ground.phase }, { on := 9, ground := Ground.phase }, { on := 10, ground := Ground.phase }, { on := 11, ground := Ground.phase }, { on := 12, ground := Ground.phase }, { on := 13, ground := Ground.phase }, { on := 14, ground := Ground.phase }, { on := 15, ground := Ground.phase }, { on := 16, ground := Ground.phase }, { on := 17, ground := Ground.phase }, { on := 18, ground := Ground.phase }, { on := 19, ground := Ground.phase }], guard := none }) (v := ?_) rfl (by kernel_rfl) (by kernel_rfl) (by kernel_rfl) (fun c _ w h => HQ.out c _ _ w h) (Or.inl ⟨by rfl, ?_⟩) (by assumption) ?_
    rotate_left
    · (intro w hSw; (try dsimp only at hSw); go_simp; try with_reducible rfl)
    try simp only [Act.put, List.setIfInBounds_toArray, List.set_cons_zero, List.set_cons_succ]
    refine wpAnyH_ready (rs := [21]) (by kernel_rfl) (by simp) ?_
    refine AllReadyH.cons (o := { dst := none, op := Op.store 58 (Operand.tmp 72) (Operand.tmp 71), type := 0, pos := "law.go:308", after := #[{ on := 20, ground := Ground.data }, { on := 19, ground := Ground.data }, { on := 19, ground := Ground.chain }, { on := 0, ground := Ground.phase }, { on := 1, ground := Ground.phase }, { on := 2, ground := Ground.phase }, { on := 3, ground := Ground.phase }, { on := 4, ground := Ground.phase }, { on := 5, ground := Ground.phase }, { on := 6, ground := Ground.phase }, { on := 7, ground := Ground.phase }, { on := 8, ground := Ground.phase }, { on := 9, ground := Ground.phase }, { on := 10, ground := Ground.phase }, { on := 11, ground := Ground.phase }, { on := 12, ground := Ground.phase }, { on := 13, ground := Ground.phase }, { on := 14, ground := Ground.phase }, { on := 15, ground := Ground.phase }, { on := 16, ground := Ground.phase }, { on := 17, ground := Ground.phase }, { on := 18, ground := Ground.phase }, { on := 19, ground := Ground.phase }], guard := none }) rfl (fun K hK => ?_) AllReadyH.nil
    have HRY := hid (row_low HR.out B81.out)
    have d0 := row_cell HRY.out k (by have := HKN.out; omega)
    have hxl : k < xs.length := by have h1 := HRY.out.1; have := HKN.out; rw [Nat.mul_one] at h1; omega
    rw [List.getElem?_eq_getElem hxl] at d0
    have d1 := row_frz HRY.out k
    go_simp
    have SS : (w77.setCell ⟨gr, k, none⟩ (.slice a83 (m + 3) c84)).cell? ⟨mb, 0, none⟩ = some (.slice (some ⟨gp, 0, none⟩) n mc) ∧ (w77.setCell ⟨gr, k, none⟩ (.slice a83 (m + 3) c84)).cell? ⟨gp, k * 4 + 3, none⟩ = some (.slice ka m kc) := ⟨(cell_othS HMR.out).trans (mkS.out _ B81.out).1, (cell_othS HPR.out).trans (mkS.out _ B81.out).2⟩
    refine hK.out _ _ SS (fun hHeld => ?_)
    clear hK K hHeld d0 d1
    try simp only [Act.put, List.setIfInBounds_toArray, List.set_cons_zero, List.set_cons_succ]
    refine wpAnyH_done (by kernel_rfl) ?_ _
    refine HKK.out _ _ ?_
    exact keep_12 (by kernel_rfl) _ base gp gr mb mc k n T ks (xs.set k (.slice a83 (m + 3) c84)) a83 m c84 zs (by exact MID.out _ _ B81.out O82.out) HKN.out HNN.out HZS.out HMZ.out HLL.out HQ.out (fun W2 => by intros; rename_i h1 h2 h3 h4; exact NX.out W2 (.slice a83 (m + 3) c84) (by exact (((But2.of_below B81.out).trans (But2.of_right (Ap.grown_set _ gr k _))).trans h1)) (by rw [← HZS.out, ← HMZ.out]; exact h2) h3 (by rw [← HZS.out]; exact h4))
end Go.Proofs.YtiddnjjaidiohaaGreatDoor.L.Kp
