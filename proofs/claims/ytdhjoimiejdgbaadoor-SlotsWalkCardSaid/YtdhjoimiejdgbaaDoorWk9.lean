import Derived.Test.YtdhjoimiejdgbaaDoorWk2
import Derived.Test.YtdhjoimiejdgbaaDoorWk3
import Derived.Test.YtdhjoimiejdgbaaDoorWk4
import Derived.Test.YtdhjoimiejdgbaaDoorWk5
import Derived.Test.YtdhjoimiejdgbaaDoorWk6
import Derived.Test.YtdhjoimiejdgbaaDoorWk7
import Derived.Test.YtdhjoimiejdgbaaDoorMgM
namespace Go.Proofs.YtdhjoimiejdgbaaDoor.L
open Go.RowKit Bs Go.Maps Go.Shelf
set_option linter.unusedVariables false
theorem snap_const {V : World} {base X : Nat} {v3 : Value} {ss : List ByteArray} (h : OwnS V base v3 ss) : ∃ (bb : Nat) (C : List (Nat × Obj)), Ks V C ∧ (bb = X ∨ ∃ o, (bb, o) ∈ C) ∧ ∀ W, Ks W C → X < W.heap.size → SlS bb (bb + 1) W v3 ss ∧ bb < W.heap.size := by
  obtain ⟨C, k1, k2, k3⟩ := own_const h (by decide)
  rcases own_form h with ⟨rfl, h0⟩ | ⟨g, cap, rfl, _, _, hlt⟩
  · exact ⟨X, C, k1, Or.inl rfl, fun W hW hX => ⟨⟨none, 0, by rw [h0], Or.inl h0⟩, hX⟩⟩
  · obtain ⟨_, cur, hh⟩ := own_kind h (g := g) rfl
    refine ⟨g, (g, .cells cur 9 (0, 0)) :: C, k1.cons hh (OkO.cells (by decide)), Or.inr ⟨_, List.mem_cons_self ..⟩, fun W hW _ => ?_⟩
    have hO := k3 W (hW.sub (fun p hp => List.mem_cons_of_mem _ hp))
    refine ⟨⟨_, cap, rfl, Or.inr ⟨g, rfl, Nat.le_refl _, Nat.lt_succ_self _, fun j hj => ?_⟩⟩, (hO.lt g rfl).2⟩
    refine ownS_cell hO ?_
    unfold nmS
    rw [List.getElem?_map, List.getD_eq_getElem?_getD, List.getElem?_eq_getElem hj]
    rfl
set_option maxHeartbeats 8000000 in
set_option maxRecDepth 100000 in
theorem rest_law (Q : Ending → World → Prop) (w s W : World) (b Bw bk bn B X n2 k2 wc N base : Nat) (a2 wa : Option Addr) (ne : Int) (v3 : Value) (ss : List ByteArray) (D : List Dr) (s2 : List Opd) (u0 u1 u2 u3 u8 u9 u10 u13 u14 u15 u16 u17 u18 u19 u20 u21 u22 u23 u24 u25 u26 u27 u28 u29 u30 u31 u32 u33 u34 u35 u36 u37 u38 u39 u40 u41 u42 u43 u44 u45 u46 u47 u48 u49 u50 u51 u52 u53 u54 u55 u56 u57 u58 u59 u60 u61 u62 u63 u64 u65 u66 u67 u68 u69 u70 u71 u72 u73 u74 u75 u76 u77 u78 u79 u80 u81 u82 u83 u84 u85 u86 u87 u88 u89 u90 u91 u92 u93 u94 u95 u96 u97 u98 u99 u100 u101 u102 u103 u104 u105 u106 u107 u108 u109 u110 u111 u112 u113 u114 u115 u116 u117 u118 u119 u120 u121 u122 u123 u124 u125 u126 u127 u128 u129 u130 u131 u132 u133 u134 u135 u136 u137 u138 u139 u140 u141 u142 u143 u144 u145 u146 u147 u148 u149 u150 u151 u152 u153 u154 u155 u156 u157 u158 u159 u160 u161 u162 u163 u164 u165 u166 u167 u168 u169 u170 u171 u172 u173 u174 u175 u176 u177 u178 u179 u180 u181 u182 u183 u184 u185 u186 u187 u188 u189 u190 u191 u192 u193 u194 u195 u196 u197 u198 u199 u200 u201 u202 u203 u204 u205 u206 u207 u208 u209 u210 u211 u212 u213 u214 u215 u216 u217 u218 u219 u220 u221 u222 u223 u224 u225 u226 u227 u228 u229 u230 u231 u232 u233 u234 u235 u236 u237 u238 u239 u240 u241 u242 u243 u244 u245 u246 u247 u248 u249 u250 u251 u252 u253 u254 u255 u256 u257 u258 u259 u260 u261 u262 u263 u264 u265 u266 u267 u268 u269 u270 u271 u272 u273 u274 : Value)
    (kq : Kq W b Bw B (.slice a2 n2 k2) ne) (xr : Boxed W (b + 1 + 1) 4 (.bool false)) (wh : ∃ st, Wh s W B [] st ∧ Re st) (ts : Tab s) (lo : Below w.heap.size w s) (hw : w.heap.size ≤ b) (it : It2 w a2 n2 s2) (gd : GoodO s2)
    (KB : Boxed W bk 87 (allF X)) (NB : Boxed W bn 33 (.slice wa N wc)) (XB : Boxed W X 72 v3) (O3 : OwnS W base v3 ss) (O4 : W.ownsRow base 63 3 (.slice wa N wc) D.length (cellsD D))
    (hEq : prD D = tk ss) (hN : N = D.length) (hN6 : N ≤ 65536) (hS6 : ss.length ≤ 65536) (hQ : ∀ w', Below w.heap.size w w' → Q (.returned (.bool true)) w') :
    ((rtC (rtC (rtC (rtC (rtC (rtC (Option.getD Tryd.f7.body Code.skip)))))))).wpIn Fence.wide 3 Tryd.prog (bodyPostM Fence.wide 3 Tryd.prog Tryd.f7 Q) { tmps := #[u0, u1, u2, u3, .pointer (some ⟨b, 0, none⟩), .pointer (some ⟨b + 1, 0, none⟩), .pointer (some ⟨b + 1 + 1, 0, none⟩), .pointer (some ⟨Bw, 0, none⟩), u8, u9, u10, .pointer (some ⟨bk, 0, none⟩), .pointer (some ⟨bn, 0, none⟩), u13, u14, u15, u16, u17, u18, u19, u20, u21, u22, u23, u24, u25, u26, u27, u28, u29, u30, u31, u32, u33, u34, u35, u36, u37, u38, u39, u40, u41, u42, u43, u44, u45, u46, u47, u48, u49, u50, u51, u52, u53, u54, u55, u56, u57, u58, u59, u60, u61, u62, u63, u64, u65, u66, u67, u68, u69, u70, u71, u72, u73, u74, u75, u76, u77, u78, u79, u80, u81, u82, u83, u84, u85, u86, u87, u88, u89, u90, u91, u92, u93, u94, u95, u96, u97, u98, u99, u100, u101, u102, u103, u104, u105, u106, u107, u108, u109, u110, u111, u112, u113, u114, u115, u116, u117, u118, u119, u120, u121, u122, u123, u124, u125, u126, u127, u128, u129, u130, u131, u132, u133, u134, u135, u136, u137, u138, u139, u140, u141, u142, u143, u144, u145, u146, u147, u148, u149, u150, u151, u152, u153, u154, u155, u156, u157, u158, u159, u160, u161, u162, u163, u164, u165, u166, u167, u168, u169, u170, u171, u172, u173, u174, u175, u176, u177, u178, u179, u180, u181, u182, u183, u184, u185, u186, u187, u188, u189, u190, u191, u192, u193, u194, u195, u196, u197, u198, u199, u200, u201, u202, u203, u204, u205, u206, u207, u208, u209, u210, u211, u212, u213, u214, u215, u216, u217, u218, u219, u220, u221, u222, u223, u224, u225, u226, u227, u228, u229, u230, u231, u232, u233, u234, u235, u236, u237, u238, u239, u240, u241, u242, u243, u244, u245, u246, u247, u248, u249, u250, u251, u252, u253, u254, u255, u256, u257, u258, u259, u260, u261, u262, u263, u264, u265, u266, u267, u268, u269, u270, u271, u272, u273, u274], defers := [] } W := by
  obtain ⟨bb, C3, y1, y2, y3⟩ := snap_const (X := X) O3
  obtain ⟨C4, z1, _, z3⟩ := own_const O4 (by decide)
  obtain ⟨C, hC⟩ : ∃ C, C = (b, Obj.cells #[.slice a2 n2 k2] 22 (0, 0)) :: (b + 1, Obj.cells #[.int .i64 ne] 3 (0, 0)) :: (Bw, Obj.cells #[.pointer (some ⟨B, 0, none⟩)] 24 (0, 0)) :: (bk, Obj.cells #[allF X] 87 (0, 0)) :: (bn, Obj.cells #[.slice wa N wc] 33 (0, 0)) :: (X, Obj.cells #[v3] 72 (0, 0)) :: (b + 1 + 1, Obj.cells #[.bool false] 4 (0, 0)) :: (C3 ++ C4) := ⟨_, rfl⟩
  have ks : Ks W C := by
    rw [hC]
    exact ((((((((y1.app z1).cons xr (OkO.cells (by decide))).cons XB (OkO.cells (by decide))).cons NB (OkO.cells (by decide))).cons KB (OkO.cells (by decide))).cons kq.bw (OkO.cells (by decide))).cons kq.be (OkO.cells (by decide))).cons kq.ba (OkO.cells (by decide)))
  have m3 : ∀ p ∈ C3, p ∈ C := fun p hp => by rw [hC]; simp [hp]
  have m4 : ∀ p ∈ C4, p ∈ C := fun p hp => by rw [hC]; simp [hp]
  have mX : (X, Obj.cells #[v3] 72 (0, 0)) ∈ C := by rw [hC]; simp
  have mR : (b + 1 + 1, Obj.cells #[.bool false] 4 (0, 0)) ∈ C := by rw [hC]; simp
  have g : Gm b Bw bk bn B X bb (.slice a2 n2 k2) ne v3 wa wc ss D N C := by
    refine ⟨by rw [hC]; simp, by rw [hC]; simp, by rw [hC]; simp, by rw [hC]; simp, by rw [hC]; simp, mX, fun W' hW' => y3 W' (hW'.sub m3) (hW'.lt _ mX), ?_, fun W' hW' => ?_, hEq, hN, hN6, hS6⟩
    · rcases y2 with rfl | ⟨o, ho⟩
      · exact ⟨_, mX⟩
      · exact ⟨o, m3 _ ho⟩
    · have := z3 W' (hW'.sub m4)
      rw [hN] at this
      exact itemsE_of this
  have hlt := ks.lt
  clear hC y1 y2 y3 z1 z3 m3 m4 mX
  obtain ⟨st0, hW0, hR0⟩ := wh
  have hsW : s.heap.size ≤ W.heap.size := hW0.lo.size
  refine seg_a _ b Bw bk bn X W u0 u1 u2 u3 u8 u9 u10 u13 u14 u15 u16 u17 u18 u19 u20 u21 u22 u23 u24 u25 u26 u27 u28 u29 u30 u31 u32 u33 u34 u35 u36 u37 u38 u39 u40 u41 u42 u43 u44 u45 u46 u47 u48 u49 u50 u51 u52 u53 u54 u55 u56 u57 u58 u59 u60 u61 u62 u63 u64 u65 u66 u67 u68 u69 u70 u71 u72 u73 u74 u75 u76 u77 u78 u79 u80 u81 u82 u83 u84 u85 u86 u87 u88 u89 u90 u91 u92 u93 u94 u95 u96 u97 u98 u99 u100 u101 u102 u103 u104 u105 u106 u107 u108 u109 u110 u111 u112 u113 u114 u115 u116 u117 u118 u119 u120 u121 u122 u123 u124 u125 u126 u127 u128 u129 u130 u131 u132 u133 u134 u135 u136 u137 u138 u139 u140 u141 u142 u143 u144 u145 u146 u147 u148 u149 u150 u151 u152 u153 u154 u155 u156 u157 u158 u159 u160 u161 u162 u163 u164 u165 u166 u167 u168 u169 u170 u171 u172 u173 u174 u175 u176 u177 u178 u179 u180 u181 u182 u183 u184 u185 u186 u187 u188 u189 u190 u191 u192 u193 u194 u195 u196 u197 u198 u199 u200 u201 u202 u203 u204 u205 u206 u207 u208 u209 u210 u211 u212 u213 u214 u215 u216 u217 u218 u219 u220 u221 u222 u223 u224 u225 u226 u227 u228 u229 u230 u231 u232 u233 u234 u235 u236 u237 u238 u239 u240 u241 u242 u243 u244 u245 u246 u247 u248 u249 u250 u251 u252 u253 u254 u255 u256 u257 u258 u259 u260 u261 u262 u263 u264 u265 u266 u267 u268 u269 u270 u271 u272 u273 u274 KB ?_
  intro t0 t1 t2 t3 t8 t9 t10 t17 t18 t19 t20 t21 t22 t23 t24 t25 t26 t27 t28 t29 t30 t31 t32 t33 t34 t35 t36 t37 t38 t39 t40 t41 t42 t43 t44 t45 t46 t47 t48 t49 t50 t51 t52 t53 t54 t55 t56 t57 t58 t59 t60 t61 t62 t63 t64 t65 t66 t67 t68 t69 t70 t71 t72 t73 t74 t75 t76 t77 t78 t79 t80 t81 t82 t83 t84 t85 t86 t87 t88 t89 t90 t91 t92 t93 t94 t95 t96 t97 t98 t99 t100 t101 t102 t103 t104 t105 t106 t107 t108 t109 t110 t111 t112 t113 t114 t115 t116 t117 t118 t119 t120 t121 t122 t123 t124 t125 t126 t127 t128 t129 t130 t131 t132 t133 t134 t135 t136 t137 t138 t139 t140 t141 t142 t143 t144 t145 t146 t147 t148 t149 t150 t151 t152 t153 t154 t155 t156 t157 t158 t159 t160 t161 t162 t163 t164 t165 t166 t167 t168 t169 t170 t171 t172 t173 t174 t175 t176 t177 t178 t179 t180 t181 t182 t183 t184 t185 t186 t187 t188 t189 t190 t191 t192 t193 t194 t195 t196 t197 t198 t199 t200 t201 t202 t203 t204 t205 t206 t207 t208 t209 t210 t211 t212 t213 t214 t215 t216 t217 t218 t219 t220 t221 t222 t223 t224 t225 t226 t227 t228 t229 t230 t231 t232 t233 t234 t235 t236 t237 t238 t239 t240 t241 t242 t243 t244 t245 t246 t247 t248 t249 t250 t251 t252 t253 t254 t255 t256 t257 t258 t259 t260 t261 t262 t263 t264 t265 t266 t267 t268 t269 t270 t271 t272 t273 t274
  have al : Below W.heap.size W ((((W.alloc (.cells #[.slice none 0 0] 90)).alloc (.cells #[.slice none 0 0] 90)).alloc (.cells #[.slice none 0 0] 90)).alloc (.cells #[.int .i64 0] 3)) := ((((Below.refl _ W).alloc (Nat.le_refl _) _).alloc (by simp) _).alloc (by simp; omega) _).alloc (by simp; omega) _
  have x1 : Boxed ((((W.alloc (.cells #[.slice none 0 0] 90)).alloc (.cells #[.slice none 0 0] 90)).alloc (.cells #[.slice none 0 0] 90)).alloc (.cells #[.int .i64 0] 3)) W.heap.size 90 (.slice none 0 0) := (((Boxed.new W _ _).alloc _).alloc _).alloc _
  have x2 : Boxed ((((W.alloc (.cells #[.slice none 0 0] 90)).alloc (.cells #[.slice none 0 0] 90)).alloc (.cells #[.slice none 0 0] 90)).alloc (.cells #[.int .i64 0] 3)) (W.heap.size + 1) 90 (.slice none 0 0) := ((bxn2 W _ _ _ _).alloc _).alloc _
  have x3 : Boxed ((((W.alloc (.cells #[.slice none 0 0] 90)).alloc (.cells #[.slice none 0 0] 90)).alloc (.cells #[.slice none 0 0] 90)).alloc (.cells #[.int .i64 0] 3)) (W.heap.size + 1 + 1) 90 (.slice none 0 0) := by
    have := (bxn2 (W.alloc (.cells #[.slice none 0 0] 90)) 90 90 (.slice none 0 0) (.slice none 0 0)).alloc (.cells #[.int .i64 0] 3)
    rwa [World.size_alloc] at this
  have x4 : Boxed ((((W.alloc (.cells #[.slice none 0 0] 90)).alloc (.cells #[.slice none 0 0] 90)).alloc (.cells #[.slice none 0 0] 90)).alloc (.cells #[.int .i64 0] 3)) (W.heap.size + 1 + 1 + 1) 3 (.int .i64 0) := by
    have := bxn2 ((W.alloc (.cells #[.slice none 0 0] 90)).alloc (.cells #[.slice none 0 0] 90)) 3 90 (.int .i64 0) (.slice none 0 0)
    rwa [World.size_alloc, World.size_alloc] at this
  have hz : ((((W.alloc (.cells #[.slice none 0 0] 90)).alloc (.cells #[.slice none 0 0] 90)).alloc (.cells #[.slice none 0 0] 90)).alloc (.cells #[.int .i64 0] 3)).heap.size = W.heap.size + 4 := by simp
  generalize (((W.alloc (.cells #[.slice none 0 0] 90)).alloc (.cells #[.slice none 0 0] 90)).alloc (.cells #[.slice none 0 0] 90)).alloc (.cells #[.int .i64 0] 3) = Y at *
  have kY := ks.low al
  have hWY := hW0.low al
  obtain ⟨B1, hB1⟩ : ∃ n, n = W.heap.size := ⟨_, rfl⟩
  rw [← hB1] at x1 x2 x3 x4 hz hlt hsW ⊢
  clear al ks KB NB XB O3 O4 kq xr hW0 hB1
  have hNN := g.tlen
  have hbb := g.cs
  have k1 : Ks Y ((B1 + 1, Obj.cells #[.slice none 0 0] 90 (0, 0)) :: (B1 + 1 + 1, Obj.cells #[.slice none 0 0] 90 (0, 0)) :: C) := (kY.cons x3 (OkO.cells (by decide))).cons x2 (OkO.cells (by decide))
  have g1 := g.mono (C' := (B1 + 1, Obj.cells #[.slice none 0 0] 90 (0, 0)) :: (B1 + 1 + 1, Obj.cells #[.slice none 0 0] 90 (0, 0)) :: C) (fun p hp => List.mem_cons_of_mem _ (List.mem_cons_of_mem _ hp))
  have cx : Cx s ((B1 + 1, Obj.cells #[.slice none 0 0] 90 (0, 0)) :: (B1 + 1 + 1, Obj.cells #[.slice none 0 0] 90 (0, 0)) :: C) Y.heap.size B1 (B1 + 1 + 1 + 1) bb := ⟨fun p hp => by
    rcases List.mem_cons.1 hp with rfl | hp
    · simp only; omega
    rcases List.mem_cons.1 hp with rfl | hp
    · simp only; omega
    have := hlt p hp
    omega, ⟨by omega, by omega⟩, ⟨by omega, by omega⟩, by omega, g1.cs⟩
  refine seg_b _ w s Y b Bw bk bn B X bb n2 k2 wc N a2 wa ne v3 ss D s2 _ B1 (B1 + 1) (B1 + 1 + 1) (B1 + 1 + 1 + 1) _ _ _ _ _ _ _ _ _ _ _ _ _ _ _ _ _ _ _ _ _ _ _ _ _ _ _ _ _ _ _ _ _ _ _ _ _ _ _ _ _ _ _ _ _ _ _ _ _ _ _ _ _ _ _ _ _ _ _ _ _ _ _ _ _ _ _ _ _ _ _ _ _ _ _ _ _ _ _ _ _ _ _ _ _ _ _ _ _ _ _ _ _ _ _ _ _ _ _ _ _ _ _ _ _ _ _ _ _ _ _ _ _ _ _ _ _ _ _ _ _ _ _ _ _ _ _ _ _ _ _ _ _ _ _ _ _ _ _ _ _ _ _ _ _ _ _ _ _ _ _ _ _ _ _ _ _ _ _ _ _ _ _ _ _ _ _ _ _ _ _ _ _ _ _ _ _ _ _ _ _ _ _ _ _ _ _ _ _ _ _ _ _ _ _ _ _ _ _ _ _ _ _ _ _ _ _ _ _ _ _ _ _ _ _ _ _ _ _ _ _ _ _ _ _ _ _ _ _ _ _ _ _ _ _ _ _ _ _ _ _ _ _ _ _ _ _ _ _ _ _ _ _ _ _ _ _ _ _ _ _ _ _ _ _ g1 cx k1 ⟨st0, hWY, hR0⟩ ts lo it gd x1 x4 ?_
  intro D1 W1 t0 t1 t2 t3 t8 t9 t10 t17 t18 t19 t20 t21 t22 t23 t24 t25 t26 t27 t28 t29 t30 t31 t32 t33 t34 t35 t36 t37 t38 t39 t40 t41 t42 t43 t44 t45 t46 t47 t48 t49 t50 t51 t52 t53 t54 t55 t56 t57 t58 t59 t60 t61 t62 t63 t64 t65 t66 t67 t68 t69 t70 t71 t72 t73 t74 t75 t76 t77 t78 t79 t80 t81 t82 t83 t84 t85 t86 t87 t88 t89 t90 t91 t92 t93 t94 t95 t96 t97 t98 t99 t100 t101 t102 t103 t104 t105 t106 t107 t108 t109 t110 t111 t112 t113 t114 t115 t116 t117 t118 t119 t120 t121 t122 t123 t124 t125 t126 t127 t128 t129 t130 t131 t132 t133 t134 t135 t136 t137 t138 t139 t140 t141 t142 t143 t144 t145 t146 t147 t148 t149 t150 t151 t152 t153 t154 t155 t156 t157 t158 t159 t160 t161 t162 t163 t164 t165 t166 t167 t168 t169 t170 t171 t172 t173 t174 t175 t176 t177 t178 t179 t180 t181 t182 t183 t184 t185 t186 t187 t188 t189 t190 t191 t192 t193 t194 t195 t196 t197 t198 t199 t200 t201 t202 t203 t204 t205 t206 t207 t208 t209 t210 t211 t212 t213 t214 t215 t216 t217 t218 t219 t220 t221 t222 t223 t224 t225 t226 t227 t228 t229 t230 t231 t232 t233 t234 t235 t236 t237 t238 t239 t240 t241 t242 t243 t244 t245 t246 t247 t248 t249 t250 t251 t252 t253 t254 t255 t256 t257 t258 t259 t260 t261 t262 t263 t264 t265 t266 t267 t268 t269 t270 t271 t272 t273 t274 hD1 hd1 I1
  obtain ⟨C2, p1, p2, p3⟩ := I1.ls.const
  have q0 := I1.ks.sub (C' := C) (fun p hp => List.mem_cons_of_mem _ (List.mem_cons_of_mem _ hp))
  have q2 : Boxed W1 (B1 + 1) 90 (.slice none 0 0) := I1.ks.has _ (List.mem_cons_self ..)
  have q3 : Boxed W1 (B1 + 1 + 1) 90 (.slice none 0 0) := I1.ks.has _ (List.mem_cons_of_mem _ (List.mem_cons_self ..))
  obtain ⟨st1, hW1, hR1⟩ := I1.wh
  have hz1 := I1.sz
  have hD1l := lt_of_block hd1
  obtain ⟨CC, hCC⟩ : ∃ CC, CC = (D1, Obj.deferred (some [])) :: (C2 ++ C) := ⟨_, rfl⟩
  have kc : Ks W1 CC := by rw [hCC]; exact (p1.app q0).cons hd1 (OkO.deferred _)
  have sc : ∀ p ∈ C, p ∈ CC := fun p hp => by rw [hCC]; simp [hp]
  have tc : Lc B1 (tk ss) CC := p2.mono (fun p hp => by rw [hCC]; simp [hp])
  have dc : (D1, Obj.deferred (some [])) ∈ CC := by rw [hCC]; simp
  have lc : ∀ p ∈ CC, p.1 ≤ B1 ∨ Y.heap.size ≤ p.1 := fun p hp => by
    rw [hCC] at hp
    rcases List.mem_cons.1 hp with rfl | hp
    · exact Or.inr hD1
    rcases List.mem_append.1 hp with hp | hp
    · rcases p3 p hp with e | e
      · exact Or.inl (by omega)
      · exact Or.inr e
    · exact Or.inl (Nat.le_of_lt (hlt p hp))
  have xa := I1.aa
  clear hCC p1 p2 p3 q0 k1 g1 cx I1 x1 x2 x3 x4
  have kc3 := kc.cons q3 (OkO.cells (by decide))
  refine seg_c _ _ W1 b Bw bk bn B X bb n2 k2 wc N a2 wa ne v3 ss D ((B1 + 1 + 1, Obj.cells #[.slice none 0 0] 90 (0, 0)) :: CC) B1 (B1 + 1) (B1 + 1 + 1) (B1 + 1 + 1 + 1) _ _ _ _ _ _ _ _ _ _ _ _ _ _ _ _ _ _ _ _ _ _ _ _ _ _ _ _ _ _ _ _ _ _ _ _ _ _ _ _ _ _ _ _ _ _ _ _ _ _ _ _ _ _ _ _ _ _ _ _ _ _ _ _ _ _ _ _ _ _ _ _ _ _ _ _ _ _ _ _ _ _ _ _ _ _ _ _ _ _ _ _ _ _ _ _ _ _ _ _ _ _ _ _ _ _ _ _ _ _ _ _ _ _ _ _ _ _ _ _ _ _ _ _ _ _ _ _ _ _ _ _ _ _ _ _ _ _ _ _ _ _ _ _ _ _ _ _ _ _ _ _ _ _ _ _ _ _ _ _ _ _ _ _ _ _ _ _ _ _ _ _ _ _ _ _ _ _ _ _ _ _ _ _ _ _ _ _ _ _ _ _ _ _ _ _ _ _ _ _ _ _ _ _ _ _ _ _ _ _ _ _ _ _ _ _ _ _ _ _ _ _ _ _ _ _ _ _ _ _ _ _ _ _ _ _ _ _ _ _ _ _ _ _ _ _ _ _ _ _ _ _ _ _ _ _ _ _ _ _ _ _ _ _ _ (g.mono (fun p hp => List.mem_cons_of_mem _ (sc p hp))) kc3 (fun p hp => by
    rcases List.mem_cons.1 hp with rfl | hp
    · simp only; omega
    rcases lc p hp with e | e <;> omega) q2 ?_
  intro D2 W2 t0 t1 t2 t3 t8 t9 t10 t17 t18 t19 t20 t21 t22 t23 t24 t25 t26 t27 t28 t29 t30 t31 t32 t33 t34 t35 t36 t37 t38 t39 t40 t41 t42 t43 t44 t45 t46 t47 t48 t49 t50 t51 t52 t53 t54 t55 t56 t57 t58 t59 t60 t61 t62 t63 t64 t65 t66 t67 t68 t69 t70 t71 t72 t73 t74 t75 t76 t77 t78 t79 t80 t81 t82 t83 t84 t85 t86 t87 t88 t89 t90 t91 t92 t93 t94 t95 t96 t97 t98 t99 t100 t101 t102 t103 t104 t105 t106 t107 t108 t109 t110 t111 t112 t113 t114 t115 t116 t117 t118 t119 t120 t121 t122 t123 t124 t125 t126 t127 t128 t129 t130 t131 t132 t133 t134 t135 t136 t137 t138 t139 t140 t141 t142 t143 t144 t145 t146 t147 t148 t149 t150 t151 t152 t153 t154 t155 t156 t157 t158 t159 t160 t161 t162 t163 t164 t165 t166 t167 t168 t169 t170 t171 t172 t173 t174 t175 t176 t177 t178 t179 t180 t181 t182 t183 t184 t185 t186 t187 t188 t189 t190 t191 t192 t193 t194 t195 t196 t197 t198 t199 t200 t201 t202 t203 t204 t205 t206 t207 t208 t209 t210 t211 t212 t213 t214 t215 t216 t217 t218 t219 t220 t221 t222 t223 t224 t225 t226 t227 t228 t229 t230 t231 t232 t233 t234 t235 t236 t237 t238 t239 t240 t241 t242 t243 t244 t245 t246 t247 t248 t249 t250 t251 t252 t253 t254 t255 t256 t257 t258 t259 t260 t261 t262 t263 t264 t265 t266 t267 t268 t269 t270 t271 t272 t273 t274 hD2 hd2 x2 l2
  obtain ⟨C5, p1, p2, p3⟩ := l2.const
  have k2c : Ks W2 ((B1 + 1 + 1, Obj.cells #[.slice none 0 0] 90 (0, 0)) :: CC) := kc3.bx x2 (fun p hp c => by
    have := List.mem_singleton.1 c
    rcases List.mem_cons.1 hp with rfl | hp
    · simp only at this; omega
    rcases lc p hp with e | e <;> omega)
  have hW2 := hW1.frame x2 (fun k hk => by have := List.mem_singleton.1 hk; omega) (fun k hk => by rw [List.mem_singleton.1 hk]; exact Ot.of q2 (OtO.cells (by decide)))
  obtain ⟨ka, hka, hab⟩ := xa
  have xa2 : ∃ k : Nat, k ≤ n2 ∧ Boxed W2 (B1 + 1 + 1 + 1) 3 (.int .i64 (k : Int)) := ⟨ka, hka, boxed_bx hab x2 (fun c => by have := List.mem_singleton.1 c; omega)⟩
  have hz2 := x2.size
  have hD2l := lt_of_block hd2
  obtain ⟨CD, hCD⟩ : ∃ CD, CD = (D2, Obj.deferred (some [])) :: (C5 ++ CC) := ⟨_, rfl⟩
  have kd : Ks W2 CD := by rw [hCD]; exact (p1.app (k2c.sub (fun p hp => List.mem_cons_of_mem _ hp))).cons hd2 (OkO.deferred _)
  have sd : ∀ p ∈ CC, p ∈ CD := fun p hp => by rw [hCD]; simp [hp]
  have td : Lc (B1 + 1) ((tk ss).take (max 1 ne).toNat) CD := p2.mono (fun p hp => by rw [hCD]; simp [hp])
  have dd : (D2, Obj.deferred (some [])) ∈ CD := by rw [hCD]; simp
  have ld : ∀ p ∈ CD, p.1 ≤ B1 + 1 ∨ Y.heap.size ≤ p.1 := fun p hp => by
    rw [hCD] at hp
    rcases List.mem_cons.1 hp with rfl | hp
    · exact Or.inr (by simp only; omega)
    rcases List.mem_append.1 hp with hp | hp
    · rcases p3 p hp with e | e
      · exact Or.inl (by omega)
      · exact Or.inr (by omega)
    · rcases lc p hp with e | e
      · exact Or.inl (by omega)
      · exact Or.inr e
  have kd3 : Ks W2 ((B1 + 1 + 1, Obj.cells #[.slice none 0 0] 90 (0, 0)) :: CD) := kd.cons (k2c.has _ (List.mem_cons_self ..)) (OkO.cells (by decide))
  clear hCD p1 p2 p3 k2c kc3 kc kd
  refine seg_d _ _ w s W2 b Bw bk bn B X bb n2 k2 wc N a2 wa ne v3 ss D s2 ((B1 + 1 + 1, Obj.cells #[.slice none 0 0] 90 (0, 0)) :: CD) B1 (B1 + 1) (B1 + 1 + 1) (B1 + 1 + 1 + 1) _ _ _ _ _ _ _ _ _ _ _ _ _ _ _ _ _ _ _ _ _ _ _ _ _ _ _ _ _ _ _ _ _ _ _ _ _ _ _ _ _ _ _ _ _ _ _ _ _ _ _ _ _ _ _ _ _ _ _ _ _ _ _ _ _ _ _ _ _ _ _ _ _ _ _ _ _ _ _ _ _ _ _ _ _ _ _ _ _ _ _ _ _ _ _ _ _ _ _ _ _ _ _ _ _ _ _ _ _ _ _ _ _ _ _ _ _ _ _ _ _ _ _ _ _ _ _ _ _ _ _ _ _ _ _ _ _ _ _ _ _ _ _ _ _ _ _ _ _ _ _ _ _ _ _ _ _ _ _ _ _ _ _ _ _ _ _ _ _ _ _ _ _ _ _ _ _ _ _ _ _ _ _ _ _ _ _ _ _ _ _ _ _ _ _ _ _ _ _ _ _ _ _ _ _ _ _ _ _ _ _ _ _ _ _ _ _ _ _ _ _ _ _ _ _ _ _ _ _ _ _ _ _ _ _ _ _ _ _ _ _ _ _ _ _ _ _ _ _ _ _ _ _ _ _ _ _ _ _ _ _ _ _ _ _ (g.mono (fun p hp => List.mem_cons_of_mem _ (sd p (sc p hp)))) kd3 (fun p hp => by
    rcases List.mem_cons.1 hp with rfl | hp
    · simp only; omega
    rcases ld p hp with e | e <;> omega) (by omega) ⟨st1, hW2, hR1⟩ ts lo it gd xa2 ?_
  intro W3 t0 t1 t2 t3 t8 t9 t10 t17 t18 t19 t20 t21 t22 t23 t24 t25 t26 t27 t28 t29 t30 t31 t32 t33 t34 t35 t36 t37 t38 t39 t40 t41 t42 t43 t44 t45 t46 t47 t48 t49 t50 t51 t52 t53 t54 t55 t56 t57 t58 t59 t60 t61 t62 t63 t64 t65 t66 t67 t68 t69 t70 t71 t72 t73 t74 t75 t76 t77 t78 t79 t80 t81 t82 t83 t84 t85 t86 t87 t88 t89 t90 t91 t92 t93 t94 t95 t96 t97 t98 t99 t100 t101 t102 t103 t104 t105 t106 t107 t108 t109 t110 t111 t112 t113 t114 t115 t116 t117 t118 t119 t120 t121 t122 t123 t124 t125 t126 t127 t128 t129 t130 t131 t132 t133 t134 t135 t136 t137 t138 t139 t140 t141 t142 t143 t144 t145 t146 t147 t148 t149 t150 t151 t152 t153 t154 t155 t156 t157 t158 t159 t160 t161 t162 t163 t164 t165 t166 t167 t168 t169 t170 t171 t172 t173 t174 t175 t176 t177 t178 t179 t180 t181 t182 t183 t184 t185 t186 t187 t188 t189 t190 t191 t192 t193 t194 t195 t196 t197 t198 t199 t200 t201 t202 t203 t204 t205 t206 t207 t208 t209 t210 t211 t212 t213 t214 t215 t216 t217 t218 t219 t220 t221 t222 t223 t224 t225 t226 t227 t228 t229 t230 t231 t232 t233 t234 t235 t236 t237 t238 t239 t240 t241 t242 t243 t244 t245 t246 t247 t248 t249 t250 t251 t252 t253 t254 t255 t256 t257 t258 t259 t260 t261 t262 t263 t264 t265 t266 t267 t268 t269 t270 t271 t272 t273 t274 hz3 k3 wh3
  obtain ⟨st3, hW3, hR3⟩ := wh3
  have x3 : Boxed W3 (B1 + 1 + 1) 90 (.slice none 0 0) := k3.has _ (List.mem_cons_self ..)
  have ke := k3.sub (C' := CD) (fun p hp => List.mem_cons_of_mem _ hp)
  refine seg_e _ _ W3 b Bw bk bn B X bb n2 k2 wc N a2 wa ne v3 ss D CD B1 (B1 + 1) (B1 + 1 + 1) (B1 + 1 + 1 + 1) _ _ _ _ _ _ _ _ _ _ _ _ _ _ _ _ _ _ _ _ _ _ _ _ _ _ _ _ _ _ _ _ _ _ _ _ _ _ _ _ _ _ _ _ _ _ _ _ _ _ _ _ _ _ _ _ _ _ _ _ _ _ _ _ _ _ _ _ _ _ _ _ _ _ _ _ _ _ _ _ _ _ _ _ _ _ _ _ _ _ _ _ _ _ _ _ _ _ _ _ _ _ _ _ _ _ _ _ _ _ _ _ _ _ _ _ _ _ _ _ _ _ _ _ _ _ _ _ _ _ _ _ _ _ _ _ _ _ _ _ _ _ _ _ _ _ _ _ _ _ _ _ _ _ _ _ _ _ _ _ _ _ _ _ _ _ _ _ _ _ _ _ _ _ _ _ _ _ _ _ _ _ _ _ _ _ _ _ _ _ _ _ _ _ _ _ _ _ _ _ _ _ _ _ _ _ _ _ _ _ _ _ _ _ _ _ _ _ _ _ _ _ _ _ _ _ _ _ _ _ _ _ _ _ _ _ _ _ _ _ _ _ _ _ _ _ _ _ _ _ _ _ _ _ _ _ _ _ _ _ _ _ _ _ _ (g.mono (fun p hp => sd p (sc p hp))) ke (fun p hp => by
    rcases ld p hp with e | e <;> omega) x3 ?_
  intro D3 W4 t0 t1 t2 t3 t8 t9 t10 t17 t18 t19 t20 t21 t22 t23 t24 t25 t26 t27 t28 t29 t30 t31 t32 t33 t34 t35 t36 t37 t38 t39 t40 t41 t42 t43 t44 t45 t46 t47 t48 t49 t50 t51 t52 t53 t54 t55 t56 t57 t58 t59 t60 t61 t62 t63 t64 t65 t66 t67 t68 t69 t70 t71 t72 t73 t74 t75 t76 t77 t78 t79 t80 t81 t82 t83 t84 t85 t86 t87 t88 t89 t90 t91 t92 t93 t94 t95 t96 t97 t98 t99 t100 t101 t102 t103 t104 t105 t106 t107 t108 t109 t110 t111 t112 t113 t114 t115 t116 t117 t118 t119 t120 t121 t122 t123 t124 t125 t126 t127 t128 t129 t130 t131 t132 t133 t134 t135 t136 t137 t138 t139 t140 t141 t142 t143 t144 t145 t146 t147 t148 t149 t150 t151 t152 t153 t154 t155 t156 t157 t158 t159 t160 t161 t162 t163 t164 t165 t166 t167 t168 t169 t170 t171 t172 t173 t174 t175 t176 t177 t178 t179 t180 t181 t182 t183 t184 t185 t186 t187 t188 t189 t190 t191 t192 t193 t194 t195 t196 t197 t198 t199 t200 t201 t202 t203 t204 t205 t206 t207 t208 t209 t210 t211 t212 t213 t214 t215 t216 t217 t218 t219 t220 t221 t222 t223 t224 t225 t226 t227 t228 t229 t230 t231 t232 t233 t234 t235 t236 t237 t238 t239 t240 t241 t242 t243 t244 t245 t246 t247 t248 t249 t250 t251 t252 t253 t254 t255 t256 t257 t258 t259 t260 t261 t262 t263 t264 t265 t266 t267 t268 t269 t270 t271 t272 t273 t274 hD3 hd3 x4 l4
  obtain ⟨C6, p1, p2, p3⟩ := l4.const
  have k4 := ke.bx x4 (fun p hp c => by
    have := List.mem_singleton.1 c
    rcases ld p hp with e | e <;> omega)
  have hW4 := hW3.frame x4 (fun k hk => by have := List.mem_singleton.1 hk; omega) (fun k hk => by rw [List.mem_singleton.1 hk]; exact Ot.of x3 (OtO.cells (by decide)))
  have hz4 := x4.size
  have hD3l := lt_of_block hd3
  obtain ⟨CE, hCE⟩ : ∃ CE, CE = (D3, Obj.deferred (some [])) :: (C6 ++ CD) := ⟨_, rfl⟩
  have kf : Ks W4 CE := by rw [hCE]; exact (p1.app k4).cons hd3 (OkO.deferred _)
  have se : ∀ p ∈ CD, p ∈ CE := fun p hp => by rw [hCE]; simp [hp]
  have te : Lc (B1 + 1 + 1) (tk ss) CE := p2.mono (fun p hp => by rw [hCE]; simp [hp])
  have de : (D3, Obj.deferred (some [])) ∈ CE := by rw [hCE]; simp
  clear hCE p1 p2 p3 k4 ke k3 kd3
  refine seg_g _ _ W4 b Bw bk bn B X bb n2 k2 wc N a2 wa ne v3 ss D CE B1 (B1 + 1) (B1 + 1 + 1) (B1 + 1 + 1 + 1) _ _ _ _ _ _ _ _ _ _ _ _ _ _ _ _ _ _ _ _ _ _ _ _ _ _ _ _ _ _ _ _ _ _ _ _ _ _ _ _ _ _ _ _ _ _ _ _ _ _ _ _ _ _ _ _ _ _ _ _ _ _ _ _ _ _ _ _ _ _ _ _ _ _ _ _ _ _ _ _ _ _ _ _ _ _ _ _ _ _ _ _ _ _ _ _ _ _ _ _ _ _ _ _ _ _ _ _ _ _ _ _ _ _ _ _ _ _ _ _ _ _ _ _ _ _ _ _ _ _ _ _ _ _ _ _ _ _ _ _ _ _ _ _ _ _ _ _ _ _ _ _ _ _ _ _ _ _ _ _ _ _ _ _ _ _ _ _ _ _ _ _ _ _ _ _ _ _ _ _ _ _ _ _ _ _ _ _ _ _ _ _ _ _ _ _ _ _ _ _ _ _ _ _ _ _ _ _ _ _ _ _ _ _ _ _ _ _ _ _ _ _ _ _ _ _ _ _ _ _ _ _ _ _ _ _ _ _ _ _ _ _ _ _ _ _ _ _ _ _ _ _ _ _ _ _ _ _ _ _ _ _ _ _ _ (g.mono (fun p hp => se p (sd p (sc p hp)))) kf ?_
  intro D4 W5 t0 t1 t2 t3 t8 t9 t10 t17 t18 t19 t20 t21 t22 t23 t24 t25 t27 t28 t29 t30 t31 t32 t33 t34 t35 t36 t37 t38 t39 t40 t41 t42 t43 t44 t45 t46 t47 t48 t49 t50 t51 t52 t53 t54 t55 t56 t57 t58 t59 t60 t61 t62 t63 t64 t65 t66 t67 t68 t69 t70 t71 t72 t73 t74 t75 t76 t77 t78 t79 t80 t81 t82 t83 t84 t85 t86 t87 t88 t89 t90 t91 t92 t93 t94 t95 t96 t97 t98 t99 t100 t101 t102 t103 t104 t105 t106 t107 t108 t109 t110 t111 t112 t113 t114 t115 t116 t117 t118 t119 t120 t121 t122 t123 t124 t125 t126 t127 t128 t129 t130 t131 t132 t133 t134 t135 t136 t137 t138 t139 t140 t141 t142 t143 t144 t145 t146 t147 t148 t149 t150 t151 t152 t153 t154 t155 t156 t157 t158 t159 t160 t161 t162 t163 t164 t165 t166 t167 t168 t169 t170 t171 t172 t173 t174 t175 t176 t177 t178 t179 t180 t181 t182 t183 t184 t185 t186 t187 t188 t189 t190 t191 t192 t193 t194 t195 t196 t197 t198 t199 t200 t201 t202 t203 t204 t205 t206 t207 t208 t209 t210 t211 t212 t213 t214 t215 t216 t217 t218 t219 t220 t221 t222 t223 t224 t225 t226 t227 t228 t229 t230 t231 t232 t233 t234 t235 t236 t237 t238 t239 t240 t241 t242 t243 t244 t245 t246 t247 t248 t249 t250 t251 t252 t253 t254 t255 t256 t257 t258 t259 t260 t261 t262 t263 t264 t265 t266 t267 t268 t269 t270 t271 t272 t273 t274 hD4 hd4 x5 xk
  have al5 := (Below.refl W4.heap.size W4).alloc (Nat.le_refl _) (.cells #[.int .i64 0] 3)
  have k5 := (kf.low al5).bx x5 (fun p hp c => by
    have := List.mem_singleton.1 c
    have := kf.lt p hp
    omega)
  have hW5 := (hW4.low al5).frame x5 (fun k hk => by have := List.mem_singleton.1 hk; omega) (fun k hk => by rw [List.mem_singleton.1 hk]; exact Ot.of (Boxed.new W4 3 (.int .i64 0)) (OtO.cells (by decide)))
  have hwD : w.heap.size ≤ D1 := by have := lo.size; omega
  exact seg_h Q w s W5 b Bw bk bn B X bb n2 k2 wc N a2 wa ne v3 ss D ((D4, Obj.deferred (some [])) :: CE) B1 (B1 + 1) (B1 + 1 + 1) (B1 + 1 + 1 + 1) W4.heap.size D1 D2 D3 D4 _ _ _ _ _ _ _ _ _ _ _ _ _ _ _ _ _ _ _ _ _ _ _ _ _ _ _ _ _ _ _ _ _ _ _ _ _ _ _ _ _ _ _ _ _ _ _ _ _ _ _ _ _ _ _ _ _ _ _ _ _ _ _ _ _ _ _ _ _ _ _ _ _ _ _ _ _ _ _ _ _ _ _ _ _ _ _ _ _ _ _ _ _ _ _ _ _ _ _ _ _ _ _ _ _ _ _ _ _ _ _ _ _ _ _ _ _ _ _ _ _ _ _ _ _ _ _ _ _ _ _ _ _ _ _ _ _ _ _ _ _ _ _ _ _ _ _ _ _ _ _ _ _ _ _ _ _ _ _ _ _ _ _ _ _ _ _ _ _ _ _ _ _ _ _ _ _ _ _ _ _ _ _ _ _ _ _ _ _ _ _ _ _ _ _ _ _ _ _ _ _ _ _ _ _ _ _ _ _ _ _ _ _ _ _ _ _ _ _ _ _ _ _ _ _ _ _ _ _ _ _ _ _ _ _ _ _ _ _ _ _ _ _ _ _ _ _ _ _ _ _ _ _ _ _ _ _ _ _ _ _ _ _ _ (g.mono (fun p hp => List.mem_cons_of_mem _ (se p (sd p (sc p hp))))) (k5.cons hd4 (OkO.deferred _)) ⟨st3, hW5, hR3⟩ lo hw
    (tc.mono (fun p hp => List.mem_cons_of_mem _ (se p (sd p hp)))) (td.mono (fun p hp => List.mem_cons_of_mem _ (se p hp))) (te.mono (fun p hp => List.mem_cons_of_mem _ hp)) xk
    (List.mem_cons_of_mem _ (se _ (sd _ (sc _ mR)))) (List.mem_cons_of_mem _ (se _ (sd _ dc))) (List.mem_cons_of_mem _ (se _ dd)) (List.mem_cons_of_mem _ de) (List.mem_cons_self ..) ⟨by omega, by omega, by omega, hwD⟩ hQ
end Go.Proofs.YtdhjoimiejdgbaaDoor.L
