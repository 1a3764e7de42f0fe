import Derived.Test.YtppblibcbjpfnaaDoorOx1
import Derived.Deep.RegionHeld3
namespace Go.Proofs.YtppblibcbjpfnaaDoor.L
open Go.RowKit
set_option linter.unusedVariables false
def rtC : Code → Code
  | .seq _ b => b
  | c => c
set_option maxHeartbeats 8000000 in
set_option maxRecDepth 100000 in
theorem own_rest (w W : World) (g q cp b0 : Nat) (M L1 L2 L3 L4 : List Tn) (u1 u2 u3 u4 v1 v2 v3 v4 v5 v6 v7 v8 : Value) (s0 s1 s2 s3 s4 s5 s6 s7 s8 x1 x2 x3 x4 : Nat) {t0 t1 t2 t4 t6 t7 t8 t10 t11 t13 t15 t18 t19 t21 t23 t26 t27 t29 t31 t33 t34 t35 t36 t37 t38 t39 t40 t41 t42 t43 t44 t45 t46 t47 t48 t49 t50 t51 t52 t53 t54 t55 t56 t57 t58 t59 t60 t61 t62 t63 t64 t65 t66 t67 t68 t69 t70 t71 t72 t73 t74 t75 t76 t77 t78 t79 t80 t81 t82 t83 t84 t85 t86 t87 t88 t89 t90 t91 t92 t93 t94 t95 t96 t97 t98 t99 t100 t101 t102 t103 t104 t105 t106 t107 t108 t109 t110 t111 t112 t113 t114 t115 t116 t117 t118 t119 t120 t121 t122 t123 t124 t125 t126 t127 t128 t129 t130 t131 t132 t133 t134 t135 t136 t137 t138 t139 t140 t141 t142 t143 t144 t145 t146 t147 t148 t149 t150 t151 t152 t153 t154 t155 t156 t157 t158 t159 t160 t161 t162 t163 t164 t165 t166 t167 t168 t169 t170 t171 t172 t173 t174 t175 t176 t177 t178 t179 t180 t181 t182 t183 t184 t185 t186 t187 t188 t189 t190 t191 t192 t193 t194 t195 t196 t197 t198 t199 t200 t201 t202 t203 t204 t205 t206 t207 t208 t209 t210 t211 t212 t213 t214 t215 t216 t217 t218 t219 t220 t221 t222 t223 t224 t225 t226 t227 t228 t229 t230 t231 t232 t233 t234 t235 t236 t237 t238 t239 t240 t241 t242 t243 t244 t245 t246 t247 t248 t249 t250 t251 t252 t253 t254 t255 t256 t257 t258 t259 t260 t261 t262 t263 t264 t265 t266 t267 t268 t269 t270 t271 t272 t273 : Value}
    (BW : Below w.heap.size w W) (hb0 : w.heap.size ≤ b0) (hM : OwnT W b0 (.slice (some ⟨g, 0, none⟩) (q + 3) cp) M) (hm : M.length = q + 3) (hz : Mkz M q) (hl3 : q ≤ maxLen) (hl2 : q * (3 * 16) ≤ 140737488351232) (hg : g < s0) (hs : s8 ≤ W.heap.size)
    (R1 : OwnT W s0 v1 L1) (b1 : ∀ k, v1.ownBlock = some k → s0 ≤ k ∧ k < s1) (z1 : s0 ≤ s1) (R2 : OwnT W s1 v2 L2) (b2 : ∀ k, v2.ownBlock = some k → s1 ≤ k ∧ k < s2) (z2 : s1 ≤ s2) (R3 : OwnT W s2 v3 L3) (b3 : ∀ k, v3.ownBlock = some k → s2 ≤ k ∧ k < s3) (z3 : s2 ≤ s3) (R4 : OwnT W s3 v4 L4) (b4 : ∀ k, v4.ownBlock = some k → s3 ≤ k ∧ k < s4) (z4 : s3 ≤ s4) (R5 : OwnT W s4 v5 L1) (b5 : ∀ k, v5.ownBlock = some k → s4 ≤ k ∧ k < s5) (z5 : s4 ≤ s5) (R6 : OwnT W s5 v6 L2) (b6 : ∀ k, v6.ownBlock = some k → s5 ≤ k ∧ k < s6) (z6 : s5 ≤ s6) (R7 : OwnT W s6 v7 L3) (b7 : ∀ k, v7.ownBlock = some k → s6 ≤ k ∧ k < s7) (z7 : s6 ≤ s7) (R8 : OwnT W s7 v8 L4) (b8 : ∀ k, v8.ownBlock = some k → s7 ≤ k ∧ k < s8) (z8 : s7 ≤ s8) 
    (I1 : OwnT W x1 u1 L1) (I2 : OwnT W x2 u2 L2) (I3 : OwnT W x3 u3 L3) (I4 : OwnT W x4 u4 L4) (n1 : L1.length * 48 ≤ 140737488351232) (n2 : L2.length * 48 ≤ 140737488351232) (n3 : L3.length * 48 ≤ 140737488351232) (n4 : L4.length * 48 ≤ 140737488351232)  (hbs : b0 ≤ s0) :
    Code.wp Tryd.prog (rtC (rtC (rtC (rtC (rtC (rtC (rtC (rtC (rtC (rtC (rtC (rtC (rtC (rtC (rtC (rtC (rtC (rtC (rtC (rtC (rtC (rtC (rtC (rtC ((Option.getD Tryd.f6.body Code.skip)))))))))))))))))))))))))) (bodyPost Tryd.prog Tryd.f6 (fun e w' => e = .returned (.bool true) ∧ Below w.heap.size w w')) { tmps := #[t0, t1, t2, .slice (some ⟨g, 0, none⟩) (q + 3) cp, t4, .int .i64 (q : Int), t6, t7, t8, u1, t10, t11, u2, t13, u3, t15, u4, v1, t18, t19, v2, t21, v3, t23, v4, v5, t26, t27, v6, t29, v7, t31, v8, t33, t34, t35, t36, t37, t38, t39, t40, t41, t42, t43, t44, t45, t46, t47, t48, t49, t50, t51, t52, t53, t54, t55, t56, t57, t58, t59, t60, t61, t62, t63, t64, t65, t66, t67, t68, t69, t70, t71, t72, t73, t74, t75, t76, t77, t78, t79, t80, t81, t82, t83, t84, t85, t86, t87, t88, t89, t90, t91, t92, t93, t94, t95, t96, t97, t98, t99, t100, t101, t102, t103, t104, t105, t106, t107, t108, t109, t110, t111, t112, t113, t114, t115, t116, t117, t118, t119, t120, t121, t122, t123, t124, t125, t126, t127, t128, t129, t130, t131, t132, t133, t134, t135, t136, t137, t138, t139, t140, t141, t142, t143, t144, t145, t146, t147, t148, t149, t150, t151, t152, t153, t154, t155, t156, t157, t158, t159, t160, t161, t162, t163, t164, t165, t166, t167, t168, t169, t170, t171, t172, t173, t174, t175, t176, t177, t178, t179, t180, t181, t182, t183, t184, t185, t186, t187, t188, t189, t190, t191, t192, t193, t194, t195, t196, t197, t198, t199, t200, t201, t202, t203, t204, t205, t206, t207, t208, t209, t210, t211, t212, t213, t214, t215, t216, t217, t218, t219, t220, t221, t222, t223, t224, t225, t226, t227, t228, t229, t230, t231, t232, t233, t234, t235, t236, t237, t238, t239, t240, t241, t242, t243, t244, t245, t246, t247, t248, t249, t250, t251, t252, t253, t254, t255, t256, t257, t258, t259, t260, t261, t262, t263, t264, t265, t266, t267, t268, t269, t270, t271, t272, t273], defers := [] } W := by
  obtain ⟨i0, hi0, hz0, hz1, hz2⟩ := info_parts infoT
  have e9 : (M.take q).length = q := by rw [List.length_take, hm]; omega
  have h9 := came_take (l := M.take q) (c := M.drop q) (by rw [List.take_append_drop]; exact hM) (by rw [List.take_append_drop, hm])
  rw [e9] at h9
  have IT := hid h9
  have GZ := hid (mkz_good hz (by rw [hm]; omega) hl3 hl2)
  have DZ := mkz_dels hz (by rw [hm]; omega)
  have DEL := del_any _ (M.take q) sZ sNoS W IT.out.items GZ.out
  rw [DZ, e9, show decide (([] : List Tn).length < q) = decide ((0 : Int) < (q : Int)) by simp] at DEL
  unfold sZ sNoS at DEL
  have HD := hid DEL
  have hqc : q ≤ cp := by
    rcases hM.2 with ⟨e, _⟩ | ⟨g', cp', cur, e, _, _, hc, _⟩
    · cases e
    · injection e with _ _ e3
      omega
  have lg := hM.lt g rfl
  have HM := hid hM
  have HMM := hid hm
  have HZ := hid hz
  have HBW := hid BW
  have HR1 := hid R1; have HQ1 := hid b1
  have HR2 := hid R2; have HQ2 := hid b2
  have HR3 := hid R3; have HQ3 := hid b3
  have HR4 := hid R4; have HQ4 := hid b4
  have HR5 := hid R5; have HQ5 := hid b5
  have HR6 := hid R6; have HQ6 := hid b6
  have HR7 := hid R7; have HQ7 := hid b7
  have HR8 := hid R8; have HQ8 := hid b8
  have HI1 := hid I1; have HN1 := hid n1
  have HI2 := hid I2; have HN2 := hid n2
  have HI3 := hid I3; have HN3 := hid n3
  have HI4 := hid I4; have HN4 := hid n4
  clear h9 e9 DZ DEL hM hm hz BW R1 R2 R3 R4 R5 R6 R7 R8 b1 b2 b3 b4 b5 b6 b7 b8 I1 I2 I3 I4 n1 n2 n3 n4
  simp only [rtC, Option.getD, Tryd.f6]
  go_wp2_with fail
  refine HD.out.mono ?_
  rintro e w1 ⟨v27, rfl, o27, b27⟩
  obtain ⟨a27, c27, rfl⟩ := own_len o27
  have zz := b27.size
  have HM1 := hid (ownG_low HM.out b27); have HBW1 := hid (HBW.out.trans (b27.mono HBW.out.size))
  have HS1 := hid (ownG_low HR1.out b27)
  have HS2 := hid (ownG_low HR2.out b27)
  have HS3 := hid (ownG_low HR3.out b27)
  have HS4 := hid (ownG_low HR4.out b27)
  have HS5 := hid (ownG_low HR5.out b27)
  have HS6 := hid (ownG_low HR6.out b27)
  have HS7 := hid (ownG_low HR7.out b27)
  have HS8 := hid (ownG_low HR8.out b27)
  have HJ1 := hid (ownG_low HI1.out b27)
  have HJ2 := hid (ownG_low HI2.out b27)
  have HJ3 := hid (ownG_low HI3.out b27)
  have HJ4 := hid (ownG_low HI4.out b27)
  clear o27 b27 HM HBW HR1 HR2 HR3 HR4 HR5 HR6 HR7 HR8 HI1 HI2 HI3 HI4
  obtain ⟨a1, m1, c1, rfl⟩ := own_len9 HS1.out
  obtain ⟨a2, m2, c2, rfl⟩ := own_len9 HS2.out
  obtain ⟨a3, m3, c3, rfl⟩ := own_len9 HS3.out
  obtain ⟨a4, m4, c4, rfl⟩ := own_len9 HS4.out
  obtain ⟨a5, m5, c5, rfl⟩ := own_len9 HS5.out
  obtain ⟨a6, m6, c6, rfl⟩ := own_len9 HS6.out
  obtain ⟨a7, m7, c7, rfl⟩ := own_len9 HS7.out
  obtain ⟨a8, m8, c8, rfl⟩ := own_len9 HS8.out
  obtain ⟨d1, k1, f1, rfl⟩ := own_len9 HJ1.out
  obtain ⟨d2, k2, f2, rfl⟩ := own_len9 HJ2.out
  obtain ⟨d3, k3, f3, rfl⟩ := own_len9 HJ3.out
  obtain ⟨d4, k4, f4, rfl⟩ := own_len9 HJ4.out
  have B1 := hid (belowA w1 (.cells #[.slice a1 m1 c1, .slice a2 m2 c2, .slice a3 m3 c3, .slice a4 m4 c4, .slice a5 m5 c5, .slice a6 m6 c6, .slice a7 m7 c7, .slice a8 m8 c8] 26))
  have B2 := hid (belowA (w1.alloc (.cells #[.slice a1 m1 c1, .slice a2 m2 c2, .slice a3 m3 c3, .slice a4 m4 c4, .slice a5 m5 c5, .slice a6 m6 c6, .slice a7 m7 c7, .slice a8 m8 c8] 26)) (.cells #[.slice d1 k1 f1, .slice d2 k2 f2, .slice d3 k3 f3, .slice d4 k4 f4] 26))
  have hg1 := hid (heap_alloc_new w1 (.cells #[.slice a1 m1 c1, .slice a2 m2 c2, .slice a3 m3 c3, .slice a4 m4 c4, .slice a5 m5 c5, .slice a6 m6 c6, .slice a7 m7 c7, .slice a8 m8 c8] 26))
  have hg2 := hid (heap_alloc_new (w1.alloc (.cells #[.slice a1 m1 c1, .slice a2 m2 c2, .slice a3 m3 c3, .slice a4 m4 c4, .slice a5 m5 c5, .slice a6 m6 c6, .slice a7 m7 c7, .slice a8 m8 c8] 26)) (.cells #[.slice d1 k1 f1, .slice d2 k2 f2, .slice d3 k3 f3, .slice d4 k4 f4] 26))
  have zs : w1.heap.size + 1 = (w1.alloc (.cells #[.slice a1 m1 c1, .slice a2 m2 c2, .slice a3 m3 c3, .slice a4 m4 c4, .slice a5 m5 c5, .slice a6 m6 c6, .slice a7 m7 c7, .slice a8 m8 c8] 26)).heap.size := by simp
  have zs2 : w1.heap.size + 2 = ((w1.alloc (.cells #[.slice a1 m1 c1, .slice a2 m2 c2, .slice a3 m3 c3, .slice a4 m4 c4, .slice a5 m5 c5, .slice a6 m6 c6, .slice a7 m7 c7, .slice a8 m8 c8] 26)).alloc (.cells #[.slice d1 k1 f1, .slice d2 k2 f2, .slice d3 k3 f3, .slice d4 k4 f4] 26)).heap.size := by simp
  have DD := hid (B1.out.trans (B2.out.mono B1.out.size))
  have HM2 := hid (ownG_low HM1.out DD.out); have HBW2 := hid (HBW1.out.trans (DD.out.mono HBW1.out.size))
  have HT1 := hid (ownG_low HS1.out DD.out)
  have HT2 := hid (ownG_low HS2.out DD.out)
  have HT3 := hid (ownG_low HS3.out DD.out)
  have HT4 := hid (ownG_low HS4.out DD.out)
  have HT5 := hid (ownG_low HS5.out DD.out)
  have HT6 := hid (ownG_low HS6.out DD.out)
  have HT7 := hid (ownG_low HS7.out DD.out)
  have HT8 := hid (ownG_low HS8.out DD.out)
  have HK1 := hid (ownG_low HJ1.out DD.out)
  have HK2 := hid (ownG_low HJ2.out DD.out)
  have HK3 := hid (ownG_low HJ3.out DD.out)
  have HK4 := hid (ownG_low HJ4.out DD.out)
  have RG := hid (show ((w1.alloc (.cells #[.slice a1 m1 c1, .slice a2 m2 c2, .slice a3 m3 c3, .slice a4 m4 c4, .slice a5 m5 c5, .slice a6 m6 c6, .slice a7 m7 c7, .slice a8 m8 c8] 26)).alloc (.cells #[.slice d1 k1 f1, .slice d2 k2 f2, .slice d3 k3 f3, .slice d4 k4 f4] 26)).heap[w1.heap.size]? = some (.cells #[.slice a1 m1 c1, .slice a2 m2 c2, .slice a3 m3 c3, .slice a4 m4 c4, .slice a5 m5 c5, .slice a6 m6 c6, .slice a7 m7 c7, .slice a8 m8 c8] 26 (0, 0)) from (B2.out.block _ (by omega)).trans hg1.out)
  have RU := hid (show ((w1.alloc (.cells #[.slice a1 m1 c1, .slice a2 m2 c2, .slice a3 m3 c3, .slice a4 m4 c4, .slice a5 m5 c5, .slice a6 m6 c6, .slice a7 m7 c7, .slice a8 m8 c8] 26)).alloc (.cells #[.slice d1 k1 f1, .slice d2 k2 f2, .slice d3 k3 f3, .slice d4 k4 f4] 26)).heap[w1.heap.size + 1]? = some (.cells #[.slice d1 k1 f1, .slice d2 k2 f2, .slice d3 k3 f3, .slice d4 k4 f4] 26 (0, 0)) from by rw [zs]; exact hg2.out)
  clear HM1 HBW1 HS1 HS2 HS3 HS4 HS5 HS6 HS7 HS8 HJ1 HJ2 HJ3 HJ4 B1 B2 hg1 hg2 DD zs
  go_wp2_with fail
  generalize (w1.alloc (.cells #[.slice a1 m1 c1, .slice a2 m2 c2, .slice a3 m3 c3, .slice a4 m4 c4, .slice a5 m5 c5, .slice a6 m6 c6, .slice a7 m7 c7, .slice a8 m8 c8] 26)).alloc (.cells #[.slice d1 k1 f1, .slice d2 k2 f2, .slice d3 k3 f3, .slice d4 k4 f4] 26) = wG at *
  go_loopw [39] (fun i wr => ∃ p : Nat, p ≤ 8 ∧ i = .int .i64 p ∧ Hid (Below wG.heap.size wG wr)) (fun i _ => 8 - (intOf i).toNat)
  case atStart => exact ⟨0, Nat.zero_le _, rfl, hid (Below.refl _ _)⟩
  case round =>
    obtain ⟨p, hp, rfl, HB⟩ := hrel
    by_cases hlt : p < 8
    · have hp8 : p = 0 ∨ p = 1 ∨ p = 2 ∨ p = 3 ∨ p = 4 ∨ p = 5 ∨ p = 6 ∨ p = 7 := by omega
      have cg := fun j => (HB.out.drew.cell (p := ⟨w1.heap.size, j, none⟩) (by show w1.heap.size < _; omega)).trans (cell_of_row wG w1.heap.size j _ _ _ RG.out)
      have cu := fun j => (HB.out.drew.cell (p := ⟨w1.heap.size + 1, j, none⟩) (by show w1.heap.size + 1 < _; omega)).trans (cell_of_row wG (w1.heap.size + 1) j _ _ _ RU.out)
      have CG := hid cg
      have CU := hid cu
      clear cg cu
      rcases hp8 with rfl | rfl | rfl | rfl | rfl | rfl | rfl | rfl
      · have y0 := CG.out 0
        have y1 := CU.out 0
        simp at y0 y1
        have SA := hid (fun W' (h1 : Below wG.heap.size wG W') => same_any (.slice a1 m1 c1) (.slice d1 k1 f1) L1 W' (ownG_came (ownG_low HT1.out h1)).items (ownG_came (ownG_low HK1.out h1)).items (by have := HN1.out; unfold maxLen; omega))
        go_wp2_with fail
        go_region_held3 (fun W => W.cell? ⟨w1.heap.size, 0, none⟩ = some (.slice a1 m1 c1) ∧ W.cell? ⟨w1.heap.size + 1, 0, none⟩ = some (.slice d1 k1 f1))
          (first | exact ⟨y0, y1⟩ | exact T1)
          (first
            | (go_at_call 19; refine (SA.out _ HB.out.drew).mono ?_; rintro e w3 ⟨rfl, b3⟩; have T1 : w3.cell? ⟨w1.heap.size, 0, none⟩ = some (.slice a1 m1 c1) ∧ w3.cell? ⟨w1.heap.size + 1, 0, none⟩ = some (.slice d1 k1 f1) := ⟨(b3.cell (p := ⟨w1.heap.size, 0, none⟩) (by show w1.heap.size < _; have := HB.out.drew.size; omega)).trans y0, (b3.cell (p := ⟨w1.heap.size + 1, 0, none⟩) (by show w1.heap.size + 1 < _; have := HB.out.drew.size; omega)).trans y1⟩; have N1 := hid (HB.out.drew.trans (b3.mono HB.out.drew.size)); clear b3))
        clear T1 y0 y1
        go_wp2_with fail
        exact ⟨⟨1, by omega, by rfl, N1⟩, by simp [intOf]⟩
      · have y0 := CG.out 1
        have y1 := CU.out 1
        simp at y0 y1
        have SA := hid (fun W' (h1 : Below wG.heap.size wG W') => same_any (.slice a2 m2 c2) (.slice d2 k2 f2) L2 W' (ownG_came (ownG_low HT2.out h1)).items (ownG_came (ownG_low HK2.out h1)).items (by have := HN2.out; unfold maxLen; omega))
        go_wp2_with fail
        go_region_held3 (fun W => W.cell? ⟨w1.heap.size, 1, none⟩ = some (.slice a2 m2 c2) ∧ W.cell? ⟨w1.heap.size + 1, 1, none⟩ = some (.slice d2 k2 f2))
          (first | exact ⟨y0, y1⟩ | exact T1)
          (first
            | (go_at_call 19; refine (SA.out _ HB.out.drew).mono ?_; rintro e w3 ⟨rfl, b3⟩; have T1 : w3.cell? ⟨w1.heap.size, 1, none⟩ = some (.slice a2 m2 c2) ∧ w3.cell? ⟨w1.heap.size + 1, 1, none⟩ = some (.slice d2 k2 f2) := ⟨(b3.cell (p := ⟨w1.heap.size, 1, none⟩) (by show w1.heap.size < _; have := HB.out.drew.size; omega)).trans y0, (b3.cell (p := ⟨w1.heap.size + 1, 1, none⟩) (by show w1.heap.size + 1 < _; have := HB.out.drew.size; omega)).trans y1⟩; have N1 := hid (HB.out.drew.trans (b3.mono HB.out.drew.size)); clear b3))
        clear T1 y0 y1
        go_wp2_with fail
        exact ⟨⟨2, by omega, by rfl, N1⟩, by simp [intOf]⟩
      · have y0 := CG.out 2
        have y1 := CU.out 2
        simp at y0 y1
        have SA := hid (fun W' (h1 : Below wG.heap.size wG W') => same_any (.slice a3 m3 c3) (.slice d3 k3 f3) L3 W' (ownG_came (ownG_low HT3.out h1)).items (ownG_came (ownG_low HK3.out h1)).items (by have := HN3.out; unfold maxLen; omega))
        go_wp2_with fail
        go_region_held3 (fun W => W.cell? ⟨w1.heap.size, 2, none⟩ = some (.slice a3 m3 c3) ∧ W.cell? ⟨w1.heap.size + 1, 2, none⟩ = some (.slice d3 k3 f3))
          (first | exact ⟨y0, y1⟩ | exact T1)
          (first
            | (go_at_call 19; refine (SA.out _ HB.out.drew).mono ?_; rintro e w3 ⟨rfl, b3⟩; have T1 : w3.cell? ⟨w1.heap.size, 2, none⟩ = some (.slice a3 m3 c3) ∧ w3.cell? ⟨w1.heap.size + 1, 2, none⟩ = some (.slice d3 k3 f3) := ⟨(b3.cell (p := ⟨w1.heap.size, 2, none⟩) (by show w1.heap.size < _; have := HB.out.drew.size; omega)).trans y0, (b3.cell (p := ⟨w1.heap.size + 1, 2, none⟩) (by show w1.heap.size + 1 < _; have := HB.out.drew.size; omega)).trans y1⟩; have N1 := hid (HB.out.drew.trans (b3.mono HB.out.drew.size)); clear b3))
        clear T1 y0 y1
        go_wp2_with fail
        exact ⟨⟨3, by omega, by rfl, N1⟩, by simp [intOf]⟩
      · have y0 := CG.out 3
        have y1 := CU.out 3
        simp at y0 y1
        have SA := hid (fun W' (h1 : Below wG.heap.size wG W') => same_any (.slice a4 m4 c4) (.slice d4 k4 f4) L4 W' (ownG_came (ownG_low HT4.out h1)).items (ownG_came (ownG_low HK4.out h1)).items (by have := HN4.out; unfold maxLen; omega))
        go_wp2_with fail
        go_region_held3 (fun W => W.cell? ⟨w1.heap.size, 3, none⟩ = some (.slice a4 m4 c4) ∧ W.cell? ⟨w1.heap.size + 1, 3, none⟩ = some (.slice d4 k4 f4))
          (first | exact ⟨y0, y1⟩ | exact T1)
          (first
            | (go_at_call 19; refine (SA.out _ HB.out.drew).mono ?_; rintro e w3 ⟨rfl, b3⟩; have T1 : w3.cell? ⟨w1.heap.size, 3, none⟩ = some (.slice a4 m4 c4) ∧ w3.cell? ⟨w1.heap.size + 1, 3, none⟩ = some (.slice d4 k4 f4) := ⟨(b3.cell (p := ⟨w1.heap.size, 3, none⟩) (by show w1.heap.size < _; have := HB.out.drew.size; omega)).trans y0, (b3.cell (p := ⟨w1.heap.size + 1, 3, none⟩) (by show w1.heap.size + 1 < _; have := HB.out.drew.size; omega)).trans y1⟩; have N1 := hid (HB.out.drew.trans (b3.mono HB.out.drew.size)); clear b3))
        clear T1 y0 y1
        go_wp2_with fail
        exact ⟨⟨4, by omega, by rfl, N1⟩, by simp [intOf]⟩
      · have y0 := CG.out 4
        have y1 := CU.out 0
        simp at y0 y1
        have SA := hid (fun W' (h1 : Below wG.heap.size wG W') => same_any (.slice a5 m5 c5) (.slice d1 k1 f1) L1 W' (ownG_came (ownG_low HT5.out h1)).items (ownG_came (ownG_low HK1.out h1)).items (by have := HN1.out; unfold maxLen; omega))
        go_wp2_with fail
        go_region_held3 (fun W => W.cell? ⟨w1.heap.size, 4, none⟩ = some (.slice a5 m5 c5) ∧ W.cell? ⟨w1.heap.size + 1, 0, none⟩ = some (.slice d1 k1 f1))
          (first | exact ⟨y0, y1⟩ | exact T1)
          (first
            | (go_at_call 19; refine (SA.out _ HB.out.drew).mono ?_; rintro e w3 ⟨rfl, b3⟩; have T1 : w3.cell? ⟨w1.heap.size, 4, none⟩ = some (.slice a5 m5 c5) ∧ w3.cell? ⟨w1.heap.size + 1, 0, none⟩ = some (.slice d1 k1 f1) := ⟨(b3.cell (p := ⟨w1.heap.size, 4, none⟩) (by show w1.heap.size < _; have := HB.out.drew.size; omega)).trans y0, (b3.cell (p := ⟨w1.heap.size + 1, 0, none⟩) (by show w1.heap.size + 1 < _; have := HB.out.drew.size; omega)).trans y1⟩; have N1 := hid (HB.out.drew.trans (b3.mono HB.out.drew.size)); clear b3))
        clear T1 y0 y1
        go_wp2_with fail
        exact ⟨⟨5, by omega, by rfl, N1⟩, by simp [intOf]⟩
      · have y0 := CG.out 5
        have y1 := CU.out 1
        simp at y0 y1
        have SA := hid (fun W' (h1 : Below wG.heap.size wG W') => same_any (.slice a6 m6 c6) (.slice d2 k2 f2) L2 W' (ownG_came (ownG_low HT6.out h1)).items (ownG_came (ownG_low HK2.out h1)).items (by have := HN2.out; unfold maxLen; omega))
        go_wp2_with fail
        go_region_held3 (fun W => W.cell? ⟨w1.heap.size, 5, none⟩ = some (.slice a6 m6 c6) ∧ W.cell? ⟨w1.heap.size + 1, 1, none⟩ = some (.slice d2 k2 f2))
          (first | exact ⟨y0, y1⟩ | exact T1)
          (first
            | (go_at_call 19; refine (SA.out _ HB.out.drew).mono ?_; rintro e w3 ⟨rfl, b3⟩; have T1 : w3.cell? ⟨w1.heap.size, 5, none⟩ = some (.slice a6 m6 c6) ∧ w3.cell? ⟨w1.heap.size + 1, 1, none⟩ = some (.slice d2 k2 f2) := ⟨(b3.cell (p := ⟨w1.heap.size, 5, none⟩) (by show w1.heap.size < _; have := HB.out.drew.size; omega)).trans y0, (b3.cell (p := ⟨w1.heap.size + 1, 1, none⟩) (by show w1.heap.size + 1 < _; have := HB.out.drew.size; omega)).trans y1⟩; have N1 := hid (HB.out.drew.trans (b3.mono HB.out.drew.size)); clear b3))
        clear T1 y0 y1
        go_wp2_with fail
        exact ⟨⟨6, by omega, by rfl, N1⟩, by simp [intOf]⟩
      · have y0 := CG.out 6
        have y1 := CU.out 2
        simp at y0 y1
        have SA := hid (fun W' (h1 : Below wG.heap.size wG W') => same_any (.slice a7 m7 c7) (.slice d3 k3 f3) L3 W' (ownG_came (ownG_low HT7.out h1)).items (ownG_came (ownG_low HK3.out h1)).items (by have := HN3.out; unfold maxLen; omega))
        go_wp2_with fail
        go_region_held3 (fun W => W.cell? ⟨w1.heap.size, 6, none⟩ = some (.slice a7 m7 c7) ∧ W.cell? ⟨w1.heap.size + 1, 2, none⟩ = some (.slice d3 k3 f3))
          (first | exact ⟨y0, y1⟩ | exact T1)
          (first
            | (go_at_call 19; refine (SA.out _ HB.out.drew).mono ?_; rintro e w3 ⟨rfl, b3⟩; have T1 : w3.cell? ⟨w1.heap.size, 6, none⟩ = some (.slice a7 m7 c7) ∧ w3.cell? ⟨w1.heap.size + 1, 2, none⟩ = some (.slice d3 k3 f3) := ⟨(b3.cell (p := ⟨w1.heap.size, 6, none⟩) (by show w1.heap.size < _; have := HB.out.drew.size; omega)).trans y0, (b3.cell (p := ⟨w1.heap.size + 1, 2, none⟩) (by show w1.heap.size + 1 < _; have := HB.out.drew.size; omega)).trans y1⟩; have N1 := hid (HB.out.drew.trans (b3.mono HB.out.drew.size)); clear b3))
        clear T1 y0 y1
        go_wp2_with fail
        exact ⟨⟨7, by omega, by rfl, N1⟩, by simp [intOf]⟩
      · have y0 := CG.out 7
        have y1 := CU.out 3
        simp at y0 y1
        have SA := hid (fun W' (h1 : Below wG.heap.size wG W') => same_any (.slice a8 m8 c8) (.slice d4 k4 f4) L4 W' (ownG_came (ownG_low HT8.out h1)).items (ownG_came (ownG_low HK4.out h1)).items (by have := HN4.out; unfold maxLen; omega))
        go_wp2_with fail
        go_region_held3 (fun W => W.cell? ⟨w1.heap.size, 7, none⟩ = some (.slice a8 m8 c8) ∧ W.cell? ⟨w1.heap.size + 1, 3, none⟩ = some (.slice d4 k4 f4))
          (first | exact ⟨y0, y1⟩ | exact T1)
          (first
            | (go_at_call 19; refine (SA.out _ HB.out.drew).mono ?_; rintro e w3 ⟨rfl, b3⟩; have T1 : w3.cell? ⟨w1.heap.size, 7, none⟩ = some (.slice a8 m8 c8) ∧ w3.cell? ⟨w1.heap.size + 1, 3, none⟩ = some (.slice d4 k4 f4) := ⟨(b3.cell (p := ⟨w1.heap.size, 7, none⟩) (by show w1.heap.size < _; have := HB.out.drew.size; omega)).trans y0, (b3.cell (p := ⟨w1.heap.size + 1, 3, none⟩) (by show w1.heap.size + 1 < _; have := HB.out.drew.size; omega)).trans y1⟩; have N1 := hid (HB.out.drew.trans (b3.mono HB.out.drew.size)); clear b3))
        clear T1 y0 y1
        go_wp2_with fail
        exact ⟨⟨8, by omega, by rfl, N1⟩, by simp [intOf]⟩
    · obtain rfl : p = 8 := by omega
      have g9 : ¬ ((8 : Nat) : Int) < 8 := by omega
      have E1 := hid (ownG_low HT1.out HB.out)
      have E2 := hid (ownG_low HT2.out HB.out)
      have E3 := hid (ownG_low HT3.out HB.out)
      have E4 := hid (ownG_low HT4.out HB.out)
      have E5 := hid (ownG_low HT5.out HB.out)
      have E6 := hid (ownG_low HT6.out HB.out)
      have E7 := hid (ownG_low HT7.out HB.out)
      have E8 := hid (ownG_low HT8.out HB.out)
      have EM := hid (ownG_low HM2.out HB.out)
      have EB := hid (HBW2.out.trans (HB.out.mono HBW2.out.size))
      have zr := HB.out.size
      obtain ⟨i1, hi1, hy0, hy1, hy2⟩ := info_parts infoS
      have OG := hid (show wr.ownsRow w1.heap.size 26 1 (.slice (some ⟨w1.heap.size, 0, none⟩) 8 8) 8 [.slice a1 m1 c1, .slice a2 m2 c2, .slice a3 m3 c3, .slice a4 m4 c4, .slice a5 m5 c5, .slice a6 m6 c6, .slice a7 m7 c7, .slice a8 m8 c8] from ⟨rfl, Or.inr ⟨w1.heap.size, 8, _, rfl, Nat.le_refl _, (HB.out.block _ (by omega)).trans RG.out, Nat.le_refl _, by unfold maxLen; decide, rfl, rfl⟩⟩)
      have A1 := hid (belowA wr (.cells #[.slice (some ⟨g, 0, none⟩) q cp] 26))
      clear HB RG RU
      go_wp2_with (first
        | (at_builtin; refine wpList_append_own _ rfl _ _ 65 rfl w1.heap.size 26 i1 (.slice none 0 0) 1 24 Tryd.underlying65 hi1 hy0 hy1 hy2 rfl (by decide) _ _ _ rfl (World.ownsRow.alloc OG.out _) ⟨wr.heap.size, 0, none⟩ 1 1 [.slice (some ⟨g, 0, none⟩) q cp] rfl rfl (block_at _ _ _) (fun x hx => by simp at hx; subst hx; rfl) (by unfold maxLen; decide) (by decide) (by simp; omega) ?_; intro v9 w9 o9 g9' hne9)
        | fail)
      rcases o9.2 with ⟨e, h0⟩ | ⟨B, cap, cur, e, hB0, hB1, hB2, hB3, hB4, hB5⟩
      · cases h0
      subst e
      have KB := hid (fun k (hk : k < w1.heap.size) => (g9'.block k (by simp; omega) (fun e => by have := Option.some.inj e; simp at this; omega)).trans (A1.out.block k (by omega)))
      have hsz9 := g9'.size
      have hB8 := (o9.lt B rfl).2
      have KO := hid (fun (b : Nat) (v : Value) (l : List Tn) (h : OwnT wr b v l) (hv : ∀ k, v.ownBlock = some k → k < w1.heap.size) => show OwnT w9 b v l from by
        refine ⟨h.1, ?_⟩
        rcases h.2 with e | ⟨g', cap', cur', e, hb', hh, r⟩
        · exact Or.inl e
        · exact Or.inr ⟨g', cap', cur', e, hb', (KB.out g' (hv g' (by rw [e]; rfl))).trans hh, r⟩)
      have E9 := hid (show OwnT w9 b0 (.slice (some ⟨g, 0, none⟩) q cp) (M.take q) from by
        have h := KO.out _ _ _ EM.out (fun k e => by have := Option.some.inj e; simp at this; omega)
        rcases h.2 with ⟨e, _⟩ | ⟨g', cap', cur', e, hb', hh, hc, hm9, hs9, ht9⟩
        · cases e
        injection e with e1 eL e3
        injection e1 with e1
        injection e1 with e1 _ _
        subst e1 e3
        have e8 : (M.take q).length = q := by rw [List.length_take, HMM.out]; omega
        refine ⟨by rw [e8]; exact cellsG_len _ _ _ ▸ by rw [e8], Or.inr ⟨g, cp, cur', by rw [e8], hb', hh, by rw [e8]; exact hqc, hm9, hs9, ?_⟩⟩
        rw [e8]
        have e7 := congrArg (List.take (q * 3)) ht9
        rw [List.take_take, Nat.min_eq_left (by have := HMM.out; omega)] at e7
        rw [e7]
        have e6 : cellsG 3 tf M = cellsG 3 tf (M.take q) ++ cellsG 3 tf (M.drop q) := by rw [← cellsG_app, List.take_append_drop]
        rw [e6, List.take_append_of_le_length (by rw [cellsG_len, e8]; exact Nat.le_refl _), List.take_of_length_le (by rw [cellsG_len, e8]; exact Nat.le_refl _)])
      have F1 := hid (KO.out _ _ _ E1.out (fun k e => by have := HQ1.out k e; omega))
      have F2 := hid (KO.out _ _ _ E2.out (fun k e => by have := HQ2.out k e; omega))
      have F3 := hid (KO.out _ _ _ E3.out (fun k e => by have := HQ3.out k e; omega))
      have F4 := hid (KO.out _ _ _ E4.out (fun k e => by have := HQ4.out k e; omega))
      have F5 := hid (KO.out _ _ _ E5.out (fun k e => by have := HQ5.out k e; omega))
      have F6 := hid (KO.out _ _ _ E6.out (fun k e => by have := HQ6.out k e; omega))
      have F7 := hid (KO.out _ _ _ E7.out (fun k e => by have := HQ7.out k e; omega))
      have F8 := hid (KO.out _ _ _ E8.out (fun k e => by have := HQ8.out k e; omega))
      have EB9 := hid (show Below w.heap.size w w9 from (EB.out.trans (A1.out.mono EB.out.size)).grown g9' (by have := EB.out.size; simp; omega) (fun k e => by have := Option.some.inj e; simp at this; have := HBW2.out.size; omega))
      have AP := hid (apart_any B 0 cap w.heap.size (fun j => if j = 0 then .slice a1 m1 c1 else if j = 1 then .slice a2 m2 c2 else if j = 2 then .slice a3 m3 c3 else if j = 3 then .slice a4 m4 c4 else if j = 4 then .slice a5 m5 c5 else if j = 5 then .slice a6 m6 c6 else if j = 6 then .slice a7 m7 c7 else if j = 7 then .slice a8 m8 c8 else .slice (some ⟨g, 0, none⟩) q cp) (fun j => if j = 8 then M.take q else if j % 4 = 0 then L1 else if j % 4 = 1 then L2 else if j % 4 = 2 then L3 else L4) w9
        ⟨fun j hj => by
            have hj9 : j = 0 ∨ j = 1 ∨ j = 2 ∨ j = 3 ∨ j = 4 ∨ j = 5 ∨ j = 6 ∨ j = 7 ∨ j = 8 := by omega
            rcases hj9 with rfl | rfl | rfl | rfl | rfl | rfl | rfl | rfl | rfl
            · exact row_base F1.out (by omega)
            · exact row_base F2.out (by omega)
            · exact row_base F3.out (by omega)
            · exact row_base F4.out (by omega)
            · exact row_base F5.out (by omega)
            · exact row_base F6.out (by omega)
            · exact row_base F7.out (by omega)
            · exact row_base F8.out (by omega)
            · exact row_base E9.out (by omega),
          fun i j hi hj hij => by
            have hi9 : i = 0 ∨ i = 1 ∨ i = 2 ∨ i = 3 ∨ i = 4 ∨ i = 5 ∨ i = 6 ∨ i = 7 ∨ i = 8 := by omega
            have hj9 : j = 0 ∨ j = 1 ∨ j = 2 ∨ j = 3 ∨ j = 4 ∨ j = 5 ∨ j = 6 ∨ j = 7 ∨ j = 8 := by omega
            rcases hi9 with rfl | rfl | rfl | rfl | rfl | rfl | rfl | rfl | rfl
            · rcases hj9 with rfl | rfl | rfl | rfl | rfl | rfl | rfl | rfl | rfl
              · exact absurd rfl hij
              · exact bd_apart HQ1.out HQ2.out (Or.inl (by omega))
              · exact bd_apart HQ1.out HQ3.out (Or.inl (by omega))
              · exact bd_apart HQ1.out HQ4.out (Or.inl (by omega))
              · exact bd_apart HQ1.out HQ5.out (Or.inl (by omega))
              · exact bd_apart HQ1.out HQ6.out (Or.inl (by omega))
              · exact bd_apart HQ1.out HQ7.out (Or.inl (by omega))
              · exact bd_apart HQ1.out HQ8.out (Or.inl (by omega))
              · exact Or.inr (fun e => by have := HQ1.out g e; omega)
            · rcases hj9 with rfl | rfl | rfl | rfl | rfl | rfl | rfl | rfl | rfl
              · exact bd_apart HQ2.out HQ1.out (Or.inr (by omega))
              · exact absurd rfl hij
              · exact bd_apart HQ2.out HQ3.out (Or.inl (by omega))
              · exact bd_apart HQ2.out HQ4.out (Or.inl (by omega))
              · exact bd_apart HQ2.out HQ5.out (Or.inl (by omega))
              · exact bd_apart HQ2.out HQ6.out (Or.inl (by omega))
              · exact bd_apart HQ2.out HQ7.out (Or.inl (by omega))
              · exact bd_apart HQ2.out HQ8.out (Or.inl (by omega))
              · exact Or.inr (fun e => by have := HQ2.out g e; omega)
            · rcases hj9 with rfl | rfl | rfl | rfl | rfl | rfl | rfl | rfl | rfl
              · exact bd_apart HQ3.out HQ1.out (Or.inr (by omega))
              · exact bd_apart HQ3.out HQ2.out (Or.inr (by omega))
              · exact absurd rfl hij
              · exact bd_apart HQ3.out HQ4.out (Or.inl (by omega))
              · exact bd_apart HQ3.out HQ5.out (Or.inl (by omega))
              · exact bd_apart HQ3.out HQ6.out (Or.inl (by omega))
              · exact bd_apart HQ3.out HQ7.out (Or.inl (by omega))
              · exact bd_apart HQ3.out HQ8.out (Or.inl (by omega))
              · exact Or.inr (fun e => by have := HQ3.out g e; omega)
            · rcases hj9 with rfl | rfl | rfl | rfl | rfl | rfl | rfl | rfl | rfl
              · exact bd_apart HQ4.out HQ1.out (Or.inr (by omega))
              · exact bd_apart HQ4.out HQ2.out (Or.inr (by omega))
              · exact bd_apart HQ4.out HQ3.out (Or.inr (by omega))
              · exact absurd rfl hij
              · exact bd_apart HQ4.out HQ5.out (Or.inl (by omega))
              · exact bd_apart HQ4.out HQ6.out (Or.inl (by omega))
              · exact bd_apart HQ4.out HQ7.out (Or.inl (by omega))
              · exact bd_apart HQ4.out HQ8.out (Or.inl (by omega))
              · exact Or.inr (fun e => by have := HQ4.out g e; omega)
            · rcases hj9 with rfl | rfl | rfl | rfl | rfl | rfl | rfl | rfl | rfl
              · exact bd_apart HQ5.out HQ1.out (Or.inr (by omega))
              · exact bd_apart HQ5.out HQ2.out (Or.inr (by omega))
              · exact bd_apart HQ5.out HQ3.out (Or.inr (by omega))
              · exact bd_apart HQ5.out HQ4.out (Or.inr (by omega))
              · exact absurd rfl hij
              · exact bd_apart HQ5.out HQ6.out (Or.inl (by omega))
              · exact bd_apart HQ5.out HQ7.out (Or.inl (by omega))
              · exact bd_apart HQ5.out HQ8.out (Or.inl (by omega))
              · exact Or.inr (fun e => by have := HQ5.out g e; omega)
            · rcases hj9 with rfl | rfl | rfl | rfl | rfl | rfl | rfl | rfl | rfl
              · exact bd_apart HQ6.out HQ1.out (Or.inr (by omega))
              · exact bd_apart HQ6.out HQ2.out (Or.inr (by omega))
              · exact bd_apart HQ6.out HQ3.out (Or.inr (by omega))
              · exact bd_apart HQ6.out HQ4.out (Or.inr (by omega))
              · exact bd_apart HQ6.out HQ5.out (Or.inr (by omega))
              · exact absurd rfl hij
              · exact bd_apart HQ6.out HQ7.out (Or.inl (by omega))
              · exact bd_apart HQ6.out HQ8.out (Or.inl (by omega))
              · exact Or.inr (fun e => by have := HQ6.out g e; omega)
            · rcases hj9 with rfl | rfl | rfl | rfl | rfl | rfl | rfl | rfl | rfl
              · exact bd_apart HQ7.out HQ1.out (Or.inr (by omega))
              · exact bd_apart HQ7.out HQ2.out (Or.inr (by omega))
              · exact bd_apart HQ7.out HQ3.out (Or.inr (by omega))
              · exact bd_apart HQ7.out HQ4.out (Or.inr (by omega))
              · exact bd_apart HQ7.out HQ5.out (Or.inr (by omega))
              · exact bd_apart HQ7.out HQ6.out (Or.inr (by omega))
              · exact absurd rfl hij
              · exact bd_apart HQ7.out HQ8.out (Or.inl (by omega))
              · exact Or.inr (fun e => by have := HQ7.out g e; omega)
            · rcases hj9 with rfl | rfl | rfl | rfl | rfl | rfl | rfl | rfl | rfl
              · exact bd_apart HQ8.out HQ1.out (Or.inr (by omega))
              · exact bd_apart HQ8.out HQ2.out (Or.inr (by omega))
              · exact bd_apart HQ8.out HQ3.out (Or.inr (by omega))
              · exact bd_apart HQ8.out HQ4.out (Or.inr (by omega))
              · exact bd_apart HQ8.out HQ5.out (Or.inr (by omega))
              · exact bd_apart HQ8.out HQ6.out (Or.inr (by omega))
              · exact bd_apart HQ8.out HQ7.out (Or.inr (by omega))
              · exact absurd rfl hij
              · exact Or.inr (fun e => by have := HQ8.out g e; omega)
            · rcases hj9 with rfl | rfl | rfl | rfl | rfl | rfl | rfl | rfl | rfl
              · exact Or.inr (fun e => by have := HQ1.out g e.symm; omega)
              · exact Or.inr (fun e => by have := HQ2.out g e.symm; omega)
              · exact Or.inr (fun e => by have := HQ3.out g e.symm; omega)
              · exact Or.inr (fun e => by have := HQ4.out g e.symm; omega)
              · exact Or.inr (fun e => by have := HQ5.out g e.symm; omega)
              · exact Or.inr (fun e => by have := HQ6.out g e.symm; omega)
              · exact Or.inr (fun e => by have := HQ7.out g e.symm; omega)
              · exact Or.inr (fun e => by have := HQ8.out g e.symm; omega)
              · exact absurd rfl hij,
          fun j hj => by
            have hj9 : j = 0 ∨ j = 1 ∨ j = 2 ∨ j = 3 ∨ j = 4 ∨ j = 5 ∨ j = 6 ∨ j = 7 ∨ j = 8 := by omega
            rcases hj9 with rfl | rfl | rfl | rfl | rfl | rfl | rfl | rfl | rfl
            · exact HN1.out
            · exact HN2.out
            · exact HN3.out
            · exact HN4.out
            · exact HN1.out
            · exact HN2.out
            · exact HN3.out
            · exact HN4.out
            · exact by show (M.take q).length * 48 ≤ _; rw [List.length_take]; omega⟩
        (fun j hj => by
          have hj9 : j = 0 ∨ j = 1 ∨ j = 2 ∨ j = 3 ∨ j = 4 ∨ j = 5 ∨ j = 6 ∨ j = 7 ∨ j = 8 := by omega
          have hc := fun k x => o9.cells (g := B) rfl k x
          rcases hj9 with rfl | rfl | rfl | rfl | rfl | rfl | rfl | rfl | rfl
          · have hx := hc 0 (.slice a1 m1 c1) rfl; rw [Go.WideShapes.add_plain] at hx; exact hx
          · have hx := hc 1 (.slice a2 m2 c2) rfl; rw [Go.WideShapes.add_plain] at hx; exact hx
          · have hx := hc 2 (.slice a3 m3 c3) rfl; rw [Go.WideShapes.add_plain] at hx; exact hx
          · have hx := hc 3 (.slice a4 m4 c4) rfl; rw [Go.WideShapes.add_plain] at hx; exact hx
          · have hx := hc 4 (.slice a5 m5 c5) rfl; rw [Go.WideShapes.add_plain] at hx; exact hx
          · have hx := hc 5 (.slice a6 m6 c6) rfl; rw [Go.WideShapes.add_plain] at hx; exact hx
          · have hx := hc 6 (.slice a7 m7 c7) rfl; rw [Go.WideShapes.add_plain] at hx; exact hx
          · have hx := hc 7 (.slice a8 m8 c8) rfl; rw [Go.WideShapes.add_plain] at hx; exact hx
          · have hx := hc 8 (.slice (some ⟨g, 0, none⟩) q cp) rfl; rw [Go.WideShapes.add_plain] at hx; exact hx)
        hB8
        (fun j hj => by
          have hj9 : j = 0 ∨ j = 1 ∨ j = 2 ∨ j = 3 ∨ j = 4 ∨ j = 5 ∨ j = 6 ∨ j = 7 ∨ j = 8 := by omega
          rcases hj9 with rfl | rfl | rfl | rfl | rfl | rfl | rfl | rfl | rfl
          · exact fun e => by have := HQ1.out _ e; omega
          · exact fun e => by have := HQ2.out _ e; omega
          · exact fun e => by have := HQ3.out _ e; omega
          · exact fun e => by have := HQ4.out _ e; omega
          · exact fun e => by have := HQ5.out _ e; omega
          · exact fun e => by have := HQ6.out _ e; omega
          · exact fun e => by have := HQ7.out _ e; omega
          · exact fun e => by have := HQ8.out _ e; omega
          · exact fun e => by have := Option.some.inj e; simp at this; omega)
        EB9.out.size)
      clear o9 g9' KB KO hB1 hB5
      go_wp2_with fail
      refine AP.out.mono ?_
      rintro e wZ ⟨rfl, bZ⟩
      have EZ := hid (EB9.out.trans bZ)
      clear bZ
      go_wp2_with fail
      go_ret
      exact ⟨rfl, EZ.out⟩
end Go.Proofs.YtppblibcbjpfnaaDoor.L
