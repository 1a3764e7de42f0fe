import Derived.Test.YtdhjoimiejdgbaaDoorWi2
namespace Go.Proofs.YtdhjoimiejdgbaaDoor.L
open Go.RowKit Bs Go.Maps Go.Shelf
set_option linter.unusedVariables false
attribute [local go_sem] Oper.semAt_some cell_alloc2 frozen_alloc2 run_store_fn
set_option maxHeartbeats 8000000 in
set_option maxRecDepth 100000 in
theorem seg_e (R : Exit → Act → World → Prop) (ds : List Deferred) (W : World) (b Bw bk bn B X bb n2 k2 wc N : Nat) (a2 wa : Option Addr) (ne : Int) (v3 : Value) (ss : List ByteArray) (D : List Dr) (C : List (Nat × Obj)) (B1 B2 B3 Ba : Nat) (u0 u1 u2 u3 u8 u9 u10 u17 u18 u19 u20 u21 u22 u23 u24 u25 u26 u27 u28 u29 u30 u31 u32 u33 u34 u35 u36 u37 u38 u39 u40 u41 u42 u43 u44 u45 u46 u47 u48 u49 u50 u51 u52 u53 u54 u55 u56 u57 u58 u59 u60 u61 u62 u63 u64 u65 u66 u67 u68 u69 u70 u71 u72 u73 u74 u75 u76 u77 u78 u79 u80 u81 u82 u83 u84 u85 u86 u87 u88 u89 u90 u91 u92 u93 u94 u95 u96 u97 u98 u99 u100 u101 u102 u103 u104 u105 u106 u107 u108 u109 u110 u111 u112 u113 u114 u115 u116 u117 u118 u119 u120 u121 u122 u123 u124 u125 u126 u127 u128 u129 u130 u131 u132 u133 u134 u135 u136 u137 u138 u139 u140 u141 u142 u143 u144 u145 u146 u147 u148 u149 u150 u151 u152 u153 u154 u155 u156 u157 u158 u159 u160 u161 u162 u163 u164 u165 u166 u167 u168 u169 u170 u171 u172 u173 u174 u175 u176 u177 u178 u179 u180 u181 u182 u183 u184 u185 u186 u187 u188 u189 u190 u191 u192 u193 u194 u195 u196 u197 u198 u199 u200 u201 u202 u203 u204 u205 u206 u207 u208 u209 u210 u211 u212 u213 u214 u215 u216 u217 u218 u219 u220 u221 u222 u223 u224 u225 u226 u227 u228 u229 u230 u231 u232 u233 u234 u235 u236 u237 u238 u239 u240 u241 u242 u243 u244 u245 u246 u247 u248 u249 u250 u251 u252 u253 u254 u255 u256 u257 u258 u259 u260 u261 u262 u263 u264 u265 u266 u267 u268 u269 u270 u271 u272 u273 u274 : Value)
    (g : Gm b Bw bk bn B X bb (.slice a2 n2 k2) ne v3 wa wc ss D N C) (ks : Ks W C) (hC : ∀ p ∈ C, p.1 ≠ B3) (x1 : Boxed W B3 90 (.slice none 0 0))
    (nx : ∀ (Dd : Nat) (W' : World) (v0 v1 v2 v3 v8 v9 v10 v17 v18 v19 v20 v21 v22 v23 v24 v25 v26 v27 v28 v29 v30 v31 v32 v33 v34 v35 v36 v37 v38 v39 v40 v41 v42 v43 v44 v45 v46 v47 v48 v49 v50 v51 v52 v53 v54 v55 v56 v57 v58 v59 v60 v61 v62 v63 v64 v65 v66 v67 v68 v69 v70 v71 v72 v73 v74 v75 v76 v77 v78 v79 v80 v81 v82 v83 v84 v85 v86 v87 v88 v89 v90 v91 v92 v93 v94 v95 v96 v97 v98 v99 v100 v101 v102 v103 v104 v105 v106 v107 v108 v109 v110 v111 v112 v113 v114 v115 v116 v117 v118 v119 v120 v121 v122 v123 v124 v125 v126 v127 v128 v129 v130 v131 v132 v133 v134 v135 v136 v137 v138 v139 v140 v141 v142 v143 v144 v145 v146 v147 v148 v149 v150 v151 v152 v153 v154 v155 v156 v157 v158 v159 v160 v161 v162 v163 v164 v165 v166 v167 v168 v169 v170 v171 v172 v173 v174 v175 v176 v177 v178 v179 v180 v181 v182 v183 v184 v185 v186 v187 v188 v189 v190 v191 v192 v193 v194 v195 v196 v197 v198 v199 v200 v201 v202 v203 v204 v205 v206 v207 v208 v209 v210 v211 v212 v213 v214 v215 v216 v217 v218 v219 v220 v221 v222 v223 v224 v225 v226 v227 v228 v229 v230 v231 v232 v233 v234 v235 v236 v237 v238 v239 v240 v241 v242 v243 v244 v245 v246 v247 v248 v249 v250 v251 v252 v253 v254 v255 v256 v257 v258 v259 v260 v261 v262 v263 v264 v265 v266 v267 v268 v269 v270 v271 v272 v273 v274 : Value), W.heap.size ≤ Dd → W'.heap[Dd]? = some (.deferred (some [])) → Bx [B3] W.heap.size W W' → Ls W.heap.size B3 (tk ss) W' → ((rtC (rtC (rtC (rtC (rtC (rtC (rtC (rtC (rtC (rtC (rtC (rtC (rtC (Option.getD Tryd.f7.body Code.skip))))))))))))))).wpIn Fence.wide 3 Tryd.prog R { tmps := #[v0, v1, v2, v3, .pointer (some ⟨b, 0, none⟩), .pointer (some ⟨b + 1, 0, none⟩), .pointer (some ⟨b + 1 + 1, 0, none⟩), .pointer (some ⟨Bw, 0, none⟩), v8, v9, v10, .pointer (some ⟨bk, 0, none⟩), .pointer (some ⟨bn, 0, none⟩), .pointer (some ⟨B1, 0, none⟩), .pointer (some ⟨B2, 0, none⟩), .pointer (some ⟨B3, 0, none⟩), .pointer (some ⟨Ba, 0, none⟩), v17, v18, v19, v20, v21, v22, v23, v24, v25, v26, v27, v28, v29, v30, v31, v32, v33, v34, v35, v36, v37, v38, v39, v40, v41, v42, v43, v44, v45, v46, v47, v48, v49, v50, v51, v52, v53, v54, v55, v56, v57, v58, v59, v60, v61, v62, v63, v64, v65, v66, v67, v68, v69, v70, v71, v72, v73, v74, v75, v76, v77, v78, v79, v80, v81, v82, v83, v84, v85, v86, v87, v88, v89, v90, v91, v92, v93, v94, v95, v96, v97, v98, v99, v100, v101, v102, v103, v104, v105, v106, v107, v108, v109, v110, v111, v112, v113, v114, v115, v116, v117, v118, v119, v120, v121, v122, v123, v124, v125, v126, v127, v128, v129, v130, v131, v132, v133, v134, v135, v136, v137, v138, v139, v140, v141, v142, v143, v144, v145, v146, v147, v148, v149, v150, v151, v152, v153, v154, v155, v156, v157, v158, v159, v160, v161, v162, v163, v164, v165, v166, v167, v168, v169, v170, v171, v172, v173, v174, v175, v176, v177, v178, v179, v180, v181, v182, v183, v184, v185, v186, v187, v188, v189, v190, v191, v192, v193, v194, v195, v196, v197, v198, v199, v200, v201, v202, v203, v204, v205, v206, v207, v208, v209, v210, v211, v212, v213, v214, v215, v216, v217, v218, v219, v220, v221, v222, v223, v224, v225, v226, v227, v228, v229, v230, v231, v232, v233, v234, v235, v236, v237, v238, v239, v240, v241, v242, v243, v244, v245, v246, v247, v248, v249, v250, v251, v252, v253, v254, v255, v256, v257, v258, v259, v260, v261, v262, v263, v264, v265, v266, v267, v268, v269, v270, v271, v272, v273, v274], defers := { target := .collected Dd, args := #[] } :: ds } W') :
    ((rtC (rtC (rtC (rtC (rtC (rtC (rtC (rtC (rtC (rtC (rtC (rtC (Option.getD Tryd.f7.body Code.skip)))))))))))))).wpIn Fence.wide 3 Tryd.prog R { tmps := #[u0, u1, u2, u3, .pointer (some ⟨b, 0, none⟩), .pointer (some ⟨b + 1, 0, none⟩), .pointer (some ⟨b + 1 + 1, 0, none⟩), .pointer (some ⟨Bw, 0, none⟩), u8, u9, u10, .pointer (some ⟨bk, 0, none⟩), .pointer (some ⟨bn, 0, none⟩), .pointer (some ⟨B1, 0, none⟩), .pointer (some ⟨B2, 0, none⟩), .pointer (some ⟨B3, 0, none⟩), .pointer (some ⟨Ba, 0, none⟩), u17, u18, u19, u20, u21, u22, u23, u24, u25, u26, u27, u28, u29, u30, u31, u32, u33, u34, u35, u36, u37, u38, u39, u40, u41, u42, u43, u44, u45, u46, u47, u48, u49, u50, u51, u52, u53, u54, u55, u56, u57, u58, u59, u60, u61, u62, u63, u64, u65, u66, u67, u68, u69, u70, u71, u72, u73, u74, u75, u76, u77, u78, u79, u80, u81, u82, u83, u84, u85, u86, u87, u88, u89, u90, u91, u92, u93, u94, u95, u96, u97, u98, u99, u100, u101, u102, u103, u104, u105, u106, u107, u108, u109, u110, u111, u112, u113, u114, u115, u116, u117, u118, u119, u120, u121, u122, u123, u124, u125, u126, u127, u128, u129, u130, u131, u132, u133, u134, u135, u136, u137, u138, u139, u140, u141, u142, u143, u144, u145, u146, u147, u148, u149, u150, u151, u152, u153, u154, u155, u156, u157, u158, u159, u160, u161, u162, u163, u164, u165, u166, u167, u168, u169, u170, u171, u172, u173, u174, u175, u176, u177, u178, u179, u180, u181, u182, u183, u184, u185, u186, u187, u188, u189, u190, u191, u192, u193, u194, u195, u196, u197, u198, u199, u200, u201, u202, u203, u204, u205, u206, u207, u208, u209, u210, u211, u212, u213, u214, u215, u216, u217, u218, u219, u220, u221, u222, u223, u224, u225, u226, u227, u228, u229, u230, u231, u232, u233, u234, u235, u236, u237, u238, u239, u240, u241, u242, u243, u244, u245, u246, u247, u248, u249, u250, u251, u252, u253, u254, u255, u256, u257, u258, u259, u260, u261, u262, u263, u264, u265, u266, u267, u268, u269, u270, u271, u272, u273, u274], defers := ds } W := by
  obtain ⟨i0, hi, hz0, hz1, hz2⟩ := info_parts infoP
  have hc := (show Boxed W bk 87 (allF X) from ks.has _ g.ck).cell
  unfold allF at hc
  rw [sf12]
  generalize hT : (rtC (rtC (rtC (rtC (rtC (rtC (rtC (rtC (rtC (rtC (rtC (rtC (rtC (Option.getD Tryd.f7.body Code.skip)))))))))))))) = T at *
  clear hT
  simp only [hdC, rtC, Option.getD, Tryd.f7]
  have NX := hid nx
  have HWN : Hid (Boxed W bn 33 (.slice wa N wc)) := hid (ks.has _ g.cn)
  have HNB : Hid (bn ∉ [B3]) := hid (by simpa using hC _ g.cn)
  have HNE : Hid (Boxed W (b + 1) 3 (.int .i64 ne)) := hid (ks.has _ g.ce)
  have HEB : Hid (b + 1 ∉ [B3]) := hid (by simpa using hC _ g.ce)
  have hX : W.cell? ⟨X, 0, none⟩ = some v3 := (show Boxed W X 72 v3 from ks.has _ g.cx).cell
  have hXl : X < W.heap.size := ks.lt _ g.cx
  have hSL := g.sl W ks
  have hL := g.ln
  have hTL := g.tlen
  have HX := hid hX
  have HBB : Hid (bb < W.heap.size ∧ bb ≠ B3) := hid ⟨hSL.2, by obtain ⟨o, ho⟩ := g.cs; exact hC _ ho⟩
  have hbo := x1.lt
  have H0 : Hid (Bx [B3] W.heap.size W W ∧ Ls W.heap.size B3 [] W) := hid ⟨Bx.refl _ _ _, _, x1, rfl, Or.inl ⟨rfl, rfl⟩⟩
  obtain ⟨nE, hnE⟩ : ∃ n, n = (N + 1) := ⟨_, rfl⟩
  have hn0 : 0 < nE := by omega
  have HE : Hid (nE = (N + 1)) := hid hnE
  clear nx g x1 hX hnE
  gi_wp2_with fail
  have hII : ∀ Pp : Nat → Prop, OwnFrom W.heap.size (fun (pre : List Sn) W1 => (Bx [B3] W.heap.size W W1 ∧ Ls W.heap.size B3 pre W1) ∧ Pp pre.length) := fun Pp pre A B row hs hg hr => ⟨⟨bx_grown hs.1.1 hg (fun r e => (hr r e).1), hs.1.2.grown hg (fun r e => (hr r e).2)⟩, hs.2⟩
  refine wpIn_rangeFunc_ownH rfl (by decide) (gf := 77) (lb := #[.pointer (some ⟨X, 0, none⟩)]) rfl trivial (enters_of Tryd.func77 (by kernel_rfl) rfl)
    (seq_one (3 - 1) (by decide) bb X v3 ss hL.2.2 W HX.out hXl hSL.1 hSL.2)
    Mid.trans (fun W1 l o o' hl h _ _ => mid_put (by have := HBB.out.1; omega)) (Below.refl _ _) (fun _ => rfl)
    (fun (pre : List Sn) W1 => (Bx [B3] W.heap.size W W1 ∧ Ls W.heap.size B3 pre W1) ∧ pre.length < nE)
    (fun c (pre : List Sn) W1 => (Bx [B3] W.heap.size W W1 ∧ Ls W.heap.size B3 pre W1) ∧ (pre.length = nE ∧ c = Code.exit 10))
    (hII (fun k => k < nE)) (fun c => hII (fun k => k = nE ∧ c = Code.exit 10)) ⟨H0.out, hn0⟩
    (fun x a' W1 => a' = { tmps := #[u0, u1, u2, u3, .pointer (some ⟨b, 0, none⟩), .pointer (some ⟨b + 1, 0, none⟩), .pointer (some ⟨b + 1 + 1, 0, none⟩), .pointer (some ⟨Bw, 0, none⟩), u8, u9, u10, .pointer (some ⟨bk, 0, none⟩), .pointer (some ⟨bn, 0, none⟩), .pointer (some ⟨B1, 0, none⟩), .pointer (some ⟨B2, 0, none⟩), .pointer (some ⟨B3, 0, none⟩), .pointer (some ⟨Ba, 0, none⟩), u17, u18, u19, u20, u21, u22, u23, .int .i64 (x.1 : Int), .string x.2, u26, u27, u28, u29, u30, u31, u32, u33, u34, u35, u36, u37, u38, u39, u40, u41, u42, u43, u44, u45, u46, u47, u48, u49, u50, u51, u52, u53, u54, u55, u56, u57, u58, u59, u60, u61, u62, u63, u64, u65, u66, u67, u68, u69, u70, u71, u72, u73, u74, u75, u76, u77, u78, u79, u80, u81, u82, u83, u84, u85, u86, u87, u88, u89, u90, u91, u92, u93, u94, u95, u96, u97, u98, u99, u100, u101, u102, u103, u104, u105, u106, u107, u108, u109, u110, u111, u112, u113, u114, u115, u116, u117, u118, u119, u120, u121, u122, u123, u124, u125, u126, u127, u128, u129, u130, u131, u132, u133, u134, u135, u136, u137, u138, u139, u140, u141, u142, u143, u144, u145, u146, u147, u148, u149, u150, u151, u152, u153, u154, u155, u156, u157, u158, u159, u160, u161, u162, u163, u164, u165, .func (.func 77) #[] #[.pointer (some ⟨X, 0, none⟩)], .int .i64 (x.1 : Int), .string x.2, u169, u170, u171, u172, u173, u174, u175, u176, u177, u178, u179, u180, u181, u182, u183, u184, u185, u186, u187, u188, u189, u190, u191, u192, u193, u194, u195, u196, u197, u198, u199, u200, u201, u202, u203, u204, u205, u206, u207, u208, u209, u210, u211, u212, u213, u214, u215, u216, u217, u218, u219, u220, u221, u222, u223, u224, u225, u226, u227, u228, u229, u230, u231, u232, u233, u234, u235, u236, u237, u238, u239, u240, u241, u242, u243, u244, u245, u246, u247, u248, u249, u250, u251, u252, u253, u254, u255, u256, u257, u258, u259, u260, u261, u262, u263, u264, u265, u266, u267, u268, u269, u270, u271, u272, u273, u274], defers := [] })
    (fun x a' => fun _ A B row hs hg hr => hs) ?assign ?body ?done ?stop
  case assign =>
    rintro l pre x W1 K hi hK
    have HK := hid hK
    have HI := hid hi
    clear hK hi
    simp only [dv]
    gi_wp2
    exact HK.out _ _ ((KeepsOthers.refl _).from _) (Mid.refl _ _ _) HI.out rfl
  case body =>
    rintro l pre x a' W1 hl hr ⟨⟨hB, v, hv, hrow⟩, hlen⟩ rfl hlt
    obtain ⟨xk, xs⟩ := x
    have hc := hv.cell
    have hf := hv.frozen
    have hM := hB.size
    have HR := hid hrow
    have HV := hid hv
    have HB := hid hB
    have hl6 : pre.length ≤ 65536 := by omega
    clear hv hrow hB hr
    have hgt : ¬ ((N : Int) < (pre.length : Int) + 1) := by omega
    gi_wp2_with (first
      | (gi_at_builtin; refine wpListIn_append_own_at _ rfl _ _ 90 rfl W.heap.size 92 i0 (.agg #[.int .i64 0, .string ByteArray.empty]) 2 24 Tryd.underlying90 hi hz0 hz1 hz2 rfl (by decide) _ _ _ rfl (HR.out.alloc _) ⟨W1.heap.size, 0, none⟩ 1 1 [.int .i64 (xk : Int), .string xs] rfl rfl (cell_two_new2 _ _ _ _) (fun x hx => by simp at hx; rcases hx with rfl | rfl <;> rfl) (by unfold maxLen; omega) (by omega) (by simp; omega) ?_
         intro v' w4 hown' hgrow hnil hat
         obtain ⟨g', cap', rfl⟩ := ownsRow_succ hown'
         have hE : cellsP pre ++ [.int .i64 (xk : Int), .string xs] = cellsP (pre ++ [(xk, xs)]) := (cellsP_snoc pre (xk, xs)).symm
         have hE2 : pre.length + 1 = (pre ++ [(xk, xs)]).length := by simp
         rw [hE, hE2] at hown'
         obtain ⟨y1, y2, y3, y4, y5, y6⟩ := app_walk (n := 0) (m := 0) HB.out HV.out HR.out hown' hgrow HBB.out
         rw [← hE2] at y2 y3 y4 y5 y6
         have hc1 := y1.cell
         have hf1 := y1.frozen
         have hc2 := y2.cell
         have hwn2 := (boxed_bx HWN.out y5 HNB.out).cell
         have hne2 := (boxed_bx HNE.out y5 HEB.out).cell
         have Y3 := hid y3
         have Y4 := hid y4
         have Y5 := hid y5
         have Y6 := hid y6
         clear hE hE2 hown' y1 y2 y3 y4 y5 y6 hgrow hnil hat))
    refine ⟨Y3.out, Y4.out, ⟨Y5.out, Y6.out⟩, ?_⟩
    rw [List.length_append]
    have := HE.out
    simp
    omega
  case done =>
    rintro Dd ys W1 hD rfl ⟨⟨hB, hS⟩, hlen⟩ hd
    have HD := hid hd
    have HS := hid hS
    have HB := hid hB
    clear hd hS hB
    gi_wp2_with fail
    exact NX.out Dd W1 _ _ _ _ _ _ _ _ _ _ _ _ _ _ _ _ _ _ _ _ _ _ _ _ _ _ _ _ _ _ _ _ _ _ _ _ _ _ _ _ _ _ _ _ _ _ _ _ _ _ _ _ _ _ _ _ _ _ _ _ _ _ _ _ _ _ _ _ _ _ _ _ _ _ _ _ _ _ _ _ _ _ _ _ _ _ _ _ _ _ _ _ _ _ _ _ _ _ _ _ _ _ _ _ _ _ _ _ _ _ _ _ _ _ _ _ _ _ _ _ _ _ _ _ _ _ _ _ _ _ _ _ _ _ _ _ _ _ _ _ _ _ _ _ _ _ _ _ _ _ _ _ _ _ _ _ _ _ _ _ _ _ _ _ _ _ _ _ _ _ _ _ _ _ _ _ _ _ _ _ _ _ _ _ _ _ _ _ _ _ _ _ _ _ _ _ _ _ _ _ _ _ _ _ _ _ _ _ _ _ _ _ _ _ _ _ _ _ _ _ _ _ _ _ _ _ _ _ _ _ _ _ _ _ _ _ _ _ _ _ _ _ _ _ _ _ _ _ _ _ _ _ _ _ _ _ _ _ _ _ _ _ _ _ _ hD HD.out HB.out HS.out
  case stop =>
    rintro Dd c pre W1 hD hSp ⟨⟨hB, hS⟩, hlen, rfl⟩ hd
    exfalso
    have := hSp.length_le
    have := HE.out
    omega
end Go.Proofs.YtdhjoimiejdgbaaDoor.L
