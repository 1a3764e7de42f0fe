import Derived.Test.YtdhjoimiejdgbaaDoorWrn
namespace Go.Proofs.YtdhjoimiejdgbaaDoor.L
open Go.RowKit Bs Go.Maps Go.Shelf
set_option linter.unusedVariables false
attribute [local go_sem] Oper.semAt_some cell_alloc2 frozen_alloc2 run_store_fn
theorem prd_at {D : List Dr} {pre : List Sn} {x : Sn} (h : pre ++ [x] <+: prD D) : ∃ hk : pre.length < D.length, x = ((D[pre.length]).1, (D[pre.length]).2.1) := by
  have h1 := h.length_le
  unfold prD at h1
  simp at h1
  have hk : pre.length < D.length := by omega
  refine ⟨hk, ?_⟩
  obtain ⟨r, hr⟩ := h
  have e : (prD D)[pre.length]? = some x := by rw [← hr]; simp
  unfold prD at e
  rw [List.getElem?_map, List.getElem?_eq_getElem hk] at e
  simp at e
  exact e.symm
theorem kb_low {base : Nat} {A B : World} (h : Below A.heap.size A B) : Kb base A B := ⟨h.size, fun k o _ h1 _ => (h.block k (lt_of_block h1)).trans h1⟩
set_option maxHeartbeats 8000000 in
set_option maxRecDepth 100000 in
theorem seg_g (R : Exit → Act → World → Prop) (ds : List Deferred) (W : World) (b Bw bk bn B X bb n2 k2 wc N : Nat) (a2 wa : Option Addr) (ne : Int) (v3 : Value) (ss : List ByteArray) (D : List Dr) (C : List (Nat × Obj)) (B1 B2 B3 Ba : Nat) (u0 u1 u2 u3 u8 u9 u10 u17 u18 u19 u20 u21 u22 u23 u24 u25 u26 u27 u28 u29 u30 u31 u32 u33 u34 u35 u36 u37 u38 u39 u40 u41 u42 u43 u44 u45 u46 u47 u48 u49 u50 u51 u52 u53 u54 u55 u56 u57 u58 u59 u60 u61 u62 u63 u64 u65 u66 u67 u68 u69 u70 u71 u72 u73 u74 u75 u76 u77 u78 u79 u80 u81 u82 u83 u84 u85 u86 u87 u88 u89 u90 u91 u92 u93 u94 u95 u96 u97 u98 u99 u100 u101 u102 u103 u104 u105 u106 u107 u108 u109 u110 u111 u112 u113 u114 u115 u116 u117 u118 u119 u120 u121 u122 u123 u124 u125 u126 u127 u128 u129 u130 u131 u132 u133 u134 u135 u136 u137 u138 u139 u140 u141 u142 u143 u144 u145 u146 u147 u148 u149 u150 u151 u152 u153 u154 u155 u156 u157 u158 u159 u160 u161 u162 u163 u164 u165 u166 u167 u168 u169 u170 u171 u172 u173 u174 u175 u176 u177 u178 u179 u180 u181 u182 u183 u184 u185 u186 u187 u188 u189 u190 u191 u192 u193 u194 u195 u196 u197 u198 u199 u200 u201 u202 u203 u204 u205 u206 u207 u208 u209 u210 u211 u212 u213 u214 u215 u216 u217 u218 u219 u220 u221 u222 u223 u224 u225 u226 u227 u228 u229 u230 u231 u232 u233 u234 u235 u236 u237 u238 u239 u240 u241 u242 u243 u244 u245 u246 u247 u248 u249 u250 u251 u252 u253 u254 u255 u256 u257 u258 u259 u260 u261 u262 u263 u264 u265 u266 u267 u268 u269 u270 u271 u272 u273 u274 : Value)
    (g : Gm b Bw bk bn B X bb (.slice a2 n2 k2) ne v3 wa wc ss D N C) (ks : Ks W C)
    (nx : ∀ (Dd : Nat) (W' : World) (v0 v1 v2 v3 v8 v9 v10 v17 v18 v19 v20 v21 v22 v23 v24 v25 v27 v28 v29 v30 v31 v32 v33 v34 v35 v36 v37 v38 v39 v40 v41 v42 v43 v44 v45 v46 v47 v48 v49 v50 v51 v52 v53 v54 v55 v56 v57 v58 v59 v60 v61 v62 v63 v64 v65 v66 v67 v68 v69 v70 v71 v72 v73 v74 v75 v76 v77 v78 v79 v80 v81 v82 v83 v84 v85 v86 v87 v88 v89 v90 v91 v92 v93 v94 v95 v96 v97 v98 v99 v100 v101 v102 v103 v104 v105 v106 v107 v108 v109 v110 v111 v112 v113 v114 v115 v116 v117 v118 v119 v120 v121 v122 v123 v124 v125 v126 v127 v128 v129 v130 v131 v132 v133 v134 v135 v136 v137 v138 v139 v140 v141 v142 v143 v144 v145 v146 v147 v148 v149 v150 v151 v152 v153 v154 v155 v156 v157 v158 v159 v160 v161 v162 v163 v164 v165 v166 v167 v168 v169 v170 v171 v172 v173 v174 v175 v176 v177 v178 v179 v180 v181 v182 v183 v184 v185 v186 v187 v188 v189 v190 v191 v192 v193 v194 v195 v196 v197 v198 v199 v200 v201 v202 v203 v204 v205 v206 v207 v208 v209 v210 v211 v212 v213 v214 v215 v216 v217 v218 v219 v220 v221 v222 v223 v224 v225 v226 v227 v228 v229 v230 v231 v232 v233 v234 v235 v236 v237 v238 v239 v240 v241 v242 v243 v244 v245 v246 v247 v248 v249 v250 v251 v252 v253 v254 v255 v256 v257 v258 v259 v260 v261 v262 v263 v264 v265 v266 v267 v268 v269 v270 v271 v272 v273 v274 : Value), W.heap.size + 1 ≤ Dd → W'.heap[Dd]? = some (.deferred (some [])) → Bx [W.heap.size] (W.alloc (.cells #[.int .i64 0] 3)).heap.size (W.alloc (.cells #[.int .i64 0] 3)) W' → Boxed W' W.heap.size 3 (.int .i64 (N : Int)) → ((rtC (rtC (rtC (rtC (rtC (rtC (rtC (rtC (rtC (rtC (rtC (rtC (rtC (rtC (rtC (Option.getD Tryd.f7.body Code.skip))))))))))))))))).wpIn Fence.wide 3 Tryd.prog R { tmps := #[v0, v1, v2, v3, .pointer (some ⟨b, 0, none⟩), .pointer (some ⟨b + 1, 0, none⟩), .pointer (some ⟨b + 1 + 1, 0, none⟩), .pointer (some ⟨Bw, 0, none⟩), v8, v9, v10, .pointer (some ⟨bk, 0, none⟩), .pointer (some ⟨bn, 0, none⟩), .pointer (some ⟨B1, 0, none⟩), .pointer (some ⟨B2, 0, none⟩), .pointer (some ⟨B3, 0, none⟩), .pointer (some ⟨Ba, 0, none⟩), v17, v18, v19, v20, v21, v22, v23, v24, v25, .pointer (some ⟨W.heap.size, 0, none⟩), v27, v28, v29, v30, v31, v32, v33, v34, v35, v36, v37, v38, v39, v40, v41, v42, v43, v44, v45, v46, v47, v48, v49, v50, v51, v52, v53, v54, v55, v56, v57, v58, v59, v60, v61, v62, v63, v64, v65, v66, v67, v68, v69, v70, v71, v72, v73, v74, v75, v76, v77, v78, v79, v80, v81, v82, v83, v84, v85, v86, v87, v88, v89, v90, v91, v92, v93, v94, v95, v96, v97, v98, v99, v100, v101, v102, v103, v104, v105, v106, v107, v108, v109, v110, v111, v112, v113, v114, v115, v116, v117, v118, v119, v120, v121, v122, v123, v124, v125, v126, v127, v128, v129, v130, v131, v132, v133, v134, v135, v136, v137, v138, v139, v140, v141, v142, v143, v144, v145, v146, v147, v148, v149, v150, v151, v152, v153, v154, v155, v156, v157, v158, v159, v160, v161, v162, v163, v164, v165, v166, v167, v168, v169, v170, v171, v172, v173, v174, v175, v176, v177, v178, v179, v180, v181, v182, v183, v184, v185, v186, v187, v188, v189, v190, v191, v192, v193, v194, v195, v196, v197, v198, v199, v200, v201, v202, v203, v204, v205, v206, v207, v208, v209, v210, v211, v212, v213, v214, v215, v216, v217, v218, v219, v220, v221, v222, v223, v224, v225, v226, v227, v228, v229, v230, v231, v232, v233, v234, v235, v236, v237, v238, v239, v240, v241, v242, v243, v244, v245, v246, v247, v248, v249, v250, v251, v252, v253, v254, v255, v256, v257, v258, v259, v260, v261, v262, v263, v264, v265, v266, v267, v268, v269, v270, v271, v272, v273, v274], defers := { target := .collected Dd, args := #[] } :: ds } W') :
    ((rtC (rtC (rtC (rtC (rtC (rtC (rtC (rtC (rtC (rtC (rtC (rtC (rtC (Option.getD Tryd.f7.body Code.skip))))))))))))))).wpIn Fence.wide 3 Tryd.prog R { tmps := #[u0, u1, u2, u3, .pointer (some ⟨b, 0, none⟩), .pointer (some ⟨b + 1, 0, none⟩), .pointer (some ⟨b + 1 + 1, 0, none⟩), .pointer (some ⟨Bw, 0, none⟩), u8, u9, u10, .pointer (some ⟨bk, 0, none⟩), .pointer (some ⟨bn, 0, none⟩), .pointer (some ⟨B1, 0, none⟩), .pointer (some ⟨B2, 0, none⟩), .pointer (some ⟨B3, 0, none⟩), .pointer (some ⟨Ba, 0, none⟩), u17, u18, u19, u20, u21, u22, u23, u24, u25, u26, u27, u28, u29, u30, u31, u32, u33, u34, u35, u36, u37, u38, u39, u40, u41, u42, u43, u44, u45, u46, u47, u48, u49, u50, u51, u52, u53, u54, u55, u56, u57, u58, u59, u60, u61, u62, u63, u64, u65, u66, u67, u68, u69, u70, u71, u72, u73, u74, u75, u76, u77, u78, u79, u80, u81, u82, u83, u84, u85, u86, u87, u88, u89, u90, u91, u92, u93, u94, u95, u96, u97, u98, u99, u100, u101, u102, u103, u104, u105, u106, u107, u108, u109, u110, u111, u112, u113, u114, u115, u116, u117, u118, u119, u120, u121, u122, u123, u124, u125, u126, u127, u128, u129, u130, u131, u132, u133, u134, u135, u136, u137, u138, u139, u140, u141, u142, u143, u144, u145, u146, u147, u148, u149, u150, u151, u152, u153, u154, u155, u156, u157, u158, u159, u160, u161, u162, u163, u164, u165, u166, u167, u168, u169, u170, u171, u172, u173, u174, u175, u176, u177, u178, u179, u180, u181, u182, u183, u184, u185, u186, u187, u188, u189, u190, u191, u192, u193, u194, u195, u196, u197, u198, u199, u200, u201, u202, u203, u204, u205, u206, u207, u208, u209, u210, u211, u212, u213, u214, u215, u216, u217, u218, u219, u220, u221, u222, u223, u224, u225, u226, u227, u228, u229, u230, u231, u232, u233, u234, u235, u236, u237, u238, u239, u240, u241, u242, u243, u244, u245, u246, u247, u248, u249, u250, u251, u252, u253, u254, u255, u256, u257, u258, u259, u260, u261, u262, u263, u264, u265, u266, u267, u268, u269, u270, u271, u272, u273, u274], defers := ds } W := by
  rw [sf13]
  rw [sf14]
  generalize hT : (rtC (rtC (rtC (rtC (rtC (rtC (rtC (rtC (rtC (rtC (rtC (rtC (rtC (rtC (rtC (Option.getD Tryd.f7.body Code.skip)))))))))))))))) = T at *
  clear hT
  simp only [hdC, rtC, Option.getD, Tryd.f7]
  have NX := hid nx
  have G := hid g
  have al := (Below.refl W.heap.size W).alloc (Nat.le_refl _) (.cells #[.int .i64 0] 3)
  have kV := ks.low al
  have hbkV : Boxed (W.alloc (.cells #[.int .i64 0] 3)) W.heap.size 3 (.int .i64 0) := Boxed.new _ _ _
  have hCl : ∀ p ∈ C, p.1 < W.heap.size := ks.lt
  have HCL := hid hCl
  have hc := (show Boxed _ bk 87 (allF X) from kV.has _ g.ck).cell
  unfold allF at hc
  have hX : (W.alloc (.cells #[.int .i64 0] 3)).cell? ⟨X, 0, none⟩ = some v3 := (show Boxed _ X 72 v3 from kV.has _ g.cx).cell
  have hXl : X < W.heap.size := ks.lt _ g.cx
  have hSL := g.sl _ kV
  have hbbl : bb < W.heap.size := by obtain ⟨o, ho⟩ := g.cs; exact ks.lt _ ho
  have hL := g.ln
  have hTL := g.tlen
  have hEq := hid g.eq_
  have hz : (W.alloc (.cells #[.int .i64 0] 3)).heap.size = W.heap.size + 1 := by simp
  have HX := hid hX
  have KV := hid kV
  have BK := hid hbkV
  refine wpIn_wide.2 ?_
  refine (wpIn_wide (n := 5)).1 ?_
  have N5 : Hid (∀ a w, T.wpIn Fence.wide 3 Tryd.prog R a w → T.wpIn Fence.wide 5 Tryd.prog R a w) := hid (fun a w h => wpIn_wide.2 (wpIn_wide.1 h))
  clear nx g ks hX al kV hbkV hCl
  gi_wp2_with fail
  generalize W.alloc (.cells #[.int .i64 0] 3) = V0 at *
  refine all_walkP (n := 5) (by decide) bb X v3 ss hL.2.2 rfl rfl HX.out (by omega) hSL.1 hSL.2 (fun pre W1 => Bx [W.heap.size] V0.heap.size V0 W1 ∧ Boxed W1 W.heap.size 3 (.int .i64 (pre.length : Int)))
    (fun pre W1 W2 h hb => ⟨bx_below h.1 hb, boxed_below h.2 hb⟩)
    (fun pre W1 l r r' h hl hL => ⟨h.1.trans ((bx_put W1 l _).mono h.1.size (fun k hk => Or.inr (by have := List.mem_singleton.1 hk; omega))), boxed_bx h.2 (bx_put W1 l _) (fun c => by have := List.mem_singleton.1 c; omega)⟩) ⟨Bx.refl _ _ _, BK.out⟩
    (fun x => { tmps := #[u0, u1, u2, u3, .pointer (some ⟨b, 0, none⟩), .pointer (some ⟨b + 1, 0, none⟩), .pointer (some ⟨b + 1 + 1, 0, none⟩), .pointer (some ⟨Bw, 0, none⟩), u8, u9, u10, .pointer (some ⟨bk, 0, none⟩), .pointer (some ⟨bn, 0, none⟩), .pointer (some ⟨B1, 0, none⟩), .pointer (some ⟨B2, 0, none⟩), .pointer (some ⟨B3, 0, none⟩), .pointer (some ⟨Ba, 0, none⟩), u17, u18, u19, u20, u21, u22, u23, u24, u25, .pointer (some ⟨W.heap.size, 0, none⟩), .int .i64 (x.1 : Int), .string x.2, u29, u30, u31, u32, u33, u34, u35, u36, u37, u38, u39, u40, u41, u42, u43, u44, u45, u46, u47, u48, u49, u50, u51, u52, u53, u54, u55, u56, u57, u58, u59, u60, u61, u62, u63, u64, u65, u66, u67, u68, u69, u70, u71, u72, u73, u74, u75, u76, u77, u78, u79, u80, u81, u82, u83, u84, u85, u86, u87, u88, u89, u90, u91, u92, u93, u94, u95, u96, u97, u98, u99, u100, u101, u102, u103, u104, u105, u106, u107, u108, u109, u110, u111, u112, u113, u114, u115, u116, u117, u118, u119, u120, u121, u122, u123, u124, u125, u126, u127, u128, u129, u130, u131, u132, u133, u134, u135, u136, u137, u138, u139, u140, u141, u142, u143, u144, u145, u146, u147, u148, u149, u150, u151, u152, u153, u154, u155, u156, u157, u158, u159, u160, u161, u162, u163, u164, u165, u166, u167, u168, u169, u170, u171, u172, u173, u174, u175, u176, u177, u178, u179, .func (.func 77) #[] #[.pointer (some ⟨X, 0, none⟩)], .int .i64 (x.1 : Int), .string x.2, u183, u184, u185, u186, u187, u188, u189, u190, u191, u192, u193, u194, u195, u196, u197, u198, u199, u200, u201, u202, u203, u204, u205, u206, u207, u208, u209, u210, u211, u212, u213, u214, u215, u216, u217, u218, u219, u220, u221, u222, u223, u224, u225, u226, u227, u228, u229, u230, u231, u232, u233, u234, u235, u236, u237, u238, u239, u240, u241, u242, u243, u244, u245, u246, u247, u248, u249, u250, u251, u252, u253, u254, u255, u256, u257, u258, u259, u260, u261, u262, u263, u264, u265, u266, u267, u268, u269, u270, u271, u272, u273, u274], defers := [] }) ?assign ?body ?done
  case assign =>
    rintro l x W1 K hK
    have HK := hid hK
    clear hK
    simp only [dv]
    gi_wp2
    exact HK.out
  case body =>
    rintro l pre x W1 hl hr ⟨hB, hkb⟩ hpx
    obtain ⟨r, hr⟩ := hr
    obtain ⟨hk, hx⟩ := prd_at (D := D) (by rw [hEq.out]; exact hpx)
    obtain ⟨xk, xs⟩ := x
    have kW : Ks W1 C := KV.out.bx hB (fun p hp c => by have := HCL.out p hp; have := List.mem_singleton.1 c; omega)
    obtain ⟨q, eq, c1, c2⟩ := G.out.rw_ W1 kW pre.length hk
    subst eq
    injection hx with hx1 hx2
    rw [← hx1] at c1
    rw [← hx2] at c2
    have hkc := hkb.cell
    have hnc := (show Boxed W1 bn 33 (.slice (some ⟨q, 0, none⟩) N wc) from kW.has _ G.out.cn).cell
    have kV1 := kW.low ((Below.refl W1.heap.size W1).alloc (Nat.le_refl _) (.cells #[.int .i64 0] 3))
    have hbc := (show Boxed _ bk 87 (allF X) from kV1.has _ G.out.ck).cell
    unfold allF at hbc
    have hkN : pre.length < N := by omega
    have hkN2 : (pre.length : Int) < (N : Int) := by omega
    have HR := hid hr
    have HB := hid hB
    have HKB := hid hkb
    have KW := hid kW
    have KV1 := hid kV1
    have hsz := hB.size
    have HLN := hid hL
    have hN6 : N ≤ 65536 := hL.2.1
    clear hr hB hkb kW kV1 hx1 hx2 hc hL
    dsimp only
    gi_upto_region 53 with fail
    gi_cut [204] from 205 (fun v wx => v = .bool false ∧ wx = W1)
    case first =>
      gi_wp2_with fail
      gi_meet
      case rel => exact ⟨by first | rfl | rw [decide_eq_false (by omega)], rfl⟩
    case rest =>
    obtain ⟨e0, e1⟩ := hcut
    subst e0
    replace e1 := e1.symm
    subst e1
    gi_wp2_with fail
    have al := (Below.refl W1.heap.size W1).alloc (Nat.le_refl _) (.cells #[.int .i64 0] 3)
    refine all_walkN (n := 3) (by decide) (l0 := l) (r0 := r) ((al.block _ (lt_of_block HR.out)).trans HR.out) bb X 14 v3 ss HLN.out.2.2 rfl rfl (show Boxed _ X 72 v3 from KV1.out.has _ G.out.cx).cell (KV1.out.lt _ G.out.cx) (G.out.sl _ KV1.out).1 (G.out.sl _ KV1.out).2
      (fun pre2 W2 => Below W1.heap.size W1 W2 ∧ Boxed W2 W1.heap.size 3 (.int .i64 (pre2.length : Int)) ∧ pre2.length ≤ pre.length) (fun pre2 W2 => Below W1.heap.size W1 W2)
      (fun p2 W2 W3 h hb => ⟨h.1.trans (hb.mono h.1.size), boxed_below h.2.1 hb, h.2.2⟩)
      (fun p2 W2 l2 r2 r3 h hl hL => ⟨h.1.trans ((bx_put W2 l2 _).below h.1.size (fun k hk => by have := List.mem_singleton.1 hk; have := al.size; omega)), boxed_bx h.2.1 (bx_put W2 l2 _) (fun c => by have := List.mem_singleton.1 c; simp at hl; omega), h.2.2⟩)
      (fun p2 W2 l2 r2 r3 h hl hL => h.trans ((bx_put W2 l2 _).below h.size (fun k hk => by have := List.mem_singleton.1 hk; have := al.size; omega)))
      ⟨al, Boxed.new _ _ _, Nat.zero_le _⟩
      (fun x => { tmps := #[u0, u1, u2, u3, .pointer (some ⟨b, 0, none⟩), .pointer (some ⟨b + 1, 0, none⟩), .pointer (some ⟨b + 1 + 1, 0, none⟩), .pointer (some ⟨Bw, 0, none⟩), u8, u9, u10, .pointer (some ⟨bk, 0, none⟩), .pointer (some ⟨bn, 0, none⟩), .pointer (some ⟨B1, 0, none⟩), .pointer (some ⟨B2, 0, none⟩), .pointer (some ⟨B3, 0, none⟩), .pointer (some ⟨Ba, 0, none⟩), u17, u18, u19, u20, u21, u22, u23, u24, u25, .pointer (some ⟨W.heap.size, 0, none⟩), .int .i64 (xk : Int), .string xs, .pointer (some ⟨W1.heap.size, 0, none⟩), .int .i64 (x.1 : Int), .string x.2, u32, u33, u34, u35, u36, u37, u38, u39, u40, u41, u42, u43, u44, u45, u46, u47, u48, u49, u50, u51, u52, u53, u54, u55, u56, u57, u58, u59, u60, u61, u62, u63, u64, u65, u66, u67, u68, u69, u70, u71, u72, u73, u74, u75, u76, u77, u78, u79, u80, u81, u82, u83, u84, u85, u86, u87, u88, u89, u90, u91, u92, u93, u94, u95, u96, u97, u98, u99, u100, u101, u102, u103, u104, u105, u106, u107, u108, u109, u110, u111, u112, u113, u114, u115, u116, u117, u118, u119, u120, u121, u122, u123, u124, u125, u126, u127, u128, u129, u130, u131, u132, u133, u134, u135, u136, u137, u138, u139, u140, u141, u142, u143, u144, u145, u146, u147, u148, u149, u150, u151, u152, u153, u154, u155, u156, u157, u158, u159, u160, u161, u162, u163, u164, u165, u166, u167, u168, u169, u170, u171, u172, u173, u174, u175, u176, u177, u178, u179, .func (.func 77) #[] #[.pointer (some ⟨X, 0, none⟩)], .int .i64 (xk : Int), .string xs, u183, u184, u185, u186, u187, u188, u189, u190, u191, u192, u193, u194, u195, u196, u197, u198, u199, u200, u201, u202, u203, .bool false, .func (.func 77) #[] #[.pointer (some ⟨X, 0, none⟩)], .int .i64 (x.1 : Int), .string x.2, u208, u209, u210, u211, u212, u213, u214, u215, u216, u217, u218, u219, u220, u221, u222, u223, u224, u225, u226, u227, u228, u229, u230, u231, u232, u233, u234, u235, u236, u237, u238, u239, u240, u241, u242, u243, u244, u245, u246, u247, u248, u249, u250, u251, u252, u253, u254, u255, u256, u257, u258, u259, u260, u261, u262, u263, u264, u265, u266, u267, u268, u269, u270, u271, u272, u273, u274], defers := [] }) ?assign2 ?body2 ?done2 ?stop2
    case assign2 =>
      rintro l2 x W2 K hK
      have HK := hid hK
      clear hK
      simp only [dv]
      gi_wp2
      exact HK.out
    case body2 =>
      rintro l2 pre2 x2 W2 ⟨hB2, hib, hle⟩ hpx2
      obtain ⟨hk2, hx2⟩ := prd_at (D := D) (by rw [hEq.out]; exact hpx2)
      obtain ⟨yk, ys⟩ := x2
      have kW2 := KW.out.low hB2
      obtain ⟨q2, eq2, d1, d2⟩ := G.out.rw_ W2 kW2 pre2.length hk2
      injection eq2 with eq2
      injection eq2 with eq2
      subst eq2
      injection hx2 with hy1 hy2
      rw [← hy1] at d1
      rw [← hy2] at d2
      have hic := hib.cell
      have hif := hib.frozen
      have hnc2 := (show Boxed W2 bn 33 (.slice (some ⟨q, 0, none⟩) N wc) from kW2.has _ G.out.cn).cell
      have hkc2 := (boxed_below HKB.out hB2).cell
      have hbkl := HKB.out.lt
      have hne2 : W.heap.size ≠ W1.heap.size := by omega
      have hkN3 : (pre2.length : Int) < (N : Int) := by omega
      have J1 := hid (Jm.bx (M := (W1.alloc (.cells #[.int .i64 0] 3)).heap.size) (bb := bb) (bx_set W2 W1.heap.size 0 (.int .i64 ((pre2.length : Int) + 1))) (fun k hk => ⟨by have := List.mem_singleton.1 hk; omega, fun o ho => by rw [List.mem_singleton.1 hk, show W2.heap[W1.heap.size]? = _ from hib] at ho; cases ho; rfl⟩) (by have := hB2.size; omega))
      have J2 := hid (hB2.trans ((bx_set W2 W1.heap.size 0 (.int .i64 ((pre2.length : Int) + 1))).below hB2.size (fun k hk => by have := List.mem_singleton.1 hk; omega)))
      have J3 := hid (hib.set (.int .i64 ((pre2.length : Int) + 1)))
      have hic3 := J3.out.cell
      have hkc3 := ((boxed_below HKB.out hB2).other hne2 (.int .i64 ((pre2.length : Int) + 1))).cell
      clear kW2 hib hB2 hy1 hy2
      by_cases hlast : pre2.length = pre.length
      · have hgt : (pre.length : Int) < (pre2.length : Int) + 1 := by omega
        clear hlast
        gi_wp2_with fail
        exact Or.inr ⟨rfl, J1.out.kb, J2.out⟩
      · have hgt : ¬ ((pre.length : Int) < (pre2.length : Int) + 1) := by omega
        gi_wp2_with fail
        refine Or.inl ⟨rfl, J1.out.kb, J1.out.md, J2.out, ?_, ?_⟩
        · rw [List.length_append]
          exact J3.out
        · rw [List.length_append]
          simp
          omega
    case done2 =>
      rintro W2 ⟨hB2, hib, hle⟩
      exfalso
      omega
    case stop2 =>
      rintro pre2 W2 hB2
      have hk2 := boxed_below HKB.out hB2
      have hkc2 := hk2.cell
      have hkf2 := hk2.frozen
      have J1 := hid (Jm.bx (M := V0.heap.size) (bb := bb) (bx_set W2 W.heap.size 0 (.int .i64 ((pre.length : Int) + 1))) (fun k hk => ⟨by have := List.mem_singleton.1 hk; omega, fun o ho => by rw [List.mem_singleton.1 hk, show W2.heap[W.heap.size]? = _ from hk2] at ho; cases ho; rfl⟩) (by have := hB2.size; omega))
      have J2 := hid (Jm.low (M := V0.heap.size) (bb := bb) hB2 (by omega))
      have J3 := hid (bx_below HB.out hB2)
      have J4 := hid (hk2.set (.int .i64 ((pre.length : Int) + 1)))
      clear hk2
      gi_wp2_with fail
      refine ⟨rfl, (J2.out.trans J1.out).kb, (J2.out.trans J1.out).md, J3.out.setCell (Or.inl (by simp)) _, ?_⟩
      rw [List.length_append]
      exact J4.out
  case done =>
    rintro Dd W1 hD ⟨hB, hkb⟩ hd
    have HB := hid hB
    have HD := hid hd
    have HKB := hid hkb
    clear hB hd hkb
    gi_wp2_with fail
    refine N5.out _ _ ?_
    exact NX.out Dd W1 _ _ _ _ _ _ _ _ _ _ _ _ _ _ _ _ _ _ _ _ _ _ _ _ _ _ _ _ _ _ _ _ _ _ _ _ _ _ _ _ _ _ _ _ _ _ _ _ _ _ _ _ _ _ _ _ _ _ _ _ _ _ _ _ _ _ _ _ _ _ _ _ _ _ _ _ _ _ _ _ _ _ _ _ _ _ _ _ _ _ _ _ _ _ _ _ _ _ _ _ _ _ _ _ _ _ _ _ _ _ _ _ _ _ _ _ _ _ _ _ _ _ _ _ _ _ _ _ _ _ _ _ _ _ _ _ _ _ _ _ _ _ _ _ _ _ _ _ _ _ _ _ _ _ _ _ _ _ _ _ _ _ _ _ _ _ _ _ _ _ _ _ _ _ _ _ _ _ _ _ _ _ _ _ _ _ _ _ _ _ _ _ _ _ _ _ _ _ _ _ _ _ _ _ _ _ _ _ _ _ _ _ _ _ _ _ _ _ _ _ _ _ _ _ _ _ _ _ _ _ _ _ _ _ _ _ _ _ _ _ _ _ _ _ _ _ _ _ _ _ _ _ _ _ _ _ _ _ _ _ _ _ _ _ (by omega) HD.out HB.out (by rw [← hTL]; exact HKB.out)
end Go.Proofs.YtdhjoimiejdgbaaDoor.L
