import Derived.Test.YtdhjoimiejdgbaaDoorWk3
namespace Go.Proofs.YtdhjoimiejdgbaaDoor.L
open Go.RowKit Bs Go.Maps Go.Shelf
set_option linter.unusedVariables false
attribute [local go_sem] Oper.semAt_some cell_alloc2 frozen_alloc2 run_store_fn
theorem ks_at {s W : World} {B Ba : Nat} {C : List (Nat × Obj)} {st : Nat → St} {v : Value} (u : Value) (ks : Ks W C) (hW : Wh s W B [] st) (hb : Boxed W Ba 3 v) (hC : ∀ p ∈ C, p.1 ≠ Ba) (hs : s.heap.size ≤ Ba) : Ks (W.setCell ⟨Ba, 0, none⟩ u) C ∧ Wh s (W.setCell ⟨Ba, 0, none⟩ u) B [] st ∧ Boxed (W.setCell ⟨Ba, 0, none⟩ u) Ba 3 u := by
  have hx := bx_set W Ba 0 u
  exact ⟨ks.bx hx (fun p hp c => hC p hp (List.mem_singleton.1 c)), hW.frame hx (fun q hq => by obtain rfl := List.mem_singleton.1 hq; exact hs) (fun q hq => by obtain rfl := List.mem_singleton.1 hq; exact Ot.of hb (OtO.cells (by decide))), hb.set u⟩
set_option maxHeartbeats 8000000 in
set_option maxRecDepth 100000 in
theorem seg_d (R : Exit → Act → World → Prop) (ds : List Deferred) (w s W : World) (b Bw bk bn B X bb n2 k2 wc N : Nat) (a2 wa : Option Addr) (ne : Int) (v3 : Value) (ss : List ByteArray) (D : List Dr) (s2 : List Opd) (C : List (Nat × Obj)) (B1 B2 B3 Ba : Nat) (u0 u1 u2 u3 u8 u9 u10 u17 u18 u19 u20 u21 u22 u23 u24 u25 u26 u27 u28 u29 u30 u31 u32 u33 u34 u35 u36 u37 u38 u39 u40 u41 u42 u43 u44 u45 u46 u47 u48 u49 u50 u51 u52 u53 u54 u55 u56 u57 u58 u59 u60 u61 u62 u63 u64 u65 u66 u67 u68 u69 u70 u71 u72 u73 u74 u75 u76 u77 u78 u79 u80 u81 u82 u83 u84 u85 u86 u87 u88 u89 u90 u91 u92 u93 u94 u95 u96 u97 u98 u99 u100 u101 u102 u103 u104 u105 u106 u107 u108 u109 u110 u111 u112 u113 u114 u115 u116 u117 u118 u119 u120 u121 u122 u123 u124 u125 u126 u127 u128 u129 u130 u131 u132 u133 u134 u135 u136 u137 u138 u139 u140 u141 u142 u143 u144 u145 u146 u147 u148 u149 u150 u151 u152 u153 u154 u155 u156 u157 u158 u159 u160 u161 u162 u163 u164 u165 u166 u167 u168 u169 u170 u171 u172 u173 u174 u175 u176 u177 u178 u179 u180 u181 u182 u183 u184 u185 u186 u187 u188 u189 u190 u191 u192 u193 u194 u195 u196 u197 u198 u199 u200 u201 u202 u203 u204 u205 u206 u207 u208 u209 u210 u211 u212 u213 u214 u215 u216 u217 u218 u219 u220 u221 u222 u223 u224 u225 u226 u227 u228 u229 u230 u231 u232 u233 u234 u235 u236 u237 u238 u239 u240 u241 u242 u243 u244 u245 u246 u247 u248 u249 u250 u251 u252 u253 u254 u255 u256 u257 u258 u259 u260 u261 u262 u263 u264 u265 u266 u267 u268 u269 u270 u271 u272 u273 u274 : Value)
    (g : Gm b Bw bk bn B X bb (.slice a2 n2 k2) ne v3 wa wc ss D N C) (ks : Ks W C) (hC : ∀ p ∈ C, p.1 ≠ Ba) (hs : s.heap.size ≤ Ba) (wh : ∃ st, Wh s W B [] st ∧ Re st) (ts : Tab s) (lo : Below w.heap.size w s) (it : It2 w a2 n2 s2) (gd : GoodO s2)
    (xa : ∃ k : Nat, k ≤ n2 ∧ Boxed W Ba 3 (.int .i64 (k : Int)))
    (nx : ∀ (W' : World) (v0 v1 v2 v3 v8 v9 v10 v17 v18 v19 v20 v21 v22 v23 v24 v25 v26 v27 v28 v29 v30 v31 v32 v33 v34 v35 v36 v37 v38 v39 v40 v41 v42 v43 v44 v45 v46 v47 v48 v49 v50 v51 v52 v53 v54 v55 v56 v57 v58 v59 v60 v61 v62 v63 v64 v65 v66 v67 v68 v69 v70 v71 v72 v73 v74 v75 v76 v77 v78 v79 v80 v81 v82 v83 v84 v85 v86 v87 v88 v89 v90 v91 v92 v93 v94 v95 v96 v97 v98 v99 v100 v101 v102 v103 v104 v105 v106 v107 v108 v109 v110 v111 v112 v113 v114 v115 v116 v117 v118 v119 v120 v121 v122 v123 v124 v125 v126 v127 v128 v129 v130 v131 v132 v133 v134 v135 v136 v137 v138 v139 v140 v141 v142 v143 v144 v145 v146 v147 v148 v149 v150 v151 v152 v153 v154 v155 v156 v157 v158 v159 v160 v161 v162 v163 v164 v165 v166 v167 v168 v169 v170 v171 v172 v173 v174 v175 v176 v177 v178 v179 v180 v181 v182 v183 v184 v185 v186 v187 v188 v189 v190 v191 v192 v193 v194 v195 v196 v197 v198 v199 v200 v201 v202 v203 v204 v205 v206 v207 v208 v209 v210 v211 v212 v213 v214 v215 v216 v217 v218 v219 v220 v221 v222 v223 v224 v225 v226 v227 v228 v229 v230 v231 v232 v233 v234 v235 v236 v237 v238 v239 v240 v241 v242 v243 v244 v245 v246 v247 v248 v249 v250 v251 v252 v253 v254 v255 v256 v257 v258 v259 v260 v261 v262 v263 v264 v265 v266 v267 v268 v269 v270 v271 v272 v273 v274 : Value), W.heap.size ≤ W'.heap.size → Ks W' C → (∃ st, Wh s W' B [] st ∧ Re st) → ((rtC (rtC (rtC (rtC (rtC (rtC (rtC (rtC (rtC (rtC (rtC (rtC (Option.getD Tryd.f7.body Code.skip)))))))))))))).wpIn Fence.wide 3 Tryd.prog R { tmps := #[v0, v1, v2, v3, .pointer (some ⟨b, 0, none⟩), .pointer (some ⟨b + 1, 0, none⟩), .pointer (some ⟨b + 1 + 1, 0, none⟩), .pointer (some ⟨Bw, 0, none⟩), v8, v9, v10, .pointer (some ⟨bk, 0, none⟩), .pointer (some ⟨bn, 0, none⟩), .pointer (some ⟨B1, 0, none⟩), .pointer (some ⟨B2, 0, none⟩), .pointer (some ⟨B3, 0, none⟩), .pointer (some ⟨Ba, 0, none⟩), v17, v18, v19, v20, v21, v22, v23, v24, v25, v26, v27, v28, v29, v30, v31, v32, v33, v34, v35, v36, v37, v38, v39, v40, v41, v42, v43, v44, v45, v46, v47, v48, v49, v50, v51, v52, v53, v54, v55, v56, v57, v58, v59, v60, v61, v62, v63, v64, v65, v66, v67, v68, v69, v70, v71, v72, v73, v74, v75, v76, v77, v78, v79, v80, v81, v82, v83, v84, v85, v86, v87, v88, v89, v90, v91, v92, v93, v94, v95, v96, v97, v98, v99, v100, v101, v102, v103, v104, v105, v106, v107, v108, v109, v110, v111, v112, v113, v114, v115, v116, v117, v118, v119, v120, v121, v122, v123, v124, v125, v126, v127, v128, v129, v130, v131, v132, v133, v134, v135, v136, v137, v138, v139, v140, v141, v142, v143, v144, v145, v146, v147, v148, v149, v150, v151, v152, v153, v154, v155, v156, v157, v158, v159, v160, v161, v162, v163, v164, v165, v166, v167, v168, v169, v170, v171, v172, v173, v174, v175, v176, v177, v178, v179, v180, v181, v182, v183, v184, v185, v186, v187, v188, v189, v190, v191, v192, v193, v194, v195, v196, v197, v198, v199, v200, v201, v202, v203, v204, v205, v206, v207, v208, v209, v210, v211, v212, v213, v214, v215, v216, v217, v218, v219, v220, v221, v222, v223, v224, v225, v226, v227, v228, v229, v230, v231, v232, v233, v234, v235, v236, v237, v238, v239, v240, v241, v242, v243, v244, v245, v246, v247, v248, v249, v250, v251, v252, v253, v254, v255, v256, v257, v258, v259, v260, v261, v262, v263, v264, v265, v266, v267, v268, v269, v270, v271, v272, v273, v274], defers := ds } W') :
    ((rtC (rtC (rtC (rtC (rtC (rtC (rtC (rtC (rtC (rtC (rtC (Option.getD Tryd.f7.body Code.skip))))))))))))).wpIn Fence.wide 3 Tryd.prog R { tmps := #[u0, u1, u2, u3, .pointer (some ⟨b, 0, none⟩), .pointer (some ⟨b + 1, 0, none⟩), .pointer (some ⟨b + 1 + 1, 0, none⟩), .pointer (some ⟨Bw, 0, none⟩), u8, u9, u10, .pointer (some ⟨bk, 0, none⟩), .pointer (some ⟨bn, 0, none⟩), .pointer (some ⟨B1, 0, none⟩), .pointer (some ⟨B2, 0, none⟩), .pointer (some ⟨B3, 0, none⟩), .pointer (some ⟨Ba, 0, none⟩), u17, u18, u19, u20, u21, u22, u23, u24, u25, u26, u27, u28, u29, u30, u31, u32, u33, u34, u35, u36, u37, u38, u39, u40, u41, u42, u43, u44, u45, u46, u47, u48, u49, u50, u51, u52, u53, u54, u55, u56, u57, u58, u59, u60, u61, u62, u63, u64, u65, u66, u67, u68, u69, u70, u71, u72, u73, u74, u75, u76, u77, u78, u79, u80, u81, u82, u83, u84, u85, u86, u87, u88, u89, u90, u91, u92, u93, u94, u95, u96, u97, u98, u99, u100, u101, u102, u103, u104, u105, u106, u107, u108, u109, u110, u111, u112, u113, u114, u115, u116, u117, u118, u119, u120, u121, u122, u123, u124, u125, u126, u127, u128, u129, u130, u131, u132, u133, u134, u135, u136, u137, u138, u139, u140, u141, u142, u143, u144, u145, u146, u147, u148, u149, u150, u151, u152, u153, u154, u155, u156, u157, u158, u159, u160, u161, u162, u163, u164, u165, u166, u167, u168, u169, u170, u171, u172, u173, u174, u175, u176, u177, u178, u179, u180, u181, u182, u183, u184, u185, u186, u187, u188, u189, u190, u191, u192, u193, u194, u195, u196, u197, u198, u199, u200, u201, u202, u203, u204, u205, u206, u207, u208, u209, u210, u211, u212, u213, u214, u215, u216, u217, u218, u219, u220, u221, u222, u223, u224, u225, u226, u227, u228, u229, u230, u231, u232, u233, u234, u235, u236, u237, u238, u239, u240, u241, u242, u243, u244, u245, u246, u247, u248, u249, u250, u251, u252, u253, u254, u255, u256, u257, u258, u259, u260, u261, u262, u263, u264, u265, u266, u267, u268, u269, u270, u271, u272, u273, u274], defers := ds } W := by
  rw [sf11]
  generalize hT : (rtC (rtC (rtC (rtC (rtC (rtC (rtC (rtC (rtC (rtC (rtC (rtC (Option.getD Tryd.f7.body Code.skip))))))))))))) = T at *
  clear hT
  simp only [hdC, rtC, Option.getD, Tryd.f7]
  have NX := hid nx
  have G := hid g
  have l2 := gd.1
  unfold maxLen at l2
  rw [← it.1] at l2
  have IT := hid it
  have GD := hid gd
  have HC := hid hC
  have TS := hid ts
  have LO := hid lo
  have H0 : Hid ((∃ k : Nat, k ≤ n2 ∧ Boxed W Ba 3 (.int .i64 (k : Int))) ∧ Ks W C ∧ (∃ st, Wh s W B [] st ∧ Re st) ∧ W.heap.size ≤ W.heap.size) := hid ⟨xa, ks, wh, Nat.le_refl _⟩
  clear nx g it gd ks wh xa ts lo hC
  gi_wp2_with fail
  gi_loopw [] (fun wr => Hid ((∃ k : Nat, k ≤ n2 ∧ Boxed wr Ba 3 (.int .i64 (k : Int))) ∧ Ks wr C ∧ (∃ st, Wh s wr B [] st ∧ Re st) ∧ W.heap.size ≤ wr.heap.size)) (fun wr => n2 - (intOf ((wr.cell? ⟨Ba, 0, none⟩).getD undef)).toNat)
  case atStart => exact H0
  case round =>
    clear H0
    obtain ⟨⟨ka, hka, hab⟩, hks, ⟨st, hWs, hRs⟩, hsz0⟩ := hrel.out
    have hac := hab.cell
    have haf := hab.frozen
    have hbc := (show Boxed wr b 22 (.slice a2 n2 k2) from hks.has _ G.out.cb).cell
    have hwc := (show Boxed wr Bw 24 (.pointer (some ⟨B, 0, none⟩)) from hks.has _ G.out.cw).cell
    by_cases hka2 : ka < n2
    · have hkl : ka < s2.length := by rw [← IT.out.1]; exact hka2
      rcases IT.out.2 with h0 | ⟨q, off, ea, hbl, hcc⟩
      · omega
      subst ea
      obtain ⟨z0, z1, z2, z3, z4⟩ := hcc ka hkl
      have BL := LO.out.trans (hWs.base.mono LO.out.size)
      rw [← BL.cell (p := ⟨q, off + ka * 5, none⟩) hbl] at z0
      rw [← BL.cell (p := ⟨q, off + ka * 5 + 1, none⟩) hbl] at z1
      rw [← BL.cell (p := ⟨q, off + ka * 5 + 2, none⟩) hbl] at z2
      rw [← BL.cell (p := ⟨q, off + ka * 5 + 3, none⟩) hbl] at z3
      rw [← BL.cell (p := ⟨q, off + ka * 5 + 4, none⟩) hbl] at z4
      have hsz := GD.out.2 _ (List.getElem_mem hkl)
      generalize s2[ka].k = kk at *
      generalize s2[ka].a = oa at *
      generalize s2[ka].t = ot at *
      generalize s2[ka].s = os at *
      generalize s2[ka].v = ov at *
      have e1 : ((ka + 1 : Nat) : Int) = (ka : Int) + 1 := by omega
      have al := (Below.refl wr.heap.size wr).alloc (Nat.le_refl _) (.cells #[.int .i64 kk, .int .i64 1, .int .i64 ot, .string os, .int .i64 ov] 28)
      have A1 := hid (hks.low al)
      have A2 := hid (hWs.low al)
      have A3 := hid (boxed_below hab al)
      have A4 := hid hRs
      have F1 := ks_at (.int .i64 ((ka : Int) + 1)) hks hWs hab HC.out hs
      have al2 := (Below.refl (wr.setCell ⟨Ba, 0, none⟩ (.int .i64 ((ka : Int) + 1))).heap.size (wr.setCell ⟨Ba, 0, none⟩ (.int .i64 ((ka : Int) + 1)))).alloc (Nat.le_refl _) (.cells #[.int .i64 kk, .int .i64 1, .int .i64 ot, .string os, .int .i64 ov] 28)
      have E0 := hid (And.intro (F1.1.low al2) (And.intro (F1.2.1.low al2) (boxed_below F1.2.2 al2)))
      have hms : n2 - (intOf ((wr.cell? ⟨Ba, 0, none⟩).getD undef)).toNat = n2 - ka := by rw [hac]; simp [intOf]
      have HMS := hid hms
      have hbaw := hab.lt
      have hbww := hks.lt _ G.out.cw
      have hss := al.size
      clear hcc hkl BL hWs hRs al hab hms hrel hks F1 al2
      by_cases h2 : (2 : Int) ≤ kk
      · by_cases h4 : kk ≤ (4 : Int)
        · have CS := hid (step_fr A2.out A4.out TS.out kk 1 ot ov os hsz)
          clear hsz
          gi_wp2_with fail
          refine ⟨trivial, ?_⟩
          gi_at_call 11
          refine (callsIn_wide.2 CS.out).mono ?_
          rintro e w5 ⟨rfl, st', hA, hB, hX⟩
          have D1 := A1.out.step A2.out hX
          have D2 := boxed_bx A3.out hX (A2.out.not_ok A3.out (OkO.cells (by decide)))
          have D3 := ks_at (.int .i64 ((ka : Int) + 1)) D1 hA D2 HC.out hs
          have hac5 := D2.cell
          have haf5 := D2.frozen
          have hs5 := hX.size
          have E1 := hid D3
          have E2 := hid hB
          clear D1 D2 D3 hA hB hX
          dsimp only
          gi_wp2_with fail
          refine ⟨hid ⟨⟨ka + 1, by omega, by rw [e1]; exact E1.out.2.2⟩, E1.out.1, ⟨st', E1.out.2.1, E2.out⟩, by simp; omega⟩, ?_⟩
          rw [HMS.out, E1.out.2.2.cell]
          simp [intOf]
          omega
        · clear hsz
          have hac5 := A3.out.cell
          have haf5 := A3.out.frozen
          gi_wp2_with fail
          refine ⟨trivial, ?_⟩
          gi_wp2_with fail
          refine ⟨hid ⟨⟨ka + 1, by omega, by rw [e1]; exact E0.out.2.2⟩, E0.out.1, ⟨st, E0.out.2.1, A4.out⟩, by simp; omega⟩, ?_⟩
          rw [HMS.out, E0.out.2.2.cell]
          simp [intOf]
          omega
      · clear hsz
        have hac5 := A3.out.cell
        have haf5 := A3.out.frozen
        gi_wp2_with fail
        refine ⟨trivial, ?_⟩
        gi_wp2_with fail
        refine ⟨hid ⟨⟨ka + 1, by omega, by rw [e1]; exact E0.out.2.2⟩, E0.out.1, ⟨st, E0.out.2.1, A4.out⟩, by simp; omega⟩, ?_⟩
        rw [HMS.out, E0.out.2.2.cell]
        simp [intOf]
        omega
    · have E1 := hid hks
      have E2 : Hid (∃ st, Wh s wr B [] st ∧ Re st) := hid ⟨st, hWs, hRs⟩
      clear hks hWs hRs hrel
      gi_wp2_with fail
      exact NX.out wr _ _ _ _ _ _ _ _ _ _ _ _ _ _ _ _ _ _ _ _ _ _ _ _ _ _ _ _ _ _ _ _ _ _ _ _ _ _ _ _ _ _ _ _ _ _ _ _ _ _ _ _ _ _ _ _ _ _ _ _ _ _ _ _ _ _ _ _ _ _ _ _ _ _ _ _ _ _ _ _ _ _ _ _ _ _ _ _ _ _ _ _ _ _ _ _ _ _ _ _ _ _ _ _ _ _ _ _ _ _ _ _ _ _ _ _ _ _ _ _ _ _ _ _ _ _ _ _ _ _ _ _ _ _ _ _ _ _ _ _ _ _ _ _ _ _ _ _ _ _ _ _ _ _ _ _ _ _ _ _ _ _ _ _ _ _ _ _ _ _ _ _ _ _ _ _ _ _ _ _ _ _ _ _ _ _ _ _ _ _ _ _ _ _ _ _ _ _ _ _ _ _ _ _ _ _ _ _ _ _ _ _ _ _ _ _ _ _ _ _ _ _ _ _ _ _ _ _ _ _ _ _ _ _ _ _ _ _ _ _ _ _ _ _ _ _ _ _ _ _ _ _ _ _ _ _ _ _ _ _ _ _ _ _ _ hsz0 E1.out E2.out
end Go.Proofs.YtdhjoimiejdgbaaDoor.L
