import Derived.Test.YtdhjoimiejdgbabDoorMgP
namespace Go.Proofs.YtdhjoimiejdgbabDoor.L
open Go.RowKit Bs Go.Maps Go.Shelf
set_option linter.unusedVariables false
attribute [local go_sem] Oper.semAt_some
set_option maxHeartbeats 8000000 in
set_option maxRecDepth 100000 in
theorem sm_f (R : Exit → Act → World → Prop) (s W : World) (B i : Nat) (st : Nat → St) (r : Nat → Value) (lv gv : Value) (u0 u1 u2 u4 u5 u6 u10 u11 u12 u13 u14 u15 u16 u18 u19 u20 u21 u22 u23 u24 u25 u26 u27 u28 u29 u30 u31 u32 u33 u34 u35 u36 u37 u38 u39 u40 u41 u42 u43 u45 u46 u47 u48 u49 u50 u51 u52 u53 u54 u55 u56 u57 u58 u59 u60 u61 u62 u63 u64 u65 u66 u67 u68 u69 u70 u71 u72 u73 u74 u75 u76 u77 u78 u79 u80 u81 u82 u83 u84 u85 u86 u87 u88 u89 u90 u91 u92 u93 u94 u95 u96 u97 u98 u99 u100 u101 u102 u103 u104 u105 u106 u107 u108 u109 u110 u111 u112 u113 u114 u115 u116 u117 u118 u119 u120 u121 u122 u123 u124 u125 u126 u127 u128 u129 u130 u131 u132 u133 u134 u135 u136 u137 u138 u139 u140 u141 u142 u143 u144 u145 u146 u147 u148 u149 u150 u151 u152 u153 u154 u155 u156 u157 u158 u159 u160 u161 u162 u163 u164 u165 u166 u167 u168 u169 u170 u171 u172 u173 u174 u175 u176 u177 u178 u179 u180 u181 u182 u183 u184 u185 u186 u187 u188 : Value)
    (hW : Wh s W B [] st) (hR : Re st) (hi : i < 4)
    (nx : ∀ (W' : World) (v2 v10 v11 v13 v14 v15 v16 v18 v19 v20 v21 v22 v23 v24 v45 v46 v47 v48 v49 v50 v51 v52 v53 v54 v55 v56 v57 v58 v59 v60 v61 v62 v63 v64 v65 v66 v67 v68 v69 v70 v71 v72 v73 v74 v75 v76 v77 v78 v79 v80 v81 v82 v83 v84 v85 v86 v87 v88 v89 v90 v91 v92 v93 v94 v95 v96 v97 v98 v99 v100 v101 v102 v103 v104 v105 v106 v107 v108 v109 v110 v111 v112 v113 v114 v115 v116 v117 v118 v119 v120 v121 v122 v123 v124 v125 v126 v127 v128 v129 v130 v131 v132 v133 v134 v135 v136 v137 v138 v139 v140 v141 v142 v143 v144 v145 v146 v147 v148 v149 v150 v151 v152 v153 v154 v155 v156 v157 v158 v159 v160 v161 v162 v163 v164 v165 v166 v167 v168 v169 v170 v171 v172 v173 v174 v175 v176 v177 v178 v179 v180 v181 v182 v183 v184 v185 v186 v187 v188 : Value), Below W.heap.size W W' → R .normal { tmps := #[u0, u1, v2, .pointer (some ⟨B, 0, none⟩), u4, u5, u6, .int .i64 (i : Int), r 0, lv, v10, v11, u12, v13, v14, v15, v16, gv, v18, v19, v20, v21, v22, v23, v24, u25, u26, u27, u28, u29, u30, u31, u32, u33, u34, u35, u36, u37, u38, u39, u40, u41, u42, u43, .int .i64 (i : Int), v45, v46, v47, v48, v49, v50, v51, v52, v53, v54, v55, v56, v57, v58, v59, v60, v61, v62, v63, v64, v65, v66, v67, v68, v69, v70, v71, v72, v73, v74, v75, v76, v77, v78, v79, v80, v81, v82, v83, v84, v85, v86, v87, v88, v89, v90, v91, v92, v93, v94, v95, v96, v97, v98, v99, v100, v101, v102, v103, v104, v105, v106, v107, v108, v109, v110, v111, v112, v113, v114, v115, v116, v117, v118, v119, v120, v121, v122, v123, v124, v125, v126, v127, v128, v129, v130, v131, v132, v133, v134, v135, v136, v137, v138, v139, v140, v141, v142, v143, v144, v145, v146, v147, v148, v149, v150, v151, v152, v153, v154, v155, v156, v157, v158, v159, v160, v161, v162, v163, v164, v165, v166, v167, v168, v169, v170, v171, v172, v173, v174, v175, v176, v177, v178, v179, v180, v181, v182, v183, v184, v185, v186, v187, v188], defers := [] } W') :
    ((rtC (rtC (rtC (rtC (rtC (rtC (rtC (rtC (rtC (bdC (hdC (rtC (rtC (bdC (bdC (rtC (hdC (rtC (rtC (rtC (rtC (rtC (Option.getD Tryd.f4.body Code.skip)))))))))))))))))))))))).wp Tryd.prog R { tmps := #[u0, u1, u2, .pointer (some ⟨B, 0, none⟩), u4, u5, u6, .int .i64 (i : Int), r 0, lv, u10, u11, u12, u13, u14, u15, u16, gv, u18, u19, u20, u21, u22, u23, u24, u25, u26, u27, u28, u29, u30, u31, u32, u33, u34, u35, u36, u37, u38, u39, u40, u41, u42, u43, .int .i64 (i : Int), u45, u46, u47, u48, u49, u50, u51, u52, u53, u54, u55, u56, u57, u58, u59, u60, u61, u62, u63, u64, u65, u66, u67, u68, u69, u70, u71, u72, u73, u74, u75, u76, u77, u78, u79, u80, u81, u82, u83, u84, u85, u86, u87, u88, u89, u90, u91, u92, u93, u94, u95, u96, u97, u98, u99, u100, u101, u102, u103, u104, u105, u106, u107, u108, u109, u110, u111, u112, u113, u114, u115, u116, u117, u118, u119, u120, u121, u122, u123, u124, u125, u126, u127, u128, u129, u130, u131, u132, u133, u134, u135, u136, u137, u138, u139, u140, u141, u142, u143, u144, u145, u146, u147, u148, u149, u150, u151, u152, u153, u154, u155, u156, u157, u158, u159, u160, u161, u162, u163, u164, u165, u166, u167, u168, u169, u170, u171, u172, u173, u174, u175, u176, u177, u178, u179, u180, u181, u182, u183, u184, u185, u186, u187, u188], defers := [] } W := by
  simp only [hdC, rtC, bdC, Option.getD, Tryd.f4]
  obtain ⟨bp, hb⟩ := (hW.tq i hi).form
  obtain ⟨va, vc, hv⟩ := own_len (hW.od i hi)
  obtain ⟨c0, c1, c2⟩ := hW.cells hi
  have SD : Sd W (.pointer bp) (st i).m (st i).l (st i).F (.slice va (st i).d.length vc) (st i).d := ⟨by rw [← hb]; exact hW.tq i hi, by rw [← hv]; exact hW.od i hi, (hR i hi).1⟩
  rw [hb] at c0
  rw [hv] at c2
  have hBlt := hW.lt
  have NX := hid nx
  clear nx hW hR hb hv
  generalize (st i).m = mm at *
  generalize (st i).l = ll at *
  generalize (st i).F = FF at *
  generalize (st i).mo = mo1 at *
  generalize (st i).d = dd at *
  obtain ⟨dl, hdl⟩ : ∃ n, n = dd.length := ⟨_, rfl⟩
  rw [← hdl] at c2 SD
  have SE : Hid (∀ Y, Hid (Below W.heap.size W Y) → Calls Tryd.prog 19 #[.pointer bp, .agg #[.int .i64 mo1, .slice va dl vc]] Y fun e w' => e = .returned (.bool true) ∧ Below Y.heap.size Y w') := hid (fun Y hY => seen_any (.pointer bp) mm ll FF mo1 va dl vc dd Y hdl (SD.low hY.out))
  have CC : Hid (∀ Y, Hid (Below W.heap.size W Y) → Hid (Below W.heap.size W Y) ∧ Y.cell? ⟨B, i, none⟩ = some (.pointer bp) ∧ Y.cell? ⟨B, 4 + i * 2, none⟩ = some (.int .i64 mo1) ∧ Y.cell? ⟨B, 4 + i * 2 + 1, none⟩ = some (.slice va dl vc)) := hid (fun Y hY => ⟨hY, (hY.out.cell (p := ⟨B, i, none⟩) hBlt).trans c0, (hY.out.cell (p := ⟨B, 4 + i * 2, none⟩) hBlt).trans c1, (hY.out.cell (p := ⟨B, 4 + i * 2 + 1, none⟩) hBlt).trans c2⟩)
  have B0 : Hid (Below W.heap.size W W) := hid (Below.refl _ _)
  have DR : Hid (Below W.heap.size W W.drew) := hid (Below.refl _ W).drew
  have hiI : (i : Int) < 4 := by omega
  clear hdl SD c0 c1 c2
  generalize hr0 : r 0 = v0 at *
  clear hr0
  go_wp2_with fail
  go_region_held3 (fun Y => Hid (Below W.heap.size W Y) ∧ Y.cell? ⟨B, i, none⟩ = some (.pointer bp) ∧ Y.cell? ⟨B, 4 + i * 2, none⟩ = some (.int .i64 mo1) ∧ Y.cell? ⟨B, 4 + i * 2 + 1, none⟩ = some (.slice va dl vc))
    (first | exact CC.out _ B0 | exact CC.out _ DR | exact CC.out _ S4)
    (first
      | (go_at_call 19; with_reducible refine (SE.out _ DR).mono ?_; rintro e w4 ⟨rfl, b4⟩; have S4 : Hid (Below W.heap.size W w4) := hid (DR.out.trans (b4.mono DR.out.size)); clear b4))
  go_wp2_with fail
  exact NX.out w4 _ _ _ _ _ _ _ _ _ _ _ _ _ _ _ _ _ _ _ _ _ _ _ _ _ _ _ _ _ _ _ _ _ _ _ _ _ _ _ _ _ _ _ _ _ _ _ _ _ _ _ _ _ _ _ _ _ _ _ _ _ _ _ _ _ _ _ _ _ _ _ _ _ _ _ _ _ _ _ _ _ _ _ _ _ _ _ _ _ _ _ _ _ _ _ _ _ _ _ _ _ _ _ _ _ _ _ _ _ _ _ _ _ _ _ _ _ _ _ _ _ _ _ _ _ _ _ _ _ _ _ _ _ _ _ _ _ _ _ _ _ _ _ _ _ _ _ _ _ _ _ _ _ _ _ _ _ _ S4.out
end Go.Proofs.YtdhjoimiejdgbabDoor.L
