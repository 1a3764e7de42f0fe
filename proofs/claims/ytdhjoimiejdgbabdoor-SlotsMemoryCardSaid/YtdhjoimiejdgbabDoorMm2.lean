import Derived.Test.YtdhjoimiejdgbabDoorMgP
namespace Go.Proofs.YtdhjoimiejdgbabDoor.L
open Go.RowKit Bs Go.Maps Go.Shelf
set_option linter.unusedVariables false
attribute [local go_sem] Oper.semAt_some
set_option maxHeartbeats 8000000 in
set_option maxRecDepth 100000 in
theorem sm_b (R : Exit → Act → World → Prop) (W : World) (B i M : Nat) (r : Nat → Value) (lv : Value) (T1 : List ByteArray) (u0 u1 u2 u4 u5 u6 u10 u11 u12 u13 u14 u15 u16 u17 u18 u19 u20 u21 u22 u23 u24 u25 u26 u27 u28 u29 u30 u31 u32 u33 u34 u35 u36 u37 u38 u39 u40 u41 u42 u43 u45 u46 u47 u48 u49 u50 u51 u52 u53 u54 u55 u56 u57 u58 u59 u60 u61 u62 u63 u64 u65 u66 u67 u68 u69 u70 u71 u72 u73 u74 u75 u76 u77 u78 u79 u80 u81 u82 u83 u84 u85 u86 u87 u88 u89 u90 u91 u92 u93 u94 u95 u96 u97 u98 u99 u100 u101 u102 u103 u104 u105 u106 u107 u108 u109 u110 u111 u112 u113 u114 u115 u116 u117 u118 u119 u120 u121 u122 u123 u124 u125 u126 u127 u128 u129 u130 u131 u132 u133 u134 u135 u136 u137 u138 u139 u140 u141 u142 u143 u144 u145 u146 u147 u148 u149 u150 u151 u152 u153 u154 u155 u156 u157 u158 u159 u160 u161 u162 u163 u164 u165 u166 u167 u168 u169 u170 u171 u172 u173 u174 u175 u176 u177 u178 u179 u180 u181 u182 u183 u184 u185 u186 u187 u188 : Value)
    (hF : Fm W M 19 r (fun _ => T1)) (hrow : W.ownsRow M 22 1 lv 18 (rowC r 18)) (hT1 : T1.length ≤ 65536)
    (nx : ∀ (W' : World) (v2 v10 v11 v13 v14 v15 v16 v17 v18 v19 v20 v21 v22 v23 v24 v45 v46 v47 v48 v49 v50 v51 v52 v53 v54 v55 v56 v57 v58 v59 v60 v61 v62 v63 v64 v65 v66 v67 v68 v69 v70 v71 v72 v73 v74 v75 v76 v77 v78 v79 v80 v81 v82 v83 v84 v85 v86 v87 v88 v89 v90 v91 v92 v93 v94 v95 v96 v97 v98 v99 v100 v101 v102 v103 v104 v105 v106 v107 v108 v109 v110 v111 v112 v113 v114 v115 v116 v117 v118 v119 v120 v121 v122 v123 v124 v125 v126 v127 v128 v129 v130 v131 v132 v133 v134 v135 v136 v137 v138 v139 v140 v141 v142 v143 v144 v145 v146 v147 v148 v149 v150 v151 v152 v153 v154 v155 v156 v157 v158 v159 v160 v161 v162 v163 v164 v165 v166 v167 v168 v169 v170 v171 v172 v173 v174 v175 v176 v177 v178 v179 v180 v181 v182 v183 v184 v185 v186 v187 v188 : Value), Below W.heap.size W W' → ((rtC (rtC (rtC (rtC (rtC (bdC (hdC (rtC (rtC (bdC (bdC (rtC (hdC (rtC (rtC (rtC (rtC (rtC (Option.getD Tryd.f4.body Code.skip)))))))))))))))))))).wp Tryd.prog R { tmps := #[u0, u1, v2, .pointer (some ⟨B, 0, none⟩), u4, u5, u6, .int .i64 (i : Int), r 0, lv, v10, v11, u12, v13, v14, v15, v16, v17, v18, v19, v20, v21, v22, v23, v24, u25, u26, u27, u28, u29, u30, u31, u32, u33, u34, u35, u36, u37, u38, u39, u40, u41, u42, u43, .int .i64 (i : Int), v45, v46, v47, v48, v49, v50, v51, v52, v53, v54, v55, v56, v57, v58, v59, v60, v61, v62, v63, v64, v65, v66, v67, v68, v69, v70, v71, v72, v73, v74, v75, v76, v77, v78, v79, v80, v81, v82, v83, v84, v85, v86, v87, v88, v89, v90, v91, v92, v93, v94, v95, v96, v97, v98, v99, v100, v101, v102, v103, v104, v105, v106, v107, v108, v109, v110, v111, v112, v113, v114, v115, v116, v117, v118, v119, v120, v121, v122, v123, v124, v125, v126, v127, v128, v129, v130, v131, v132, v133, v134, v135, v136, v137, v138, v139, v140, v141, v142, v143, v144, v145, v146, v147, v148, v149, v150, v151, v152, v153, v154, v155, v156, v157, v158, v159, v160, v161, v162, v163, v164, v165, v166, v167, v168, v169, v170, v171, v172, v173, v174, v175, v176, v177, v178, v179, v180, v181, v182, v183, v184, v185, v186, v187, v188], defers := [] } W') :
    ((rtC (rtC (rtC (rtC (bdC (hdC (rtC (rtC (bdC (bdC (rtC (hdC (rtC (rtC (rtC (rtC (rtC (Option.getD Tryd.f4.body Code.skip))))))))))))))))))).wp Tryd.prog R { tmps := #[u0, u1, u2, .pointer (some ⟨B, 0, none⟩), u4, u5, u6, .int .i64 (i : Int), r 0, lv, u10, u11, u12, u13, u14, u15, u16, u17, u18, u19, u20, u21, u22, u23, u24, u25, u26, u27, u28, u29, u30, u31, u32, u33, u34, u35, u36, u37, u38, u39, u40, u41, u42, u43, .int .i64 (i : Int), u45, u46, u47, u48, u49, u50, u51, u52, u53, u54, u55, u56, u57, u58, u59, u60, u61, u62, u63, u64, u65, u66, u67, u68, u69, u70, u71, u72, u73, u74, u75, u76, u77, u78, u79, u80, u81, u82, u83, u84, u85, u86, u87, u88, u89, u90, u91, u92, u93, u94, u95, u96, u97, u98, u99, u100, u101, u102, u103, u104, u105, u106, u107, u108, u109, u110, u111, u112, u113, u114, u115, u116, u117, u118, u119, u120, u121, u122, u123, u124, u125, u126, u127, u128, u129, u130, u131, u132, u133, u134, u135, u136, u137, u138, u139, u140, u141, u142, u143, u144, u145, u146, u147, u148, u149, u150, u151, u152, u153, u154, u155, u156, u157, u158, u159, u160, u161, u162, u163, u164, u165, u166, u167, u168, u169, u170, u171, u172, u173, u174, u175, u176, u177, u178, u179, u180, u181, u182, u183, u184, u185, u186, u187, u188], defers := [] } W := by
  rw [bm4]
  generalize hT : (rtC (rtC (rtC (rtC (rtC (bdC (hdC (rtC (rtC (bdC (bdC (rtC (hdC (rtC (rtC (rtC (rtC (rtC (Option.getD Tryd.f4.body Code.skip))))))))))))))))))) = T at *
  clear hT
  simp only [hdC, rtC, bdC, Option.getD, Tryd.f4]
  obtain ⟨g, cap, e1⟩ := own_some hrow (by omega)
  have hcell : ∀ k, k < 18 → W.cell? ⟨g, k, none⟩ = some (r (k + 1)) := fun k hk => by
    rw [e1] at hrow
    have := hrow.cells (g := g) rfl k _ (rowC_at r hk)
    rwa [Go.WideShapes.add_plain, Nat.zero_add] at this
  have hgl : g < W.heap.size := (hrow.lt g (by rw [e1]; rfl)).2
  subst e1
  obtain ⟨a0, c0, e0⟩ := own_len (hF.own 0 (by omega))
  have NX := hid nx
  have HF := hid hF
  have HC := hid hcell
  have HR0 := hid e0
  rw [e0] at NX ⊢
  clear nx hF hcell hrow e0
  go_wp2_with fail
  go_loopw [75] (fun k wr => ∃ n : Nat, n ≤ 18 ∧ k = .int .i64 (n : Int) ∧ Hid (Below W.heap.size W wr)) (fun k _ => 18 - (intOf k).toNat)
  case atStart => exact ⟨0, by omega, rfl, hid (Below.refl _ _)⟩
  case round =>
    obtain ⟨n, hn, rfl, HX⟩ := hrel
    by_cases hlt : n < 18
    · have hltI : (n : Int) < 18 := by omega
      have hc := (HX.out.cell (p := ⟨g, n, none⟩) hgl).trans (HC.out n hlt)
      obtain ⟨a1, c1, e1⟩ := own_len (HF.out.own (n + 1) (by omega))
      have O1 := HF.out.own (n + 1) (by omega)
      have O0 := HF.out.own 0 (by omega)
      rw [e1] at hc O1
      rw [HR0.out] at O0
      have TX := hid (texts_same a1 a0 c1 c0 T1 wr hT1 (items_of (own_low O1 HX.out)) (items_of (own_low O0 HX.out)))
      clear O1 O0 e1
      go_wp2_with (first
        | (go_at_call 11; refine TX.out.mono ?_; rintro e w3 ⟨rfl, nd, hw3⟩; have hb3 : Below wr.heap.size wr w3 := (by rw [hw3]; exact belowD _ _); have L3 := hid (HX.out.trans (hb3.mono HX.out.size)); clear hw3 hb3))
      exact ⟨⟨n + 1, by omega, by go_num, L3⟩, by simp [intOf]; omega⟩
    · obtain rfl : n = 18 := by omega
      go_wp2_with fail
      exact NX.out wr _ _ _ _ _ _ _ _ _ _ _ _ _ _ _ _ _ _ _ _ _ _ _ _ _ _ _ _ _ _ _ _ _ _ _ _ _ _ _ _ _ _ _ _ _ _ _ _ _ _ _ _ _ _ _ _ _ _ _ _ _ _ _ _ _ _ _ _ _ _ _ _ _ _ _ _ _ _ _ _ _ _ _ _ _ _ _ _ _ _ _ _ _ _ _ _ _ _ _ _ _ _ _ _ _ _ _ _ _ _ _ _ _ _ _ _ _ _ _ _ _ _ _ _ _ _ _ _ _ _ _ _ _ _ _ _ _ _ _ _ _ _ _ _ _ _ _ _ _ _ _ _ _ _ _ _ _ _ _ HX.out
end Go.Proofs.YtdhjoimiejdgbabDoor.L
