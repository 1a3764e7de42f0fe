import Derived.Test.YtdhjoimiejdgbabDoorMst
namespace Go.Proofs.YtdhjoimiejdgbabDoor.L
open Go.RowKit Bs Go.Maps Go.Shelf
set_option linter.unusedVariables false
attribute [local go_sem] Oper.semAt_some
set_option maxHeartbeats 8000000 in
set_option maxRecDepth 100000 in
theorem sm_c (R : Exit → Act → World → Prop) (V W : World) (B i : Nat) (r : Nat → Value) (lv : Value) (T1 : List ByteArray) (u0 u1 u2 u4 u5 u6 u10 u11 u12 u13 u14 u15 u16 u17 u18 u19 u20 u21 u22 u23 u24 u25 u26 u27 u28 u29 u30 u31 u32 u33 u34 u35 u36 u37 u38 u39 u40 u41 u42 u43 u45 u46 u47 u48 u49 u50 u51 u52 u53 u54 u55 u56 u57 u58 u59 u60 u61 u62 u63 u64 u65 u66 u67 u68 u69 u70 u71 u72 u73 u74 u75 u76 u77 u78 u79 u80 u81 u82 u83 u84 u85 u86 u87 u88 u89 u90 u91 u92 u93 u94 u95 u96 u97 u98 u99 u100 u101 u102 u103 u104 u105 u106 u107 u108 u109 u110 u111 u112 u113 u114 u115 u116 u117 u118 u119 u120 u121 u122 u123 u124 u125 u126 u127 u128 u129 u130 u131 u132 u133 u134 u135 u136 u137 u138 u139 u140 u141 u142 u143 u144 u145 u146 u147 u148 u149 u150 u151 u152 u153 u154 u155 u156 u157 u158 u159 u160 u161 u162 u163 u164 u165 u166 u167 u168 u169 u170 u171 u172 u173 u174 u175 u176 u177 u178 u179 u180 u181 u182 u183 u184 u185 u186 u187 u188 : Value)
    (hF : Fm W V.heap.size 19 r (fun _ => T1)) (hrow : W.ownsRow V.heap.size 22 1 lv 18 (rowC r 18)) (hT1 : T1.length ≤ 65536) (hB : Below V.heap.size V W) (pw : Pw V)
    (nx : ∀ (W' : World) (v2 v10 v11 v13 v14 v15 v16 v17 v18 v19 v20 v21 v22 v23 v24 v45 v46 v47 v48 v49 v50 v51 v52 v53 v54 v55 v56 v57 v58 v59 v60 v61 v62 v63 v64 v65 v66 v67 v68 v69 v70 v71 v72 v73 v74 v75 v76 v77 v78 v79 v80 v81 v82 v83 v84 v85 v86 v87 v88 v89 v90 v91 v92 v93 v94 v95 v96 v97 v98 v99 v100 v101 v102 v103 v104 v105 v106 v107 v108 v109 v110 v111 v112 v113 v114 v115 v116 v117 v118 v119 v120 v121 v122 v123 v124 v125 v126 v127 v128 v129 v130 v131 v132 v133 v134 v135 v136 v137 v138 v139 v140 v141 v142 v143 v144 v145 v146 v147 v148 v149 v150 v151 v152 v153 v154 v155 v156 v157 v158 v159 v160 v161 v162 v163 v164 v165 v166 v167 v168 v169 v170 v171 v172 v173 v174 v175 v176 v177 v178 v179 v180 v181 v182 v183 v184 v185 v186 v187 v188 : Value), Below V.heap.size V W' → Fm W' V.heap.size 19 r (xsN T1 18) → W'.ownsRow V.heap.size 22 1 lv 18 (rowC r 18) → ((rtC (rtC (rtC (rtC (rtC (rtC (bdC (hdC (rtC (rtC (bdC (bdC (rtC (hdC (rtC (rtC (rtC (rtC (rtC (Option.getD Tryd.f4.body Code.skip))))))))))))))))))))).wp Tryd.prog R { tmps := #[u0, u1, v2, .pointer (some ⟨B, 0, none⟩), u4, u5, u6, .int .i64 (i : Int), r 0, lv, v10, v11, u12, v13, v14, v15, v16, v17, v18, v19, v20, v21, v22, v23, v24, u25, u26, u27, u28, u29, u30, u31, u32, u33, u34, u35, u36, u37, u38, u39, u40, u41, u42, u43, .int .i64 (i : Int), v45, v46, v47, v48, v49, v50, v51, v52, v53, v54, v55, v56, v57, v58, v59, v60, v61, v62, v63, v64, v65, v66, v67, v68, v69, v70, v71, v72, v73, v74, v75, v76, v77, v78, v79, v80, v81, v82, v83, v84, v85, v86, v87, v88, v89, v90, v91, v92, v93, v94, v95, v96, v97, v98, v99, v100, v101, v102, v103, v104, v105, v106, v107, v108, v109, v110, v111, v112, v113, v114, v115, v116, v117, v118, v119, v120, v121, v122, v123, v124, v125, v126, v127, v128, v129, v130, v131, v132, v133, v134, v135, v136, v137, v138, v139, v140, v141, v142, v143, v144, v145, v146, v147, v148, v149, v150, v151, v152, v153, v154, v155, v156, v157, v158, v159, v160, v161, v162, v163, v164, v165, v166, v167, v168, v169, v170, v171, v172, v173, v174, v175, v176, v177, v178, v179, v180, v181, v182, v183, v184, v185, v186, v187, v188], defers := [] } W') :
    ((rtC (rtC (rtC (rtC (rtC (bdC (hdC (rtC (rtC (bdC (bdC (rtC (hdC (rtC (rtC (rtC (rtC (rtC (Option.getD Tryd.f4.body Code.skip)))))))))))))))))))).wp Tryd.prog R { tmps := #[u0, u1, u2, .pointer (some ⟨B, 0, none⟩), u4, u5, u6, .int .i64 (i : Int), r 0, lv, u10, u11, u12, u13, u14, u15, u16, u17, u18, u19, u20, u21, u22, u23, u24, u25, u26, u27, u28, u29, u30, u31, u32, u33, u34, u35, u36, u37, u38, u39, u40, u41, u42, u43, .int .i64 (i : Int), u45, u46, u47, u48, u49, u50, u51, u52, u53, u54, u55, u56, u57, u58, u59, u60, u61, u62, u63, u64, u65, u66, u67, u68, u69, u70, u71, u72, u73, u74, u75, u76, u77, u78, u79, u80, u81, u82, u83, u84, u85, u86, u87, u88, u89, u90, u91, u92, u93, u94, u95, u96, u97, u98, u99, u100, u101, u102, u103, u104, u105, u106, u107, u108, u109, u110, u111, u112, u113, u114, u115, u116, u117, u118, u119, u120, u121, u122, u123, u124, u125, u126, u127, u128, u129, u130, u131, u132, u133, u134, u135, u136, u137, u138, u139, u140, u141, u142, u143, u144, u145, u146, u147, u148, u149, u150, u151, u152, u153, u154, u155, u156, u157, u158, u159, u160, u161, u162, u163, u164, u165, u166, u167, u168, u169, u170, u171, u172, u173, u174, u175, u176, u177, u178, u179, u180, u181, u182, u183, u184, u185, u186, u187, u188], defers := [] } W := by
  rw [bm5]
  generalize hT : (rtC (rtC (rtC (rtC (rtC (rtC (bdC (hdC (rtC (rtC (bdC (bdC (rtC (hdC (rtC (rtC (rtC (rtC (rtC (Option.getD Tryd.f4.body Code.skip)))))))))))))))))))) = T at *
  clear hT
  simp only [hdC, rtC, bdC, Option.getD, Tryd.f4]
  obtain ⟨g, cap, e1⟩ := own_some hrow (by omega)
  subst e1
  have NX := hid nx
  have PW := hid pw
  have H0 : Hid (Below V.heap.size V W ∧ Fm W V.heap.size 19 r (xsN T1 0) ∧ W.ownsRow V.heap.size 22 1 (.slice (some ⟨g, 0, none⟩) 18 cap) 18 (rowC r 18)) := hid ⟨hB, by rw [xsN_zero]; exact hF, hrow⟩
  clear nx hF hrow hB pw
  generalize hr0 : r 0 = v0 at *
  clear hr0
  go_wp2_with fail
  go_loopw [86] (fun k wr => ∃ n : Nat, n ≤ 18 ∧ k = .int .i64 (n : Int) ∧ Hid (Below V.heap.size V wr ∧ Fm wr V.heap.size 19 r (xsN T1 n) ∧ wr.ownsRow V.heap.size 22 1 (.slice (some ⟨g, 0, none⟩) 18 cap) 18 (rowC r 18))) (fun k _ => 18 - (intOf k).toNat)
  case atStart => exact ⟨0, by omega, rfl, H0⟩
  case round =>
    clear H0
    obtain ⟨n, hn, rfl, HX⟩ := hrel
    by_cases hlt : n < 18
    · have hltI : (n : Int) < 18 := by omega
      have hc : wr.cell? ⟨g, n, none⟩ = some (r (n + 1)) := by
        have := HX.out.2.2.cells (g := g) rfl n _ (rowC_at r hlt)
        rwa [Go.WideShapes.add_plain, Nat.zero_add] at this
      have O1 := HX.out.2.1.own (n + 1) (by omega)
      rw [xsN_at] at O1
      obtain ⟨a1, c1, e1⟩ := own_len O1
      rw [e1] at hc
      have HE1 := hid e1
      have IT1 := hid (fun Y (hp : Pw Y) => itoa_any (n : Int) (by omega) (by omega) Y hp)
      have ts1 : (tx (n : Int)).size ≤ 16 := by rw [tx_size]; exact (itoa_form (n : Int) (by omega) (by omega)).1
      have J0 : Hid (Below V.heap.size V wr ∧ Fm wr V.heap.size 19 r (upN (xsN T1 n) (n + 1) (mix n 0 T1)) ∧ wr.ownsRow V.heap.size 22 1 (.slice (some ⟨g, 0, none⟩) 18 cap) 18 (rowC r 18)) := hid ⟨HX.out.1, by
        rw [mix_zero, show upN (xsN T1 n) (n + 1) T1 = xsN T1 n from funext fun k => by
          by_cases e : k = n + 1
          · subst e; rw [upN_same, xsN_at]
          · rw [upN_other _ _ e]]
        exact HX.out.2.1, HX.out.2.2⟩
      clear HX O1 e1
      go_wp2_with fail
      go_loopw [93] (fun k wr => ∃ j : Nat, j ≤ T1.length ∧ k = .int .i64 (j : Int) ∧ Hid (Below V.heap.size V wr ∧ Fm wr V.heap.size 19 r (upN (xsN T1 n) (n + 1) (mix n j T1)) ∧ wr.ownsRow V.heap.size 22 1 (.slice (some ⟨g, 0, none⟩) 18 cap) 18 (rowC r 18))) (fun k _ => T1.length - (intOf k).toNat)
      case atStart => exact ⟨0, by omega, rfl, J0⟩
      case round =>
        clear J0
        obtain ⟨j, hj, rfl, HY⟩ := hrel
        by_cases hjl : j < T1.length
        · have hjI : (j : Int) < (T1.length : Int) := by omega
          have O2 := HY.out.2.1.own (n + 1) (by omega)
          rw [upN_same, HE1.out] at O2
          obtain ⟨g2, cap2, e2⟩ := own_some O2 (by rw [mix_len _ _ _ hj]; omega)
          injection e2 with e2 e3 e4
          subst e2
          have IT2 := hid (fun Y (hp : Pw Y) => itoa_any (j : Int) (by omega) (by omega) Y hp)
          have ts2 : (tx (j : Int)).size ≤ 16 := by rw [tx_size]; exact (itoa_form (j : Int) (by omega) (by omega)).1
          have hg2 := O2.lt g2 rfl
          have DONE : Hid (∀ Y, Below wr.heap.size wr Y → Y.cell? ⟨g2, j, none⟩ ≠ none ∧ Y.frozen? ⟨g2, j, none⟩ = false ∧ (Below V.heap.size V (Y.setCell ⟨g2, j, none⟩ (.string (mk2 n j))) ∧ Fm (Y.setCell ⟨g2, j, none⟩ (.string (mk2 n j))) V.heap.size 19 r (upN (xsN T1 n) (n + 1) (mix n (j + 1) T1)) ∧ (Y.setCell ⟨g2, j, none⟩ (.string (mk2 n j))).ownsRow V.heap.size 22 1 (.slice (some ⟨g, 0, none⟩) 18 cap) 18 (rowC r 18))) := hid (fun Y hY => by
            have F := HY.out.2.1.low hY
            have O := own_low O2 hY
            refine ⟨fun c => ?_, ?_, below_set1 (HY.out.1.trans (hY.mono HY.out.1.size)) _ _ _ hg2.1, ?_, ownsRow_setCell_other (own_low HY.out.2.2 hY) (fun c => own_ne O (own_low HY.out.2.2 hY) (by decide) (g := g2) rfl c) _⟩
            · obtain ⟨u, hu⟩ : ∃ u, ((mix n j T1).map Value.string)[j]? = some u := ⟨_, List.getElem?_eq_getElem (by rw [List.length_map, mix_len _ _ _ hj]; exact hjl)⟩
              have := O.cells (g := g2) rfl j _ hu
              rw [Go.WideShapes.add_plain, Nat.zero_add] at this
              rw [this] at c
              cases c
            · obtain ⟨_, cur, hh⟩ := own_kind O (g := g2) rfl
              exact frozen_of_row Y g2 j _ _ hh
            · have := F.set (k := n + 1) (j := j) (by omega) HE1.out (mk2 n j)
              rw [upN_same, mix_set n j T1 hjl] at this
              rw [show upN (xsN T1 n) (n + 1) (mix n (j + 1) T1) = upN (upN (xsN T1 n) (n + 1) (mix n j T1)) (n + 1) (mix n (j + 1) T1) from funext fun k => by
                by_cases e : k = n + 1
                · subst e; rw [upN_same, upN_same]
                · rw [upN_other _ _ e, upN_other _ _ e, upN_other _ _ e]]
              exact this)
          have LB := hid HY.out.1
          have MK : Hid (mk2 n j = ((⟨#[126]⟩ ++ tx (n : Int)) ++ ⟨#[126]⟩) ++ tx (j : Int)) := hid rfl
          rw [MK.out] at DONE
          clear HY O2 MK e3 e4
          generalize tx (n : Int) = t1 at *
          generalize tx (j : Int) = t2 at *
          go_wp2_with fail
          refine (IT1.out _ (PW.out.low LB.out)).mono ?_
          rintro e w4 ⟨rfl, b4⟩
          have L4 := hid b4
          have B4 := hid (LB.out.trans (b4.mono LB.out.size))
          clear b4
          go_wp2_with fail
          refine (IT2.out _ (PW.out.low B4.out)).mono ?_
          rintro e w5 ⟨rfl, b5⟩
          obtain ⟨d1, d2, d3⟩ := DONE.out w5 (L4.out.trans (b5.mono L4.out.size))
          obtain ⟨u, hu⟩ := Option.ne_none_iff_exists'.1 d1
          have D3 := hid d3
          clear b5 d1 d3 DONE
          go_wp2_with fail
          exact ⟨⟨j + 1, by omega, by go_num, D3⟩, by simp [intOf]; omega⟩
        · have hjn : j = T1.length := by omega
          have D3 : Hid (Below V.heap.size V wr ∧ Fm wr V.heap.size 19 r (xsN T1 (n + 1)) ∧ wr.ownsRow V.heap.size 22 1 (.slice (some ⟨g, 0, none⟩) 18 cap) 18 (rowC r 18)) := hid ⟨HY.out.1, by
            have := HY.out.2.1
            rw [hjn, mix_all, xsN_succ] at this
            exact this, HY.out.2.2⟩
          have hjI : ¬ ((j : Int) < (T1.length : Int)) := by omega
          clear HY hjn
          go_wp2_with fail
          exact ⟨⟨n + 1, by omega, by go_num, D3⟩, by simp [intOf]; omega⟩
    · obtain rfl : n = 18 := by omega
      go_wp2_with fail
      exact NX.out wr _ _ _ _ _ _ _ _ _ _ _ _ _ _ _ _ _ _ _ _ _ _ _ _ _ _ _ _ _ _ _ _ _ _ _ _ _ _ _ _ _ _ _ _ _ _ _ _ _ _ _ _ _ _ _ _ _ _ _ _ _ _ _ _ _ _ _ _ _ _ _ _ _ _ _ _ _ _ _ _ _ _ _ _ _ _ _ _ _ _ _ _ _ _ _ _ _ _ _ _ _ _ _ _ _ _ _ _ _ _ _ _ _ _ _ _ _ _ _ _ _ _ _ _ _ _ _ _ _ _ _ _ _ _ _ _ _ _ _ _ _ _ _ _ _ _ _ _ _ _ _ _ _ _ _ _ _ _ _ HX.out.1 HX.out.2.1 HX.out.2.2
end Go.Proofs.YtdhjoimiejdgbabDoor.L
