import Derived.Test.YtdhjoimiejdgbabDoorMdm
namespace Go.Proofs.YtdhjoimiejdgbabDoor.L
open Go.RowKit Bs Go.Maps Go.Shelf
set_option linter.unusedVariables false
attribute [local go_sem] Oper.semAt_some
set_option maxHeartbeats 8000000 in
set_option maxRecDepth 100000 in
theorem sm_e (R : Exit → Act → World → Prop) (V W : World) (B i M2 : Nat) (r q : Nat → Value) (lv gv : Value) (T1 : List ByteArray) (u0 u1 u2 u4 u5 u6 u10 u11 u12 u13 u14 u15 u16 u18 u19 u20 u21 u22 u23 u24 u25 u26 u27 u28 u29 u30 u31 u32 u33 u34 u35 u36 u37 u38 u39 u40 u41 u42 u43 u45 u46 u47 u48 u49 u50 u51 u52 u53 u54 u55 u56 u57 u58 u59 u60 u61 u62 u63 u64 u65 u66 u67 u68 u69 u70 u71 u72 u73 u74 u75 u76 u77 u78 u79 u80 u81 u82 u83 u84 u85 u86 u87 u88 u89 u90 u91 u92 u93 u94 u95 u96 u97 u98 u99 u100 u101 u102 u103 u104 u105 u106 u107 u108 u109 u110 u111 u112 u113 u114 u115 u116 u117 u118 u119 u120 u121 u122 u123 u124 u125 u126 u127 u128 u129 u130 u131 u132 u133 u134 u135 u136 u137 u138 u139 u140 u141 u142 u143 u144 u145 u146 u147 u148 u149 u150 u151 u152 u153 u154 u155 u156 u157 u158 u159 u160 u161 u162 u163 u164 u165 u166 u167 u168 u169 u170 u171 u172 u173 u174 u175 u176 u177 u178 u179 u180 u181 u182 u183 u184 u185 u186 u187 u188 : Value)
    (hD : Dm V M2 18 r q lv gv T1 W) (hT1 : T1.length ≤ 65536) (pw : Pw V)
    (nx : ∀ (W' : World) (v2 v10 v11 v13 v14 v15 v16 v18 v19 v20 v21 v22 v23 v24 v45 v46 v47 v48 v49 v50 v51 v52 v53 v54 v55 v56 v57 v58 v59 v60 v61 v62 v63 v64 v65 v66 v67 v68 v69 v70 v71 v72 v73 v74 v75 v76 v77 v78 v79 v80 v81 v82 v83 v84 v85 v86 v87 v88 v89 v90 v91 v92 v93 v94 v95 v96 v97 v98 v99 v100 v101 v102 v103 v104 v105 v106 v107 v108 v109 v110 v111 v112 v113 v114 v115 v116 v117 v118 v119 v120 v121 v122 v123 v124 v125 v126 v127 v128 v129 v130 v131 v132 v133 v134 v135 v136 v137 v138 v139 v140 v141 v142 v143 v144 v145 v146 v147 v148 v149 v150 v151 v152 v153 v154 v155 v156 v157 v158 v159 v160 v161 v162 v163 v164 v165 v166 v167 v168 v169 v170 v171 v172 v173 v174 v175 v176 v177 v178 v179 v180 v181 v182 v183 v184 v185 v186 v187 v188 : Value), Below W.heap.size W W' → ((rtC (rtC (rtC (rtC (rtC (rtC (rtC (rtC (rtC (bdC (hdC (rtC (rtC (bdC (bdC (rtC (hdC (rtC (rtC (rtC (rtC (rtC (Option.getD Tryd.f4.body Code.skip)))))))))))))))))))))))).wp Tryd.prog R { tmps := #[u0, u1, v2, .pointer (some ⟨B, 0, none⟩), u4, u5, u6, .int .i64 (i : Int), r 0, lv, v10, v11, u12, v13, v14, v15, v16, gv, v18, v19, v20, v21, v22, v23, v24, u25, u26, u27, u28, u29, u30, u31, u32, u33, u34, u35, u36, u37, u38, u39, u40, u41, u42, u43, .int .i64 (i : Int), v45, v46, v47, v48, v49, v50, v51, v52, v53, v54, v55, v56, v57, v58, v59, v60, v61, v62, v63, v64, v65, v66, v67, v68, v69, v70, v71, v72, v73, v74, v75, v76, v77, v78, v79, v80, v81, v82, v83, v84, v85, v86, v87, v88, v89, v90, v91, v92, v93, v94, v95, v96, v97, v98, v99, v100, v101, v102, v103, v104, v105, v106, v107, v108, v109, v110, v111, v112, v113, v114, v115, v116, v117, v118, v119, v120, v121, v122, v123, v124, v125, v126, v127, v128, v129, v130, v131, v132, v133, v134, v135, v136, v137, v138, v139, v140, v141, v142, v143, v144, v145, v146, v147, v148, v149, v150, v151, v152, v153, v154, v155, v156, v157, v158, v159, v160, v161, v162, v163, v164, v165, v166, v167, v168, v169, v170, v171, v172, v173, v174, v175, v176, v177, v178, v179, v180, v181, v182, v183, v184, v185, v186, v187, v188], defers := [] } W') :
    ((rtC (rtC (rtC (rtC (rtC (rtC (rtC (rtC (bdC (hdC (rtC (rtC (bdC (bdC (rtC (hdC (rtC (rtC (rtC (rtC (rtC (Option.getD Tryd.f4.body Code.skip))))))))))))))))))))))).wp Tryd.prog R { tmps := #[u0, u1, u2, .pointer (some ⟨B, 0, none⟩), u4, u5, u6, .int .i64 (i : Int), r 0, lv, u10, u11, u12, u13, u14, u15, u16, gv, u18, u19, u20, u21, u22, u23, u24, u25, u26, u27, u28, u29, u30, u31, u32, u33, u34, u35, u36, u37, u38, u39, u40, u41, u42, u43, .int .i64 (i : Int), u45, u46, u47, u48, u49, u50, u51, u52, u53, u54, u55, u56, u57, u58, u59, u60, u61, u62, u63, u64, u65, u66, u67, u68, u69, u70, u71, u72, u73, u74, u75, u76, u77, u78, u79, u80, u81, u82, u83, u84, u85, u86, u87, u88, u89, u90, u91, u92, u93, u94, u95, u96, u97, u98, u99, u100, u101, u102, u103, u104, u105, u106, u107, u108, u109, u110, u111, u112, u113, u114, u115, u116, u117, u118, u119, u120, u121, u122, u123, u124, u125, u126, u127, u128, u129, u130, u131, u132, u133, u134, u135, u136, u137, u138, u139, u140, u141, u142, u143, u144, u145, u146, u147, u148, u149, u150, u151, u152, u153, u154, u155, u156, u157, u158, u159, u160, u161, u162, u163, u164, u165, u166, u167, u168, u169, u170, u171, u172, u173, u174, u175, u176, u177, u178, u179, u180, u181, u182, u183, u184, u185, u186, u187, u188], defers := [] } W := by
  rw [bm8]
  generalize hT : (rtC (rtC (rtC (rtC (rtC (rtC (rtC (rtC (rtC (bdC (hdC (rtC (rtC (bdC (bdC (rtC (hdC (rtC (rtC (rtC (rtC (rtC (Option.getD Tryd.f4.body Code.skip))))))))))))))))))))))) = T at *
  clear hT
  simp only [hdC, rtC, bdC, Option.getD, Tryd.f4]
  obtain ⟨g, cap, e1⟩ := own_some hD.ls (by omega)
  obtain ⟨gg, capg, eg⟩ := own_some hD.gr (by omega)
  have hLs := hD.ls
  have hGr := hD.gr
  rw [e1] at hLs
  rw [eg] at hGr
  have NX := hid nx
  have PW : Hid (Pw W) := hid (pw.low hD.low)
  have hgW := (hLs.lt g rfl).2
  have hggW := (hGr.lt gg rfl).2
  have CL : Hid (∀ k, k < 18 → W.cell? ⟨g, k, none⟩ = some (r (k + 1))) := hid (fun k hk => by
    have := hLs.cells (g := g) rfl k _ (rowC_at r hk)
    rwa [Go.WideShapes.add_plain, Nat.zero_add] at this)
  have CG : Hid (∀ k, k < 18 → W.cell? ⟨gg, k, none⟩ = some (q k)) := hid (fun k hk => by
    have := hGr.cells (g := gg) rfl k (q k) (by rw [List.getElem?_map, List.getElem?_range hk]; rfl)
    rwa [Go.WideShapes.add_plain, Nat.zero_add] at this)
  have HD := hid hD
  subst e1 eg
  clear nx hD hLs hGr pw
  generalize hr0 : r 0 = v0 at *
  clear hr0
  go_wp2_with fail
  go_loopw [138] (fun k wr => ∃ n : Nat, n ≤ 18 ∧ k = .int .i64 (n : Int) ∧ Hid (Below W.heap.size W wr)) (fun k _ => 18 - (intOf k).toNat)
  case atStart => exact ⟨0, by omega, rfl, hid (Below.refl _ _)⟩
  case round =>
    obtain ⟨n, hn, rfl, HX⟩ := hrel
    by_cases hlt : n < 18
    · have hltI : (n : Int) < 18 := by omega
      have hc := (HX.out.cell (p := ⟨g, n, none⟩) hgW).trans (CL.out n hlt)
      have hcg : Hid (∀ Y, Below W.heap.size W Y → Y.cell? ⟨gg, n, none⟩ = some (q n)) := hid (fun Y hY => (hY.cell (p := ⟨gg, n, none⟩) hggW).trans (CG.out n hlt))
      have O1 := HD.out.fm.own (n + 1) (by omega)
      rw [xsN_row T1 hlt] at O1
      obtain ⟨a1, c1, e1⟩ := own_len O1
      rw [mks_len] at e1
      rw [e1] at hc O1
      have O5 := (HD.out.qs n hlt).1
      obtain ⟨g5, c5, e5⟩ := own_some O5 (by rw [List.length_append]; simp)
      rw [List.length_append, mks_len] at e5
      rw [e5] at O5 hcg
      have h5l := (O5.lt g5 rfl).2
      have h5c : Hid (∀ Y, Below W.heap.size W Y → Y.cell? ⟨g5, T1.length, none⟩ = some (.string (st2 n))) := hid (fun Y hY => by
        refine (hY.cell (p := ⟨g5, T1.length, none⟩) h5l).trans ?_
        have := O5.cells (g := g5) rfl T1.length (.string (st2 n)) (by
          rw [List.map_append, List.getElem?_append_right (by rw [List.length_map, mks_len]; exact Nat.le_refl _), List.length_map, mks_len, Nat.sub_self]
          rfl)
        rwa [Go.WideShapes.add_plain, Nat.zero_add] at this)
      have HO1 := hid O1
      have IT1 := hid (fun Y (hp : Pw Y) => itoa_any (n : Int) (by omega) (by omega) Y hp)
      have ts1 : (tx (n : Int)).size ≤ 16 := by rw [tx_size]; exact (itoa_form (n : Int) (by omega) (by omega)).1
      have ST2 : Hid (st2 n = ⟨#[42]⟩ ++ tx (n : Int)) := hid rfl
      rw [ST2.out] at h5c
      have MK : Hid (∀ j, mk2 n j = ((⟨#[126]⟩ ++ tx (n : Int)) ++ ⟨#[126]⟩) ++ tx (j : Int)) := hid (fun j => rfl)
      clear O1 O5 e1 e5 ST2
      generalize tx (n : Int) = t1 at *
      have J0 := HX
      clear HX
      go_wp2_with fail
      go_loopw [145] (fun k wr => ∃ j : Nat, j ≤ T1.length ∧ k = .int .i64 (j : Int) ∧ Hid (Below W.heap.size W wr)) (fun k _ => T1.length - (intOf k).toNat)
      case atStart => exact ⟨0, by omega, rfl, J0⟩
      case round =>
        clear J0
        obtain ⟨j, hj, rfl, HY⟩ := hrel
        by_cases hjl : j < T1.length
        · have hjI : (j : Int) < (T1.length : Int) := by omega
          obtain ⟨g2, cap2, e2⟩ := own_some HO1.out (by rw [mks_len]; omega)
          injection e2 with e2 e3 e4
          subst e2
          have hg2 := (HO1.out.lt g2 rfl).2
          have CJ : Hid (∀ Y, Hid (Below W.heap.size W Y) → Hid (Below W.heap.size W Y) ∧ Y.cell? ⟨g2, j, none⟩ = some (.string (mk2 n j))) := hid (fun Y hY => ⟨hY, by
            refine (hY.out.cell (p := ⟨g2, j, none⟩) hg2).trans ?_
            have := HO1.out.cells (g := g2) rfl j (.string (mk2 n j)) (by
              unfold mks
              rw [List.getElem?_map, List.getElem?_map, List.getElem?_range hjl]
              rfl)
            rwa [Go.WideShapes.add_plain, Nat.zero_add] at this⟩)
          rw [MK.out j] at CJ
          have IT2 := hid (fun Y (hp : Pw Y) => itoa_any (j : Int) (by omega) (by omega) Y hp)
          have ts2 : (tx (j : Int)).size ≤ 16 := by rw [tx_size]; exact (itoa_form (j : Int) (by omega) (by omega)).1
          clear e3 e4
          generalize tx (j : Int) = t2 at *
          have DR : Hid (Below W.heap.size W wr.drew) := hid HY.out.drew
          have k1 : ¬ (9223372036854775807 < 1 + t1.size) := by omega
          have k2 : ¬ (9223372036854775807 < 1 + t1.size + 1) := by omega
          have k3 : ¬ (9223372036854775807 < 1 + t1.size + 1 + t2.size) := by omega
          go_wp2_with fail
          go_region_held3 (fun Y => Hid (Below W.heap.size W Y) ∧ Y.cell? ⟨g2, j, none⟩ = some (.string (((⟨#[126]⟩ ++ t1) ++ ⟨#[126]⟩) ++ t2)))
            (first | exact CJ.out _ HY | exact CJ.out _ DR | exact CJ.out _ S4 | exact CJ.out _ S5)
            (first
              | (go_at_call 18; with_reducible refine (IT1.out _ (PW.out.low DR.out)).mono ?_; rintro e w4 ⟨rfl, b4⟩; have S4 : Hid (Below W.heap.size W w4) := hid (DR.out.trans (b4.mono DR.out.size)); clear b4)
              | (go_at_call 18; with_reducible refine (IT2.out _ (PW.out.low S4.out)).mono ?_; rintro e w5 ⟨rfl, b5⟩; have S5 : Hid (Below W.heap.size W w5) := hid (S4.out.trans (b5.mono S4.out.size)); clear b5))
          go_wp2_with fail
          exact ⟨⟨j + 1, by omega, by go_num, S5⟩, by simp [intOf]; omega⟩
        · have hjI : ¬ ((j : Int) < (T1.length : Int)) := by omega
          have CK : Hid (∀ Y, Hid (Below W.heap.size W Y) → Hid (Below W.heap.size W Y) ∧ Y.cell? ⟨gg, n, none⟩ = some (.slice (some ⟨g5, 0, none⟩) (T1.length + 1) c5) ∧ Y.cell? ⟨g5, T1.length, none⟩ = some (.string (⟨#[42]⟩ ++ t1))) := hid (fun Y hY => ⟨hY, hcg.out Y hY.out, h5c.out Y hY.out⟩)
          have DR : Hid (Below W.heap.size W wr.drew) := hid HY.out.drew
          have hTI : (T1.length : Int) < (T1.length : Int) + 1 := by omega
          have k1 : ¬ (9223372036854775807 < 1 + t1.size) := by omega
          clear HO1
          go_wp2_with fail
          go_region_held3 (fun Y => Hid (Below W.heap.size W Y) ∧ Y.cell? ⟨gg, n, none⟩ = some (.slice (some ⟨g5, 0, none⟩) (T1.length + 1) c5) ∧ Y.cell? ⟨g5, T1.length, none⟩ = some (.string (⟨#[42]⟩ ++ t1)))
            (first | exact CK.out _ HY | exact CK.out _ DR | exact CK.out _ S4)
            (first
              | (go_at_call 18; with_reducible refine (IT1.out _ (PW.out.low DR.out)).mono ?_; rintro e w4 ⟨rfl, b4⟩; have S4 : Hid (Below W.heap.size W w4) := hid (DR.out.trans (b4.mono DR.out.size)); clear b4))
          go_wp2_with fail
          exact ⟨⟨n + 1, by omega, by go_num, S4⟩, by simp [intOf]; omega⟩
    · obtain rfl : n = 18 := by omega
      go_wp2_with fail
      exact NX.out wr _ _ _ _ _ _ _ _ _ _ _ _ _ _ _ _ _ _ _ _ _ _ _ _ _ _ _ _ _ _ _ _ _ _ _ _ _ _ _ _ _ _ _ _ _ _ _ _ _ _ _ _ _ _ _ _ _ _ _ _ _ _ _ _ _ _ _ _ _ _ _ _ _ _ _ _ _ _ _ _ _ _ _ _ _ _ _ _ _ _ _ _ _ _ _ _ _ _ _ _ _ _ _ _ _ _ _ _ _ _ _ _ _ _ _ _ _ _ _ _ _ _ _ _ _ _ _ _ _ _ _ _ _ _ _ _ _ _ _ _ _ _ _ _ _ _ _ _ _ _ _ _ _ _ _ _ _ _ HX.out
end Go.Proofs.YtdhjoimiejdgbabDoor.L
