import Derived.Test.YtdhjoimiejdgbabDoorMgP
namespace Go.Proofs.YtdhjoimiejdgbabDoor.L
open Go.RowKit Bs Go.Maps Go.Shelf
set_option linter.unusedVariables false
attribute [local go_sem] Oper.semAt_some
set_option maxHeartbeats 8000000 in
set_option maxRecDepth 100000 in
theorem sm_a (R : Exit → Act → World → Prop) (s W : World) (B i : Nat) (st : Nat → St) (u0 u1 u2 u4 u5 u6 u7 u8 u9 u10 u11 u12 u13 u14 u15 u16 u17 u18 u19 u20 u21 u22 u23 u24 u25 u26 u27 u28 u29 u30 u31 u32 u33 u34 u35 u36 u37 u38 u39 u40 u41 u42 u43 u45 u46 u47 u48 u49 u50 u51 u52 u53 u54 u55 u56 u57 u58 u59 u60 u61 u62 u63 u64 u65 u66 u67 u68 u69 u70 u71 u72 u73 u74 u75 u76 u77 u78 u79 u80 u81 u82 u83 u84 u85 u86 u87 u88 u89 u90 u91 u92 u93 u94 u95 u96 u97 u98 u99 u100 u101 u102 u103 u104 u105 u106 u107 u108 u109 u110 u111 u112 u113 u114 u115 u116 u117 u118 u119 u120 u121 u122 u123 u124 u125 u126 u127 u128 u129 u130 u131 u132 u133 u134 u135 u136 u137 u138 u139 u140 u141 u142 u143 u144 u145 u146 u147 u148 u149 u150 u151 u152 u153 u154 u155 u156 u157 u158 u159 u160 u161 u162 u163 u164 u165 u166 u167 u168 u169 u170 u171 u172 u173 u174 u175 u176 u177 u178 u179 u180 u181 u182 u183 u184 u185 u186 u187 u188 : Value)
    (hW : Wh s W B [] st) (hR : Re st) (hi : i < 4)
    (nx : ∀ (r : Nat → Value) (lv : Value) (W' : World) (v2 v10 v11 v13 v14 v15 v16 v17 v18 v19 v20 v21 v22 v23 v24 v45 v46 v47 v48 v49 v50 v51 v52 v53 v54 v55 v56 v57 v58 v59 v60 v61 v62 v63 v64 v65 v66 v67 v68 v69 v70 v71 v72 v73 v74 v75 v76 v77 v78 v79 v80 v81 v82 v83 v84 v85 v86 v87 v88 v89 v90 v91 v92 v93 v94 v95 v96 v97 v98 v99 v100 v101 v102 v103 v104 v105 v106 v107 v108 v109 v110 v111 v112 v113 v114 v115 v116 v117 v118 v119 v120 v121 v122 v123 v124 v125 v126 v127 v128 v129 v130 v131 v132 v133 v134 v135 v136 v137 v138 v139 v140 v141 v142 v143 v144 v145 v146 v147 v148 v149 v150 v151 v152 v153 v154 v155 v156 v157 v158 v159 v160 v161 v162 v163 v164 v165 v166 v167 v168 v169 v170 v171 v172 v173 v174 v175 v176 v177 v178 v179 v180 v181 v182 v183 v184 v185 v186 v187 v188 : Value), Below W.heap.size W W' → Fm W' W.heap.size 19 r (fun _ => srt (nmL (st i).l)) → W'.ownsRow W.heap.size 22 1 lv 18 (rowC r 18) → ((rtC (rtC (rtC (rtC (bdC (hdC (rtC (rtC (bdC (bdC (rtC (hdC (rtC (rtC (rtC (rtC (rtC (Option.getD Tryd.f4.body Code.skip))))))))))))))))))).wp Tryd.prog R { tmps := #[u0, u1, v2, .pointer (some ⟨B, 0, none⟩), u4, u5, u6, .int .i64 (i : Int), r 0, lv, v10, v11, u12, v13, v14, v15, v16, v17, v18, v19, v20, v21, v22, v23, v24, u25, u26, u27, u28, u29, u30, u31, u32, u33, u34, u35, u36, u37, u38, u39, u40, u41, u42, u43, .int .i64 (i : Int), v45, v46, v47, v48, v49, v50, v51, v52, v53, v54, v55, v56, v57, v58, v59, v60, v61, v62, v63, v64, v65, v66, v67, v68, v69, v70, v71, v72, v73, v74, v75, v76, v77, v78, v79, v80, v81, v82, v83, v84, v85, v86, v87, v88, v89, v90, v91, v92, v93, v94, v95, v96, v97, v98, v99, v100, v101, v102, v103, v104, v105, v106, v107, v108, v109, v110, v111, v112, v113, v114, v115, v116, v117, v118, v119, v120, v121, v122, v123, v124, v125, v126, v127, v128, v129, v130, v131, v132, v133, v134, v135, v136, v137, v138, v139, v140, v141, v142, v143, v144, v145, v146, v147, v148, v149, v150, v151, v152, v153, v154, v155, v156, v157, v158, v159, v160, v161, v162, v163, v164, v165, v166, v167, v168, v169, v170, v171, v172, v173, v174, v175, v176, v177, v178, v179, v180, v181, v182, v183, v184, v185, v186, v187, v188], defers := [] } W') :
    ((bdC (hdC (rtC (rtC (bdC (bdC (rtC (hdC (rtC (rtC (rtC (rtC (rtC (Option.getD Tryd.f4.body Code.skip))))))))))))))).wp Tryd.prog R { tmps := #[u0, u1, u2, .pointer (some ⟨B, 0, none⟩), u4, u5, u6, u7, u8, u9, u10, u11, u12, u13, u14, u15, u16, u17, u18, u19, u20, u21, u22, u23, u24, u25, u26, u27, u28, u29, u30, u31, u32, u33, u34, u35, u36, u37, u38, u39, u40, u41, u42, u43, .int .i64 (i : Int), u45, u46, u47, u48, u49, u50, u51, u52, u53, u54, u55, u56, u57, u58, u59, u60, u61, u62, u63, u64, u65, u66, u67, u68, u69, u70, u71, u72, u73, u74, u75, u76, u77, u78, u79, u80, u81, u82, u83, u84, u85, u86, u87, u88, u89, u90, u91, u92, u93, u94, u95, u96, u97, u98, u99, u100, u101, u102, u103, u104, u105, u106, u107, u108, u109, u110, u111, u112, u113, u114, u115, u116, u117, u118, u119, u120, u121, u122, u123, u124, u125, u126, u127, u128, u129, u130, u131, u132, u133, u134, u135, u136, u137, u138, u139, u140, u141, u142, u143, u144, u145, u146, u147, u148, u149, u150, u151, u152, u153, u154, u155, u156, u157, u158, u159, u160, u161, u162, u163, u164, u165, u166, u167, u168, u169, u170, u171, u172, u173, u174, u175, u176, u177, u178, u179, u180, u181, u182, u183, u184, u185, u186, u187, u188], defers := [] } W := by
  rw [bm0]
  rw [bm1]
  rw [bm2]
  rw [bm3]
  generalize hT : (rtC (rtC (rtC (rtC (bdC (hdC (rtC (rtC (bdC (bdC (rtC (hdC (rtC (rtC (rtC (rtC (rtC (Option.getD Tryd.f4.body Code.skip)))))))))))))))))) = T at *
  clear hT
  simp only [hdC, rtC, bdC, Option.getD, Tryd.f4]
  obtain ⟨i0, hi0, hz0, hz1, hz2⟩ := info_parts infoLL
  obtain ⟨bp, hb⟩ := (hW.tq i hi).form
  obtain ⟨va, vc, hv⟩ := own_len (hW.od i hi)
  obtain ⟨c0, c1, c2⟩ := hW.cells hi
  have HTQ := hid (hW.tq i hi)
  have HOD := hid (hW.od i hi)
  rw [hb] at c0 HTQ
  rw [hv] at c2 HOD
  have HRE := hid (hR i hi).1
  have hBlt := hW.lt
  have HNL : Hid ((srt (nmL (st i).l)).length ≤ 65536) := hid (by rw [srt_len, nmL_len]; exact Nat.le_trans HTQ.out.ok.ct HTQ.out.ok.mm)
  have HDL : Hid ((st i).d.length ≤ 65536) := hid (by rw [HRE.out.len]; exact Nat.le_trans HTQ.out.ok.ct HTQ.out.ok.mm)
  have NX := hid nx
  clear nx hW hR
  generalize (st i).m = mm at *
  generalize (st i).l = ll at *
  generalize (st i).F = FF at *
  generalize (st i).mo = mo1 at *
  generalize (st i).d = dd at *
  obtain ⟨dl, hdl⟩ : ∃ n, n = dd.length := ⟨_, rfl⟩
  rw [← hdl] at c2 HOD HDL
  have RN := hid (rnamesL mo1 va vc dl dd hdl W HOD.out HDL.out)
  rw [HRE.out.names] at RN
  have NM := hid (fun Y (hb : Below W.heap.size W Y) => (HTQ.out.low hb).names)
  obtain ⟨T1, hT1⟩ : ∃ t, t = srt (nmL ll) := ⟨_, rfl⟩
  rw [← hT1] at RN NM NX HNL
  have CB : Hid (∀ Y, Below W.heap.size W Y → Y.cell? ⟨B, i, none⟩ = some (.pointer bp)) := hid (fun Y hY => (hY.cell (p := ⟨B, i, none⟩) hBlt).trans c0)
  have hiI : (i : Int) < 4 := by omega
  clear hdl hT1 HTQ HOD HRE HDL hb hv
  go_wp2_with (first
    | (go_at_call 17; refine RN.out.mono ?_; rintro e w1 ⟨v1, rfl, ho1, hb1⟩; obtain ⟨a1, k1, e1⟩ := own_len ho1; subst e1; have O1 := hid ho1; have B1 := hid hb1; clear ho1 hb1))
  have I0 : Hid (∃ r : Nat → Value, r 0 = .slice a1 T1.length k1 ∧ Below W.heap.size W w1 ∧ Fm w1 W.heap.size 1 r (fun _ => T1) ∧ w1.ownsRow W.heap.size 22 1 (.slice none 0 0) 0 (rowC r 0)) := hid ⟨fun _ => .slice a1 T1.length k1, rfl, B1.out, ⟨fun k hk => O1.out, fun j k hj hk hjk => by omega⟩, rfl, Or.inl ⟨rfl, rfl⟩⟩
  clear O1 B1 RN c0 c1 c2
  go_loopw [10, 9] (fun k lv wr => ∃ n : Nat, n ≤ 18 ∧ k = .int .i64 (n : Int) ∧ Hid (∃ r : Nat → Value, r 0 = .slice a1 T1.length k1 ∧ Below W.heap.size W wr ∧ Fm wr W.heap.size (n + 1) r (fun _ => T1) ∧ wr.ownsRow W.heap.size 22 1 lv n (rowC r n))) (fun k _ _ => 18 - (intOf k).toNat)
  case atStart => exact ⟨0, by omega, rfl, I0⟩
  case round =>
    clear I0
    obtain ⟨n, hn, rfl, HX⟩ := hrel
    obtain ⟨r, hr0, hlo, hfm, hrow⟩ := HX.out
    by_cases hlt : n < 18
    · have hltI : (n : Int) < 18 := by omega
      have hbc := CB.out wr hlo
      have LOW := hid hlo
      have O0 := hid (hfm.own 0 (by omega))
      rw [hr0] at O0
      have FM := hid hfm
      have HROW := hid hrow
      have HR0 := hid hr0
      have hws := hlo.size
      clear HX hlo hfm hrow hr0
      go_wp2_with (first
        | (go_at_call 12; refine (NM.out _ LOW.out).mono ?_; rintro e w2 ⟨v2, rfl, ho2, hb2⟩; obtain ⟨a2, k2, e2⟩ := own_len ho2; subst e2; have F2 := hid (FM.out.snoc hb2 hws ho2); have O2 := hid ho2; have L2 := hid (LOW.out.trans (hb2.mono LOW.out.size)); have O0' := hid (own_low O0.out hb2); have R2 := hid (own_low HROW.out hb2); clear ho2 hb2)
        | (go_at_call 11; refine (texts_same a2 a1 k2 k1 T1 w2 HNL.out (items_of O2.out) (items_of O0'.out)).mono ?_; rintro e w3 ⟨rfl, nd, hw3⟩; have hb3 : Below w2.heap.size w2 w3 := (by rw [hw3]; exact belowD _ _); have F3 := hid (F2.out.low hb3); have L3 := hid (L2.out.trans (hb3.mono L2.out.size)); have R3 := hid (own_low R2.out hb3); have hs3 := L3.out.size; clear hw3 hb3 F2 O2 L2 R2)
        | (at_builtin; refine wpList_append_own _ rfl _ _ 53 rfl W.heap.size 22 i0 (.slice none 0 0) 1 24 Tryd.underlying53 hi0 hz0 hz1 hz2 rfl (by decide) _ _ _ rfl (R3.out.alloc _) ⟨w3.heap.size, 0, none⟩ 1 1 [.slice a2 T1.length k2] rfl rfl (cell_one_new _ _ _) (fun u hu => by simp at hu; subst hu; rfl) (by unfold maxLen; omega) (by omega) (by simp; omega) ?_
           intro v' w4 hown' hgrow hnil
           clear hnil
           have F4 := hid (F3.out.grown R3.out (by decide) hgrow)
           have O4 := hid hown'
           have L4 := hid (((L3.out.alloc L3.out.size _).grown hgrow (by simp; omega) (fun k e => (R3.out.lt k e).1)))
           clear hown' hgrow))
      refine ⟨⟨n + 1, by omega, by go_num, hid ⟨upN r (n + 1) (.slice a2 T1.length k2), by rw [upN_other _ _ (by omega)]; exact HR0.out, L4.out, ?_, ?_⟩⟩, by simp [intOf]; omega⟩
      · have := F4.out
        rw [upN_const] at this
        exact this
      · rw [rowC_succ, rowC_up, upN_same]
        exact O4.out
    · obtain rfl : n = 18 := by omega
      have HX2 := HX
      clear HX hlo hfm hrow
      go_wp2_with fail
      rw [← hr0]
      obtain ⟨r2, q1, q2, q3, q4⟩ := HX2.out
      rw [hr0, ← q1]
      exact NX.out r2 _ wr _ _ _ _ _ _ _ _ _ _ _ _ _ _ _ _ _ _ _ _ _ _ _ _ _ _ _ _ _ _ _ _ _ _ _ _ _ _ _ _ _ _ _ _ _ _ _ _ _ _ _ _ _ _ _ _ _ _ _ _ _ _ _ _ _ _ _ _ _ _ _ _ _ _ _ _ _ _ _ _ _ _ _ _ _ _ _ _ _ _ _ _ _ _ _ _ _ _ _ _ _ _ _ _ _ _ _ _ _ _ _ _ _ _ _ _ _ _ _ _ _ _ _ _ _ _ _ _ _ _ _ _ _ _ _ _ _ _ _ _ _ _ _ _ _ _ _ _ _ _ _ _ _ _ _ _ _ _ _ q2 q3 q4
end Go.Proofs.YtdhjoimiejdgbabDoor.L
