import Derived.Test.YtdhjoimiejdgbabDoorMdm
namespace Go.Proofs.YtdhjoimiejdgbabDoor.L
open Go.RowKit Bs Go.Maps Go.Shelf
set_option linter.unusedVariables false
attribute [local go_sem] Oper.semAt_some
theorem infoST : (Tryd.prog.info? 9).map (fun i => (i.zero, i.size, i.bytes)) = some (some (.string ByteArray.empty), 1, 16) := by kernel_rfl
set_option maxHeartbeats 8000000 in
set_option maxRecDepth 100000 in
theorem sm_d (R : Exit → Act → World → Prop) (V W : World) (B i : Nat) (r : Nat → Value) (lv : Value) (T1 : List ByteArray) (u0 u1 u2 u4 u5 u6 u10 u11 u12 u13 u14 u15 u16 u17 u18 u19 u20 u21 u22 u23 u24 u25 u26 u27 u28 u29 u30 u31 u32 u33 u34 u35 u36 u37 u38 u39 u40 u41 u42 u43 u45 u46 u47 u48 u49 u50 u51 u52 u53 u54 u55 u56 u57 u58 u59 u60 u61 u62 u63 u64 u65 u66 u67 u68 u69 u70 u71 u72 u73 u74 u75 u76 u77 u78 u79 u80 u81 u82 u83 u84 u85 u86 u87 u88 u89 u90 u91 u92 u93 u94 u95 u96 u97 u98 u99 u100 u101 u102 u103 u104 u105 u106 u107 u108 u109 u110 u111 u112 u113 u114 u115 u116 u117 u118 u119 u120 u121 u122 u123 u124 u125 u126 u127 u128 u129 u130 u131 u132 u133 u134 u135 u136 u137 u138 u139 u140 u141 u142 u143 u144 u145 u146 u147 u148 u149 u150 u151 u152 u153 u154 u155 u156 u157 u158 u159 u160 u161 u162 u163 u164 u165 u166 u167 u168 u169 u170 u171 u172 u173 u174 u175 u176 u177 u178 u179 u180 u181 u182 u183 u184 u185 u186 u187 u188 : Value)
    (hF : Fm W V.heap.size 19 r (xsN T1 18)) (hrow : W.ownsRow V.heap.size 22 1 lv 18 (rowC r 18)) (hT1 : T1.length ≤ 65536) (hB : Below V.heap.size V W) (pw : Pw V)
    (nx : ∀ (q : Nat → Value) (gv : Value) (M2 : Nat) (W' : World) (v2 v10 v11 v13 v14 v15 v16 v18 v19 v20 v21 v22 v23 v24 v45 v46 v47 v48 v49 v50 v51 v52 v53 v54 v55 v56 v57 v58 v59 v60 v61 v62 v63 v64 v65 v66 v67 v68 v69 v70 v71 v72 v73 v74 v75 v76 v77 v78 v79 v80 v81 v82 v83 v84 v85 v86 v87 v88 v89 v90 v91 v92 v93 v94 v95 v96 v97 v98 v99 v100 v101 v102 v103 v104 v105 v106 v107 v108 v109 v110 v111 v112 v113 v114 v115 v116 v117 v118 v119 v120 v121 v122 v123 v124 v125 v126 v127 v128 v129 v130 v131 v132 v133 v134 v135 v136 v137 v138 v139 v140 v141 v142 v143 v144 v145 v146 v147 v148 v149 v150 v151 v152 v153 v154 v155 v156 v157 v158 v159 v160 v161 v162 v163 v164 v165 v166 v167 v168 v169 v170 v171 v172 v173 v174 v175 v176 v177 v178 v179 v180 v181 v182 v183 v184 v185 v186 v187 v188 : Value), Dm V M2 18 r q lv gv T1 W' → ((rtC (rtC (rtC (rtC (rtC (rtC (rtC (rtC (bdC (hdC (rtC (rtC (bdC (bdC (rtC (hdC (rtC (rtC (rtC (rtC (rtC (Option.getD Tryd.f4.body Code.skip))))))))))))))))))))))).wp Tryd.prog R { tmps := #[u0, u1, v2, .pointer (some ⟨B, 0, none⟩), u4, u5, u6, .int .i64 (i : Int), r 0, lv, v10, v11, u12, v13, v14, v15, v16, gv, v18, v19, v20, v21, v22, v23, v24, u25, u26, u27, u28, u29, u30, u31, u32, u33, u34, u35, u36, u37, u38, u39, u40, u41, u42, u43, .int .i64 (i : Int), v45, v46, v47, v48, v49, v50, v51, v52, v53, v54, v55, v56, v57, v58, v59, v60, v61, v62, v63, v64, v65, v66, v67, v68, v69, v70, v71, v72, v73, v74, v75, v76, v77, v78, v79, v80, v81, v82, v83, v84, v85, v86, v87, v88, v89, v90, v91, v92, v93, v94, v95, v96, v97, v98, v99, v100, v101, v102, v103, v104, v105, v106, v107, v108, v109, v110, v111, v112, v113, v114, v115, v116, v117, v118, v119, v120, v121, v122, v123, v124, v125, v126, v127, v128, v129, v130, v131, v132, v133, v134, v135, v136, v137, v138, v139, v140, v141, v142, v143, v144, v145, v146, v147, v148, v149, v150, v151, v152, v153, v154, v155, v156, v157, v158, v159, v160, v161, v162, v163, v164, v165, v166, v167, v168, v169, v170, v171, v172, v173, v174, v175, v176, v177, v178, v179, v180, v181, v182, v183, v184, v185, v186, v187, v188], defers := [] } W') :
    ((rtC (rtC (rtC (rtC (rtC (rtC (bdC (hdC (rtC (rtC (bdC (bdC (rtC (hdC (rtC (rtC (rtC (rtC (rtC (Option.getD Tryd.f4.body Code.skip))))))))))))))))))))).wp Tryd.prog R { tmps := #[u0, u1, u2, .pointer (some ⟨B, 0, none⟩), u4, u5, u6, .int .i64 (i : Int), r 0, lv, u10, u11, u12, u13, u14, u15, u16, u17, u18, u19, u20, u21, u22, u23, u24, u25, u26, u27, u28, u29, u30, u31, u32, u33, u34, u35, u36, u37, u38, u39, u40, u41, u42, u43, .int .i64 (i : Int), u45, u46, u47, u48, u49, u50, u51, u52, u53, u54, u55, u56, u57, u58, u59, u60, u61, u62, u63, u64, u65, u66, u67, u68, u69, u70, u71, u72, u73, u74, u75, u76, u77, u78, u79, u80, u81, u82, u83, u84, u85, u86, u87, u88, u89, u90, u91, u92, u93, u94, u95, u96, u97, u98, u99, u100, u101, u102, u103, u104, u105, u106, u107, u108, u109, u110, u111, u112, u113, u114, u115, u116, u117, u118, u119, u120, u121, u122, u123, u124, u125, u126, u127, u128, u129, u130, u131, u132, u133, u134, u135, u136, u137, u138, u139, u140, u141, u142, u143, u144, u145, u146, u147, u148, u149, u150, u151, u152, u153, u154, u155, u156, u157, u158, u159, u160, u161, u162, u163, u164, u165, u166, u167, u168, u169, u170, u171, u172, u173, u174, u175, u176, u177, u178, u179, u180, u181, u182, u183, u184, u185, u186, u187, u188], defers := [] } W := by
  rw [bm6]
  rw [bm7]
  generalize hT : (rtC (rtC (rtC (rtC (rtC (rtC (rtC (rtC (bdC (hdC (rtC (rtC (bdC (bdC (rtC (hdC (rtC (rtC (rtC (rtC (rtC (Option.getD Tryd.f4.body Code.skip)))))))))))))))))))))) = T at *
  clear hT
  simp only [hdC, rtC, bdC, Option.getD, Tryd.f4]
  obtain ⟨g, cap, e1⟩ := own_some hrow (by omega)
  subst e1
  obtain ⟨i0, hi0, hz0, hz1, hz2⟩ := info_parts infoLL
  obtain ⟨j0, hj0, hy0, hy1, hy2⟩ := info_parts infoST
  have NX := hid nx
  have PW := hid pw
  have hgW := (hrow.lt g rfl).2
  have H0 : Hid (∃ q : Nat → Value, Dm V W.heap.size 0 r q (.slice (some ⟨g, 0, none⟩) 18 cap) (.slice none 0 0) T1 W) := hid ⟨r, hB, hF, hrow, ⟨rfl, Or.inl ⟨rfl, rfl⟩⟩, fun k hk => by omega, ⟨hB.size, Nat.le_refl _⟩, fun g' hg' => by simp [Value.ownBlock] at hg'; subst hg'; exact hgW⟩
  clear nx hF hrow hB pw
  generalize hr0 : r 0 = v0 at *
  clear hr0
  go_wp2_with fail
  go_loopw [110, 17] (fun k gv wr => ∃ n : Nat, n ≤ 18 ∧ k = .int .i64 (n : Int) ∧ Hid (∃ q : Nat → Value, Dm V W.heap.size n r q (.slice (some ⟨g, 0, none⟩) 18 cap) gv T1 wr)) (fun k _ _ => 18 - (intOf k).toNat)
  case atStart => exact ⟨0, by omega, rfl, H0⟩
  case round =>
    clear H0
    obtain ⟨n, hn, rfl, HX⟩ := hrel
    obtain ⟨q, hD⟩ := HX.out
    by_cases hlt : n < 18
    · have hltI : (n : Int) < 18 := by omega
      have hc : wr.cell? ⟨g, n, none⟩ = some (r (n + 1)) := by
        have := hD.ls.cells (g := g) rfl n _ (rowC_at r hlt)
        rwa [Go.WideShapes.add_plain, Nat.zero_add] at this
      have O1 := hD.fm.own (n + 1) (by omega)
      rw [xsN_row T1 hlt] at O1
      obtain ⟨a1, c1, e1⟩ := own_len O1
      rw [mks_len] at e1
      rw [e1] at hc
      have HE1 := hid e1
      have IT1 := hid (fun Y (hp : Pw Y) => itoa_any (n : Int) (by omega) (by omega) Y hp)
      have ts1 : (tx (n : Int)).size ≤ 16 := by rw [tx_size]; exact (itoa_form (n : Int) (by omega) (by omega)).1
      have ST2 : Hid (st2 n = ⟨#[42]⟩ ++ tx (n : Int)) := hid rfl
      have J0 : Hid (Dm V W.heap.size n r q (.slice (some ⟨g, 0, none⟩) 18 cap) u17 T1 wr ∧ OwnS wr V.heap.size (.slice a1 T1.length c1) (mks n T1.length ++ List.replicate 0 (⟨#[43]⟩ ++ tx (n : Int))) ∧ (0 = 0 → Value.slice a1 T1.length c1 = r (n + 1))) := hid ⟨hD, by rw [List.replicate_zero, List.append_nil, ← e1]; exact O1, fun _ => e1.symm⟩
      clear HX O1 e1 hD
      generalize tx (n : Int) = t1 at *
      go_wp2_with fail
      go_loopw [21, 20] (fun k gw wr => ∃ j : Nat, j ≤ 64 ∧ k = .int .i64 (j : Int) ∧ Hid (Dm V W.heap.size n r q (.slice (some ⟨g, 0, none⟩) 18 cap) u17 T1 wr ∧ OwnS wr V.heap.size gw (mks n T1.length ++ List.replicate j (⟨#[43]⟩ ++ t1)) ∧ (j = 0 → gw = r (n + 1)))) (fun k _ _ => 64 - (intOf k).toNat)
      case atStart => exact ⟨0, by omega, rfl, hid ⟨J0.out.1, J0.out.2.1, fun _ => J0.out.2.2 trivial⟩⟩
      case round =>
        clear J0
        obtain ⟨j, hj, rfl, HY⟩ := hrel
        by_cases hjl : j < 64
        · have hjI : (j : Int) < 64 := by omega
          have HD := hid HY.out.1
          have HO : Hid (wr.ownsRow V.heap.size 9 1 u20 (T1.length + j) ((mks n T1.length ++ List.replicate j (⟨#[43]⟩ ++ t1)).map Value.string)) := hid (by
            have := HY.out.2.1
            unfold OwnS at this
            rwa [List.length_append, mks_len, List.length_replicate] at this)
          have HQ : Hid (T1.length + 1 ≤ T1.length + j ∨ ∀ k, k < n → (q k).ownBlock ≠ u20.ownBlock) := hid (by
            by_cases e : j = 0
            · right
              intro k hk
              rw [HY.out.2.2 e]
              intro c
              obtain ⟨g9, c9, e9⟩ := own_some (HD.out.qs k hk).1 (by rw [List.length_append]; simp)
              have e8 : (q k).ownBlock = some g9 := by rw [e9]; rfl
              exact (HD.out.qs k hk).2 g9 e8 (n + 1) (by omega) (by omega) (by rw [← c]; exact e8)
            · left
              omega)
          clear HY
          go_wp2_with fail
          refine (IT1.out _ (PW.out.low HD.out.low)).mono ?_
          rintro e w4 ⟨rfl, b4⟩
          have D4 := hid (HD.out.lo b4)
          have O4 := hid (own_low HO.out b4)
          have hs4 := D4.out.low.size
          clear b4
          go_wp2_with (first
            | (at_builtin; refine wpList_append_stays _ rfl _ _ 22 rfl V.heap.size 9 j0 (.string ByteArray.empty) 1 16 Tryd.underlying22 hj0 hy0 hy1 hy2 rfl (by decide) _ _ _ rfl (World.ownsRow.alloc O4.out _) ⟨w4.heap.size, 0, none⟩ 1 1 [.string (⟨#[43]⟩ ++ t1)] rfl rfl (cell_one_new _ _ _) (fun u hu => by simp at hu; subst hu; rfl) (by unfold maxLen; omega) (by omega) (by simp; omega) (by decide) ?_
               intro v' w5 hown' hgrow hst hblk
               have D5 := hid (D4.out.app O4.out (by omega) HQ.out hgrow hst)
               have O5 : Hid (OwnS w5 V.heap.size v' (mks n T1.length ++ List.replicate (j + 1) (⟨#[43]⟩ ++ t1))) := hid (by
                 unfold OwnS
                 rw [List.length_append, mks_len, List.length_replicate, List.replicate_succ', ← List.append_assoc, List.map_append]
                 exact hown')
               clear hown' hgrow hst hblk))
          exact ⟨⟨j + 1, by omega, by go_num, hid ⟨D5.out, O5.out, fun c => by omega⟩⟩, by simp [intOf]; omega⟩
        · have hjI : ¬ ((j : Int) < 64) := by omega
          have HD := hid HY.out.1
          clear HY
          go_wp2_with fail
          refine (IT1.out _ (PW.out.low HD.out.low)).mono ?_
          rintro e w4 ⟨rfl, b4⟩
          have D4 := hid (HD.out.lo b4)
          have hs4 := D4.out.low.size
          clear b4
          have O4 : Hid (w4.ownsRow V.heap.size 9 1 (.slice a1 T1.length c1) T1.length ((mks n T1.length).map Value.string)) := hid (by
            have := D4.out.fm.own (n + 1) (by omega)
            rw [xsN_row T1 hlt, HE1.out] at this
            unfold OwnS at this
            rwa [mks_len] at this)
          have HQ : Hid (T1.length + 1 ≤ T1.length ∨ ∀ k, k < n → (q k).ownBlock ≠ (Value.slice a1 T1.length c1).ownBlock) := hid (by
            right
            intro k hk
            rw [← HE1.out]
            intro c
            obtain ⟨g9, c9, e9⟩ := own_some (D4.out.qs k hk).1 (by rw [List.length_append]; simp)
            have e8 : (q k).ownBlock = some g9 := by rw [e9]; rfl
            exact (D4.out.qs k hk).2 g9 e8 (n + 1) (by omega) (by omega) (by rw [← c]; exact e8))
          go_wp2_with (first
            | (at_builtin; refine wpList_append_stays _ rfl _ _ 22 rfl V.heap.size 9 j0 (.string ByteArray.empty) 1 16 Tryd.underlying22 hj0 hy0 hy1 hy2 rfl (by decide) _ _ _ rfl (World.ownsRow.alloc O4.out _) ⟨w4.heap.size, 0, none⟩ 1 1 [.string (⟨#[42]⟩ ++ t1)] rfl rfl (cell_one_new _ _ _) (fun u hu => by simp at hu; subst hu; rfl) (by unfold maxLen; omega) (by omega) (by simp; omega) (by decide) ?_
               intro v2 w5 hown' hgrow hst hblk
               have D5 := hid (D4.out.app O4.out (Nat.le_refl _) HQ.out hgrow hst)
               have O5 : Hid (OwnS w5 V.heap.size v2 (mks n T1.length ++ [st2 n])) := hid (by
                 unfold OwnS
                 rw [List.length_append, mks_len, List.map_append, ST2.out]
                 exact hown')
               obtain ⟨g5, c5, e5⟩ := own_some hown' (by omega)
               have A5 : Hid (∀ g, v2.ownBlock = some g → ∀ j, n + 1 < j → j < 19 → (r j).ownBlock ≠ some g) := hid (fun g6 hg6 j' h1 h2 => by
                 rcases hblk with c | c
                 · refine D4.out.fm.ap (n + 1) j' (by omega) h2 (by omega) g6 ?_
                   rw [HE1.out]
                   exact (show v2.ownBlock = (Value.slice a1 T1.length c1).ownBlock from c).symm.trans hg6
                 · intro c2
                   have z := ((D4.out.fm.own j' h2).lt g6 c2).2
                   rw [hg6] at c
                   injection c with c
                   simp at c
                   omega)
               have G5 := hid (own_mono D5.out.gr (Nat.le_refl _))
               have hs5 := D5.out.sz.2
               subst e5
               clear hown' hgrow hst hblk)
            | (at_builtin; refine wpList_append_own _ rfl _ _ 53 rfl W.heap.size 22 i0 (.slice none 0 0) 1 24 Tryd.underlying53 hi0 hz0 hz1 hz2 rfl (by decide) _ _ _ rfl (G5.out.alloc _) ⟨w5.heap.size, 0, none⟩ 1 1 [.slice (some ⟨g5, 0, none⟩) (T1.length + 1) c5] rfl rfl (cell_one_new _ _ _) (fun u hu => by simp at hu; subst hu; rfl) (by unfold maxLen; omega) (by omega) (by simp; omega) ?_
               intro gv' w6 hown' hgrow hnil
               clear hnil
               have D6 := hid (D5.out.snoc O5.out A5.out hgrow hown')
               clear hown' hgrow))
          exact ⟨⟨n + 1, by omega, by go_num, hid ⟨_, D6.out⟩⟩, by simp [intOf]; omega⟩
    · obtain rfl : n = 18 := by omega
      have HD := hid hD
      clear HX hD
      go_wp2_with fail
      exact NX.out q _ _ wr _ _ _ _ _ _ _ _ _ _ _ _ _ _ _ _ _ _ _ _ _ _ _ _ _ _ _ _ _ _ _ _ _ _ _ _ _ _ _ _ _ _ _ _ _ _ _ _ _ _ _ _ _ _ _ _ _ _ _ _ _ _ _ _ _ _ _ _ _ _ _ _ _ _ _ _ _ _ _ _ _ _ _ _ _ _ _ _ _ _ _ _ _ _ _ _ _ _ _ _ _ _ _ _ _ _ _ _ _ _ _ _ _ _ _ _ _ _ _ _ _ _ _ _ _ _ _ _ _ _ _ _ _ _ _ _ _ _ _ _ _ _ _ _ _ _ _ _ _ _ _ _ _ _ _ _ _ _ HD.out
end Go.Proofs.YtdhjoimiejdgbabDoor.L
