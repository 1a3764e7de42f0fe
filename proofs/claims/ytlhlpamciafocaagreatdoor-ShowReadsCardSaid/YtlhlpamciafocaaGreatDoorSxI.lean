import Derived.Test.YtlhlpamciafocaaGreatDoorSxH
namespace Go.Proofs.YtlhlpamciafocaaGreatDoor.L
open Go.RowKit
set_option linter.unusedVariables false
set_option linter.unusedSimpArgs false
theorem res_code {T : List Pt} {c i : Nat} (h : Res T c i) : c ≤ 1000 ∧ i ≤ 1000000 ∨ 1000 < T.length := by
  rcases h with ⟨h0, rfl, rfl⟩ | ⟨h0, rfl, rfl⟩ | ⟨h0, h1, h⟩
  · exact Or.inl (by omega)
  · exact Or.inl (by omega)
  · refine Or.inl ?_
    rcases h with ⟨hb, rfl⟩ | ⟨_, _, rfl, rfl⟩ | ⟨_, _, ⟨hd, rfl⟩ | ⟨_, rfl, rfl⟩⟩
    · have := hb.1; omega
    · omega
    · have := hd.1; omega
    · omega
theorem res_codes {T : List Pt} {c i : Nat} (h : Res T c i) : c ≤ 1000 ∧ i ≤ 1000000 := by
  rcases h with ⟨h0, rfl, rfl⟩ | ⟨h0, rfl, rfl⟩ | ⟨h0, h1, h⟩
  · omega
  · omega
  · rcases h with ⟨hb, rfl⟩ | ⟨_, _, rfl, rfl⟩ | ⟨_, _, ⟨hd, rfl⟩ | ⟨_, rfl, rfl⟩⟩
    · have := hb.1; omega
    · omega
    · have := hd.1; omega
    · omega
theorem err_only {T : List Pt} {B : Nat} {W : World} {s : ByteArray} {ev : Value} {c i : Nat} (h : Sw.TxR T B W s ev) (hr : Res T c i) (hc : c ≠ 0) : s = ⟨#[]⟩ ∧ ∃ N : Nat, ev = fv N ∧ Sw.Flt W N c i := by
  rcases h with ⟨he, hne, rfl⟩ | ⟨h0, _⟩ | ⟨h0, _⟩
  · obtain ⟨N, c', i', rfl, hf, -, hr', -⟩ := err_yes he hne
    obtain ⟨rfl, rfl⟩ := res_one hr' hr
    exact ⟨rfl, N, rfl, hf⟩
  · exact absurd (res_one hr h0).1 hc
  · exact absurd (res_one hr h0).1 hc
set_option maxHeartbeats 8000000 in
set_option maxRecDepth 100000 in
theorem showreads_any (a : Option Addr) (T : List Pt) (ac : Nat) (b : Option Addr) (U : List Pt) (bc : Nat) (w : World) (hT : PLs w a T) (hG : GdT T) (hU : PLs w b U) (hGU : GdT U) (hv : Vars w) (ht : Sw.TabW w) : Calls Tryz.prog 3 #[.agg #[.slice a T.length ac], .agg #[.slice b U.length bc]] w fun e w' => e = .returned (.bool true) ∧ Below w.heap.size w w' := by
  have HV := hid hv
  have HTV := hid ht
  have HGD := hid hG
  have HGU := hid hGU
  have HPT := hid hT
  have HPU := hid hU
  obtain ⟨L, hL⟩ : ∃ L, L = T.length := ⟨_, rfl⟩
  obtain ⟨M, hM⟩ : ∃ M, M = U.length := ⟨_, rfl⟩
  have HL := hid hL
  have HM := hid hM
  rw [← hL, ← hM]
  clear hv ht hG hGU hT hU hL hM
  have HL1 := hid (show Below w.heap.size w ((w.alloc (.cells #[.slice a L ac] 24)).alloc (.cells #[.slice b M bc] 24)) from (belowA w _).trans ((belowA _ _).mono (belowA w _).size))
  have HX1 := hid (show ((w.alloc (.cells #[.slice a L ac] 24)).alloc (.cells #[.slice b M bc] 24)).heap[w.heap.size]? = some (.cells #[.slice a L ac] 24 (0, 0)) from ((belowA (w.alloc (.cells #[.slice a L ac] 24)) _).block _ (by simp)).trans (heap_alloc_new w _))
  have HY1 := hid (show ((w.alloc (.cells #[.slice a L ac] 24)).alloc (.cells #[.slice b M bc] 24)).heap[w.heap.size + 1]? = some (.cells #[.slice b M bc] 24 (0, 0)) from (by have h1 := heap_alloc_new (w.alloc (.cells #[.slice a L ac] 24)) (.cells #[.slice b M bc] 24); rw [World.size_alloc] at h1; exact h1))
  go_enter Tryz.func3, Tryz.ntmps3
  go_upto_region 1 with fail
  generalize ((w.alloc (.cells #[.slice a L ac] 24)).alloc (.cells #[.slice b M bc] 24)) = W1 at *
  have HPT1 := hid (HPT.out.low HL1.out)
  have HPU1 := hid (HPU.out.low HL1.out)
  obtain ⟨b0, hb0⟩ : ∃ b0, b0 = w.heap.size := ⟨_, rfl⟩
  obtain ⟨b1, hb1⟩ : ∃ b1, b1 = b0 + 1 := ⟨_, rfl⟩
  rw [← hb0, ← hb1] at HY1
  rw [← hb0] at HX1 ⊢
  rw [← hb1]
  clear hb0 hb1
  have x1 : W1.cell? ⟨b0, 0, none⟩ = some (.slice a L ac) := cell_of_row _ _ 0 _ _ _ HX1.out
  go_wp2_with fail
  refine (Sw.awake_any W1).mono ?_
  rintro e W2 ⟨rfl, l2⟩
  have HL2 := hid (bch HL1.out l2)
  have HX2 := hid ((l2.block _ (lt_blk HX1.out)).trans HX1.out)
  have HY2 := hid ((l2.block _ (lt_blk HY1.out)).trans HY1.out)
  have HPT2 := hid (HPT1.out.low l2)
  have HPU2 := hid (HPU1.out.low l2)
  (try clear l2)
  (try clear x1)
  (try clear y1)
  have x2 : W2.cell? ⟨b0, 0, none⟩ = some (.slice a L ac) := cell_of_row _ _ 0 _ _ _ HX2.out
  clear HX1 HY1 HPT1 HPU1
  go_wp2_with fail
  refine (show Calls Tryz.prog 9 #[.agg #[.slice a L ac]] W2 _ from by rw [HL.out]; exact Sw.copy_any a T ac W2 HPT2.out HGD.out).mono ?_
  rintro e W3 ⟨ca3, cc3, rfl, hcp, l3⟩
  have HL3 := hid (bch HL2.out l3)
  have HX3 := hid ((l3.block _ (lt_blk HX2.out)).trans HX2.out)
  have HY3 := hid ((l3.block _ (lt_blk HY2.out)).trans HY2.out)
  have HPT3 := hid (HPT2.out.low l3)
  have HPU3 := hid (HPU2.out.low l3)
  have HCP3 := hid hcp.pl
  rw [← HL.out]
  clear hcp
  (try clear l3)
  (try clear x2)
  (try clear y2)
  clear HX2 HY2 HPT2 HPU2
  go_wp2_with fail
  refine (show Calls Tryz.prog 8 #[.agg #[.slice ca3 L cc3]] W3 _ from by rw [HL.out]; exact Sw.valid_any ca3 T cc3 W3 HCP3.out HGD.out).mono ?_
  rintro e W4 ⟨ev, rfl, l4, he⟩
  have HL4 := hid (bch HL3.out l4)
  have HX4 := hid ((l4.block _ (lt_blk HX3.out)).trans HX3.out)
  have HY4 := hid ((l4.block _ (lt_blk HY3.out)).trans HY3.out)
  have HPT4 := hid (HPT3.out.low l4)
  have HPU4 := hid (HPU3.out.low l4)
  have HEV4 := hid he
  clear he HCP3
  (try clear l4)
  (try clear x3)
  (try clear y3)
  have x4 : W4.cell? ⟨b0, 0, none⟩ = some (.slice a L ac) := cell_of_row _ _ 0 _ _ _ HX4.out
  clear HX3 HY3 HPT3 HPU3
  go_wp2_with fail
  refine (show Calls Tryz.prog 9 #[.agg #[.slice a L ac]] W4 _ from by rw [HL.out]; exact Sw.copy_any a T ac W4 HPT4.out HGD.out).mono ?_
  rintro e W5 ⟨ca5, cc5, rfl, hcp, l5⟩
  have HL5 := hid (bch HL4.out l5)
  have HX5 := hid ((l5.block _ (lt_blk HX4.out)).trans HX4.out)
  have HY5 := hid ((l5.block _ (lt_blk HY4.out)).trans HY4.out)
  have HPT5 := hid (HPT4.out.low l5)
  have HPU5 := hid (HPU4.out.low l5)
  have HCP5 := hid hcp.pl
  rw [← HL.out]
  clear hcp
  have LC5 := hid l5
  (try clear l5)
  (try clear x4)
  (try clear y4)
  clear HX4 HY4 HPT4 HPU4
  go_wp2_with fail
  refine (show Calls Tryz.prog 10 #[.agg #[.slice ca5 L cc5]] W5 _ from by rw [HL.out]; exact Sw.text_any ca5 T cc5 W5 HCP5.out HGD.out (HTV.out.low HL5.out)).mono ?_
  rintro e W6 ⟨R, e2, rfl, l6, hx⟩
  have HL6 := hid (bch HL5.out l6)
  have HX6 := hid ((l6.block _ (lt_blk HX5.out)).trans HX5.out)
  have HY6 := hid ((l6.block _ (lt_blk HY5.out)).trans HY5.out)
  have HPT6 := hid (HPT5.out.low l6)
  have HPU6 := hid (HPU5.out.low l6)
  have HTX := hid hx
  clear hx HCP5
  have LC6 := hid l6
  (try clear l6)
  (try clear x5)
  (try clear y5)
  have x6 : W6.cell? ⟨b0, 0, none⟩ = some (.slice a L ac) := cell_of_row _ _ 0 _ _ _ HX6.out
  clear HX5 HY5 HPT5 HPU5
  rcases HEV4.out with ⟨rfl, hr⟩ | ⟨N, c, i, rfl, hf, -, hr, hc⟩
  rotate_left
  · obtain ⟨rfl, N2, rfl, hf2⟩ := err_only HTX.out hr hc
    have hf9 : Sw.Flt W6 N c i := (hf.low LC5.out).low LC6.out
    have hcs := res_codes hr
    have HA := hid (faulterr_any N2 c i hcs.1 hcs.2 W6 hf2 (HTV.out.low HL6.out))
    have HB := hid (fun W h ht => faulterr_any N c i hcs.1 hcs.2 W h ht)
    have HF := hid hf9
    clear hf hf2 hr hc hcs hf9 x6
    generalize fltT c i = E at *
    unfold fv
    go_wp2_with fail
    refine HA.out.mono ?_
    rintro e WA ⟨rfl, lA⟩
    have HFA := hid (HF.out.low lA)
    have HLA := hid (bch HL6.out lA)
    clear lA
    go_wp2_with fail
    refine (HB.out WA HFA.out (HTV.out.low HLA.out)).mono ?_
    rintro e WB ⟨rfl, lB⟩
    have HLB := hid (bch HLA.out lB)
    clear lB
    go_wp2_with fail
    go_ret
    exact ⟨rfl, HLB.out⟩
  have HR := hid hr
  clear hr
  rcases HTX.out with ⟨he, hne, -⟩ | ⟨-, hs, rfl, rfl⟩ | ⟨-, hs, rfl, N, rfl, hf, -⟩
  · exact absurd (err_nil he HR.out) hne
  rotate_left
  · have HRF := hid (Sw.refusal_yes N 131 (-1) W6 hf (by decide))
    clear hf hs
    unfold fv at *
    go_wp2_with fail
    refine HRF.out.mono ?_
    rintro e WA ⟨rfl, lA⟩
    have HLA := hid (bch HL6.out lA)
    clear lA
    go_wp2_with fail
    go_ret
    exact ⟨rfl, HLA.out⟩
  obtain ⟨s2, h1, h2⟩ := reads_res HR.out hs
  have hlen := shrt_len HR.out hs
  have HSH := hid hs
  clear HTX hs
  obtain ⟨R, hRe⟩ : ∃ R, R = S ((txs T T.length).getD (T.length - 1) []) := ⟨_, rfl⟩
  rw [← hRe] at h1 hlen ⊢
  have hlen' : ((R.size : Nat) : Int) ≤ 4096 := by omega
  have hR0 : 0 < R.size := by
    have r := either_ok h1
    have hp : 0 < s2.ps.length := by rw [h2]; exact HR.out.ok.1
    obtain ⟨n, _, hn, _⟩ := r.bg 0 hp
    omega
  have hRe0 : (R.toList == []) = false := by
    have : R.toList ≠ [] := by
      intro h
      have h3 : R.toList.length = R.size := by rw [ByteArray.toList_eq]; exact Array.length_toList
      rw [h] at h3
      simp at h3
      omega
    simpa using this
  have hos2 : s2.os.length = L := by rw [(either_ok h1).len, h2, HL.out]
  have HRE := hid hRe
  have HP := hid h1
  have HP2 := hid h2
  have HOS := hid hos2
  have hLL : ((L : Int) != (L : Int)) = false := by simp
  clear h1 h2 hRe hos2 hR0
  go_wp2_with fail
  refine (parse_any R W6 (HV.out.low HL6.out)).mono ?_
  rintro e W7 ⟨hp, l7⟩
  have HL7 := hid (bch HL6.out l7)
  have HX7 := hid ((l7.block _ (lt_blk HX6.out)).trans HX6.out)
  have HY7 := hid ((l7.block _ (lt_blk HY6.out)).trans HY6.out)
  have HPT7 := hid (HPT6.out.low l7)
  have HPU7 := hid (HPU6.out.low l7)
  obtain ⟨ya, yc, oa2, oc2, rfl, hpl, -⟩ := par_ok HP.out hp
  rw [HP2.out] at hpl ⊢
  rw [HOS.out]
  have HYL := hid hpl.pl
  rw [← HL.out]
  clear hp hpl
  (try clear l7)
  (try clear x6)
  (try clear y6)
  clear HX6 HY6 HPT6 HPU6
  go_upto_region 12 with fail
  have HBA := hid (belowA W7 (.cells #[.slice ya L yc] 24))
  have HZA := hid (heap_alloc_new W7 (.cells #[.slice ya L yc] 24))
  have HX9 := hid ((HBA.out.block _ (lt_blk HX7.out)).trans HX7.out)
  have HY9 := hid ((HBA.out.block _ (lt_blk HY7.out)).trans HY7.out)
  have HL9 := hid (bch HL7.out HBA.out)
  have HPT9 := hid (HPT7.out.low HBA.out)
  have HPU9 := hid (HPU7.out.low HBA.out)
  have HYLA := hid (HYL.out.low HBA.out)
  clear HYL HPT7 HPU7 HX7 HY7 HBA
  generalize W7.alloc (.cells #[.slice ya L yc] 24) = W9 at *
  generalize W7.heap.size = bA at *
  have x9 : W9.cell? ⟨b0, 0, none⟩ = some (.slice a L ac) := cell_of_row _ _ 0 _ _ _ HX9.out
  have yA : W9.cell? ⟨bA, 0, none⟩ = some (.slice ya L yc) := cell_of_row _ _ 0 _ _ _ HZA.out
  go_wp2_with fail
  refine (show Calls Tryz.prog 13 #[.agg #[.slice ya L yc], .agg #[.slice a L ac]] W9 _ from by rw [HL.out]; exact sametree_any ya a T T yc ac W9 HYLA.out HPT9.out.pl (res_kids HR.out).1 (res_kids HR.out).1 (res_kids HR.out).2 (res_kids HR.out).2).mono ?_
  rintro e W10 ⟨r, rfl, hr, l10⟩
  have HL10 := hid (bch HL9.out l10)
  have HX10 := hid ((l10.block _ (lt_blk HX9.out)).trans HX9.out)
  have HY10 := hid ((l10.block _ (lt_blk HY9.out)).trans HY9.out)
  have HPT10 := hid (HPT9.out.low l10)
  have HPU10 := hid (HPU9.out.low l10)
  obtain rfl : r = true := hr.2 rfl
  clear hr yA
  (try clear l10)
  (try clear x9)
  (try clear y9)
  have y10 : W10.cell? ⟨b1, 0, none⟩ = some (.slice b M bc) := cell_of_row _ _ 0 _ _ _ HY10.out
  clear HX9 HY9 HPT9 HPU9
  go_wp2_with fail
  refine (show Calls Tryz.prog 9 #[.agg #[.slice b M bc]] W10 _ from by rw [HM.out]; exact Sw.copy_any b U bc W10 HPU10.out HGU.out).mono ?_
  rintro e W11 ⟨ca11, cc11, rfl, hcp, l11⟩
  have HL11 := hid (bch HL10.out l11)
  have HX11 := hid ((l11.block _ (lt_blk HX10.out)).trans HX10.out)
  have HY11 := hid ((l11.block _ (lt_blk HY10.out)).trans HY10.out)
  have HPT11 := hid (HPT10.out.low l11)
  have HPU11 := hid (HPU10.out.low l11)
  have HCP11 := hid hcp.pl
  rw [← HM.out]
  clear hcp
  (try clear l11)
  (try clear x10)
  (try clear y10)
  clear HX10 HY10 HPT10 HPU10
  go_wp2_with fail
  refine (show Calls Tryz.prog 10 #[.agg #[.slice ca11 M cc11]] W11 _ from by rw [HM.out]; exact Sw.text_any ca11 U cc11 W11 HCP11.out HGU.out (HTV.out.low HL11.out)).mono ?_
  rintro e W12 ⟨V, e3, rfl, l12, hx⟩
  have HL12 := hid (bch HL11.out l12)
  have HX12 := hid ((l12.block _ (lt_blk HX11.out)).trans HX11.out)
  have HY12 := hid ((l12.block _ (lt_blk HY11.out)).trans HY11.out)
  have HPT12 := hid (HPT11.out.low l12)
  have HPU12 := hid (HPU11.out.low l12)
  clear HCP11
  (try clear l12)
  (try clear x11)
  (try clear y11)
  have x12 : W12.cell? ⟨b0, 0, none⟩ = some (.slice a L ac) := cell_of_row _ _ 0 _ _ _ HX12.out
  have y12 : W12.cell? ⟨b1, 0, none⟩ = some (.slice b M bc) := cell_of_row _ _ 0 _ _ _ HY12.out
  clear HX11 HY11 HPT11 HPU11
  rcases hx with ⟨he, hne, -⟩ | ⟨hru, hsu, rfl, hV⟩ | ⟨-, hsu, rfl, N, rfl, hf, -⟩
  · obtain ⟨N, c, i, rfl, -⟩ := err_yes he hne
    clear he hne
    unfold fv
    go_wp2_with fail
    go_ret
    exact ⟨rfl, HL12.out⟩
  rotate_left
  · unfold fv
    go_wp2_with fail
    go_ret
    exact ⟨rfl, HL12.out⟩
  have HRU := hid hru
  obtain ⟨s3, h3, h4⟩ := reads_res hru hsu
  rw [← hV] at h3
  have hTU : (V = R) ↔ T = U := by
    constructor
    · intro h
      rw [h] at h3
      have := HP.out
      rw [h3] at this
      injection this with this
      rw [← HP2.out, ← h4, this]
    · intro h
      rw [hV, HRE.out, h]
  clear hru hsu hV h3 h4 s3
  by_cases hVR : V = R
  · have hv1 : (V.toList == R.toList) = true := by rw [hVR]; simp
    have HTU := hid (hTU.1 hVR)
    clear hTU
    subst hVR
    go_wp2_with fail
    refine (show Calls Tryz.prog 13 #[.agg #[.slice a L ac], .agg #[.slice b M bc]] W12 _ from by rw [HL.out, HM.out]; exact sametree_any a b T U ac bc W12 HPT12.out.pl HPU12.out.pl (res_kids HR.out).1 (res_kids HRU.out).1 (res_kids HR.out).2 (res_kids HRU.out).2).mono ?_
    rintro e WZ ⟨r, rfl, hr, lZ⟩
    obtain rfl : r = true := hr.2 HTU.out
    have HLZ := hid (bch HL12.out lZ)
    clear lZ hr
    go_wp2_with fail
    go_ret
    exact ⟨rfl, HLZ.out⟩
  · have hv1 : (V.toList == R.toList) = false := by simpa using fun h => hVR (bytes_inj h)
    have hv2 : ¬ V.toList = R.toList := fun h => hVR (bytes_inj h)
    have HTU := hid (fun h => hVR (hTU.2 h))
    clear hTU hVR
    go_wp2_with fail
    refine (show Calls Tryz.prog 13 #[.agg #[.slice a L ac], .agg #[.slice b M bc]] W12 _ from by rw [HL.out, HM.out]; exact sametree_any a b T U ac bc W12 HPT12.out.pl HPU12.out.pl (res_kids HR.out).1 (res_kids HRU.out).1 (res_kids HR.out).2 (res_kids HRU.out).2).mono ?_
    rintro e WZ ⟨r, rfl, hr, lZ⟩
    obtain rfl : r = false := by
      cases r
      · rfl
      · exact absurd (hr.1 rfl) HTU.out
    have HLZ := hid (bch HL12.out lZ)
    clear lZ hr
    go_wp2_with fail
    go_ret
    exact ⟨rfl, HLZ.out⟩
end Go.Proofs.YtlhlpamciafocaaGreatDoor.L
