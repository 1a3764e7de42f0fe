import Derived.Test.YtlhlpamciafocaaGreatDoorSxE
namespace Go.Proofs.YtlhlpamciafocaaGreatDoor.L
open Go.RowKit
set_option linter.unusedVariables false
set_option linter.unusedSimpArgs false
theorem nest_in {T : List Pt} {m : Int} (h : Res T 0 0) (hn : Sw.NestR T m) : 0 ≤ m ∧ m ≤ 32 := by
  have h1 := h.ok
  have h0 := nest_root h1.2.2.1 h1.1
  have h2 := hn.1 (T.length - 1) (by omega)
  rw [h0] at h2
  obtain ⟨j, hj, e⟩ := hn.2
  refine ⟨h2, ?_⟩
  rcases h with ⟨_, h, _⟩ | ⟨_, h, _⟩ | ⟨_, _, ⟨_, h⟩ | ⟨_, _, h, _⟩ | ⟨_, _, ⟨_, h⟩ | ⟨h, _⟩⟩⟩
  · omega
  · omega
  · omega
  · omega
  · omega
  · have := h j hj
    omega
theorem res_gd {T : List Pt} (h : Res T 0 0) : GdT T := ⟨by have := (res_kids h).1; omega, fun j hj => by have := (res_kids h).2 j hj; omega⟩
set_option maxHeartbeats 8000000 in
set_option maxRecDepth 100000 in
theorem showsource_any (src : ByteArray) (w : World) (hv : Vars w) (ht : Sw.TabW w) : Calls Tryz.prog 4 #[.string src] w fun e w' => e = .returned (.bool true) ∧ Below w.heap.size w w' := by
  have HV := hid hv
  have HTV := hid ht
  clear hv ht
  go_enter Tryz.func4, Tryz.ntmps4
  go_wp2_with fail
  refine (Sw.awake_any w).mono ?_
  rintro e W1 ⟨rfl, l1⟩
  have HL1 := hid l1
  clear l1
  go_wp2_with fail
  refine (parse_any src W1 (HV.out.low HL1.out)).mono ?_
  rintro e W2 ⟨hp, l2⟩
  have HL2 := hid (bch HL1.out l2)
  clear l2
  cases hpr : parR src with
  | error q =>
    obtain ⟨c, x⟩ := q
    obtain ⟨N, rfl, -⟩ := par_bad hpr hp
    clear hp hpr
    unfold fv
    go_upto_region 4 with fail
    have HB3 := hid (belowA W2 (.cells #[.slice none 0 0] 24))
    have HX3 := hid (heap_alloc_new W2 (.cells #[.slice none 0 0] 24))
    have HL3 := hid (bch HL2.out HB3.out)
    generalize W2.alloc (.cells #[.slice none 0 0] 24) = W3 at *
    generalize W2.heap.size = b3 at *
    have x3 : W3.cell? ⟨b3, 0, none⟩ = some (.slice none 0 0) := cell_of_row _ _ 0 _ _ _ HX3.out
    go_wp2_with fail
    go_ret
    exact ⟨rfl, HL3.out⟩
  | ok s =>
    obtain ⟨va, vc, oa, oc, rfl, hpl, -⟩ := par_ok hpr hp
    have HR := hid (valid_of hpr)
    clear hp hpr
    generalize s.os.length = on
    generalize hT : s.ps = T at *
    clear hT s
    obtain ⟨L, hL⟩ : ∃ L, L = T.length := ⟨_, rfl⟩
    have HL := hid hL
    rw [← hL]
    clear hL
    have HGD := hid (res_gd HR.out)
    have HPL2 := hid hpl
    clear hpl
    go_upto_region 4 with fail
    have HB3 := hid (belowA W2 (.cells #[.slice va L vc] 24))
    have HX3 := hid (heap_alloc_new W2 (.cells #[.slice va L vc] 24))
    have HL3 := hid (bch HL2.out HB3.out)
    have HPL3 := hid (HPL2.out.low HB3.out)
    generalize W2.alloc (.cells #[.slice va L vc] 24) = W3 at *
    generalize W2.heap.size = b3 at *
    have x3 : W3.cell? ⟨b3, 0, none⟩ = some (.slice va L vc) := cell_of_row _ _ 0 _ _ _ HX3.out
    clear HB3 HPL2
    go_wp2_with fail
    refine (show Calls Tryz.prog 9 #[.agg #[.slice va L vc]] W3 _ from by rw [HL.out]; exact Sw.copy_any va T vc W3 HPL3.out HGD.out).mono ?_
    rintro e W4 ⟨ca4, cc4, rfl, hcp, l4⟩
    have HL4 := hid (bch HL3.out l4)
    have HX4 := hid ((l4.block _ (lt_blk HX3.out)).trans HX3.out)
    have HPL4 := hid (HPL3.out.low l4)
    have HCP4 := hid hcp.pl
    rw [← HL.out]
    clear hcp
    clear l4 x3
    have x4 : W4.cell? ⟨b3, 0, none⟩ = some (.slice va L vc) := cell_of_row _ _ 0 _ _ _ HX4.out
    clear HX3 HPL3
    go_wp2_with fail
    refine (show Calls Tryz.prog 14 #[.agg #[.slice ca4 L cc4]] W4 _ from by rw [HL.out]; exact Sw.nest_any ca4 T cc4 W4 HCP4.out HGD.out).mono ?_
    rintro e W5 ⟨m, ev, rfl, l5, he, hm⟩
    have HL5 := hid (bch HL4.out l5)
    have HX5 := hid ((l5.block _ (lt_blk HX4.out)).trans HX4.out)
    have HPL5 := hid (HPL4.out.low l5)
    obtain rfl := err_nil he HR.out
    have hmm : 0 ≤ m ∧ m ≤ 32 := by
      rcases hm with ⟨h, _⟩ | ⟨_, h⟩
      · exact absurd rfl h
      · exact nest_in HR.out h
    obtain ⟨hm0, hm32⟩ := hmm
    clear he hm HCP4
    clear l5 x4
    have x5 : W5.cell? ⟨b3, 0, none⟩ = some (.slice va L vc) := cell_of_row _ _ 0 _ _ _ HX5.out
    clear HX4 HPL4
    go_wp2_with fail
    refine (show Calls Tryz.prog 9 #[.agg #[.slice va L vc]] W5 _ from by rw [HL.out]; exact Sw.copy_any va T vc W5 HPL5.out HGD.out).mono ?_
    rintro e W6 ⟨ca6, cc6, rfl, hcp, l6⟩
    have HL6 := hid (bch HL5.out l6)
    have HX6 := hid ((l6.block _ (lt_blk HX5.out)).trans HX5.out)
    have HPL6 := hid (HPL5.out.low l6)
    have HCP6 := hid hcp.pl
    rw [← HL.out]
    clear hcp
    clear l6 x5
    have x6 : W6.cell? ⟨b3, 0, none⟩ = some (.slice va L vc) := cell_of_row _ _ 0 _ _ _ HX6.out
    clear HX5 HPL5
    go_wp2_with fail
    refine (show Calls Tryz.prog 8 #[.agg #[.slice ca6 L cc6]] W6 _ from by rw [HL.out]; exact Sw.valid_any ca6 T cc6 W6 HCP6.out HGD.out).mono ?_
    rintro e W7 ⟨ev, rfl, l7, he⟩
    have HL7 := hid (bch HL6.out l7)
    have HX7 := hid ((l7.block _ (lt_blk HX6.out)).trans HX6.out)
    have HPL7 := hid (HPL6.out.low l7)
    obtain rfl := err_nil he HR.out
    clear he HCP6 
    clear l7 x6
    have x7 : W7.cell? ⟨b3, 0, none⟩ = some (.slice va L vc) := cell_of_row _ _ 0 _ _ _ HX7.out
    clear HX6 HPL6
    go_wp2_with fail
    refine (show Calls Tryz.prog 9 #[.agg #[.slice va L vc]] W7 _ from by rw [HL.out]; exact Sw.copy_any va T vc W7 HPL7.out HGD.out).mono ?_
    rintro e W8 ⟨ca8, cc8, rfl, hcp, l8⟩
    have HL8 := hid (bch HL7.out l8)
    have HX8 := hid ((l8.block _ (lt_blk HX7.out)).trans HX7.out)
    have HPL8 := hid (HPL7.out.low l8)
    have HCP8 := hid hcp.pl
    rw [← HL.out]
    clear hcp
    clear l8 x7
    have x8 : W8.cell? ⟨b3, 0, none⟩ = some (.slice va L vc) := cell_of_row _ _ 0 _ _ _ HX8.out
    clear HX7 HPL7
    go_wp2_with fail
    refine (show Calls Tryz.prog 10 #[.agg #[.slice ca8 L cc8]] W8 _ from by rw [HL.out]; exact Sw.text_any ca8 T cc8 W8 HCP8.out HGD.out (HTV.out.low HL8.out)).mono ?_
    rintro e W9 ⟨R, ev, rfl, l9, hx⟩
    have HL9 := hid (bch HL8.out l9)
    have HX9 := hid ((l9.block _ (lt_blk HX8.out)).trans HX8.out)
    have HPL9 := hid (HPL8.out.low l9)
    clear HCP8 
    clear l9 x8
    have x9 : W9.cell? ⟨b3, 0, none⟩ = some (.slice va L vc) := cell_of_row _ _ 0 _ _ _ HX9.out
    clear HX8 HPL8
    rcases hx with ⟨he, hne, -⟩ | ⟨-, hs, rfl, rfl⟩ | ⟨-, hs, rfl, N, rfl, hf, -⟩
    · exact absurd (err_nil he HR.out) hne
    rotate_left
    · have HRF := hid (Sw.refusal_yes N 131 (-1) W9 hf (by decide))
      unfold fv at *
      go_wp2_with fail
      refine HRF.out.mono ?_
      rintro e W10 ⟨rfl, l10⟩
      have HL10 := hid (bch HL9.out l10)
      clear l10
      go_wp2_with fail
      go_ret
      exact ⟨rfl, HL10.out⟩
    obtain ⟨s2, h1, h2⟩ := reads_res HR.out hs
    have HSH := hid hs
    obtain ⟨R, hRe⟩ : ∃ R, R = S ((txs T T.length).getD (T.length - 1) []) := ⟨_, rfl⟩
    rw [← hRe] at h1 ⊢
    have HRE := hid hRe
    have HP := hid h1
    have HP2 := hid h2
    clear hs h1 h2 hRe
    go_wp2_with fail
    refine (parse_any R W9 (HV.out.low HL9.out)).mono ?_
    rintro e W10 ⟨hp, l10⟩
    have HL10 := hid (bch HL9.out l10)
    have HX10 := hid ((l10.block _ (lt_blk HX9.out)).trans HX9.out)
    have HPL10 := hid (HPL9.out.low l10)
    obtain ⟨ya, yc, oa2, oc2, rfl, hpl, -⟩ := par_ok HP.out hp
    rw [HP2.out] at hpl ⊢
    have HYL := hid hpl.pl
    rw [← HL.out]
    clear hp hpl
    clear l10 x9
    have x10 : W10.cell? ⟨b3, 0, none⟩ = some (.slice va L vc) := cell_of_row _ _ 0 _ _ _ HX10.out
    clear HX9 HPL9
    go_upto_region 13 with fail
    have HBA := hid (belowA W10 (.cells #[.slice ya L yc] 24))
    have HYA := hid (heap_alloc_new W10 (.cells #[.slice ya L yc] 24))
    have HXA := hid ((HBA.out.block _ (lt_blk HX10.out)).trans HX10.out)
    have HLA := hid (bch HL10.out HBA.out)
    have HPLA := hid (HPL10.out.low HBA.out)
    have HYLA := hid (HYL.out.low HBA.out)
    clear HYL HPL10 HX10 x10 HBA
    generalize W10.alloc (.cells #[.slice ya L yc] 24) = WA at *
    generalize W10.heap.size = bA at *
    have xA : WA.cell? ⟨b3, 0, none⟩ = some (.slice va L vc) := cell_of_row _ _ 0 _ _ _ HXA.out
    have yA : WA.cell? ⟨bA, 0, none⟩ = some (.slice ya L yc) := cell_of_row _ _ 0 _ _ _ HYA.out
    go_wp2_with fail
    refine (show Calls Tryz.prog 13 #[.agg #[.slice ya L yc], .agg #[.slice va L vc]] WA _ from by rw [HL.out]; exact sametree_any ya va T T yc vc WA HYLA.out HPLA.out.pl (res_kids HR.out).1 (res_kids HR.out).1 (res_kids HR.out).2 (res_kids HR.out).2).mono ?_
    rintro e WB ⟨r, rfl, hr, lB⟩
    obtain rfl : r = true := hr.2 rfl
    have HLB := hid (bch HLA.out lB)
    have HYB := hid ((lB.block _ (lt_blk HYA.out)).trans HYA.out)
    have HYLB := hid (HYLA.out.low lB)
    clear lB hr xA yA
    have yB : WB.cell? ⟨bA, 0, none⟩ = some (.slice ya L yc) := cell_of_row _ _ 0 _ _ _ HYB.out
    go_wp2_with fail
    refine (show Calls Tryz.prog 10 #[.agg #[.slice ya L yc]] WB _ from by rw [HL.out]; exact Sw.text_any ya T yc WB HYLB.out HGD.out (HTV.out.low HLB.out)).mono ?_
    rintro e WC ⟨R2, ev, rfl, lC, hx⟩
    have HLC := hid (bch HLB.out lC)
    clear lC yB
    rcases hx with ⟨he, hne, -⟩ | ⟨-, -, rfl, hR2⟩ | ⟨-, hs, -⟩
    · exact absurd (err_nil he HR.out) hne
    · rw [← HRE.out] at hR2
      subst hR2
      go_wp2_with fail
      go_ret
      exact ⟨rfl, HLC.out⟩
    · exact absurd HSH.out hs
end Go.Proofs.YtlhlpamciafocaaGreatDoor.L
