import Derived.Test.YtnclpdgbjefpmaaGm
namespace Go.Proofs.Ytnclpdgbjefpmaa.L
open Go.RowKit
set_option linter.unusedVariables false
set_option linter.unusedSimpArgs false
theorem br_take {W : World} {a : Option Addr} {B : List UInt8} (h : BR W a B) (k : Nat) : BR W a (B.take k) := by
  rcases h with h | ⟨b, off, e, h⟩
  · exact Or.inl (by rw [List.length_take]; omega)
  · refine Or.inr ⟨b, off, e, fun j hj => ?_⟩
    rw [List.length_take] at hj
    rw [h j (by omega)]
    congr 2
    rw [List.getD_eq_getElem?_getD, List.getD_eq_getElem?_getD, List.getElem?_take, if_pos (by omega)]
theorem cut_in {c : Int} {n : Nat} (hn : 0 < n) (hm : n ≤ 600000000) (h1 : -9223372036854775808 ≤ c) (h2 : c ≤ 9223372036854775807) : ∃ k : Nat, k < n ∧ Int.tmod (Int.tmod c n + n) n = (k : Int) ∧ IntKind.i64.wrap (Int.tmod c n) = Int.tmod c n ∧ IntKind.i64.wrap (Int.tmod c n + n) = Int.tmod c n + n := by
  have hb1 : -(n : Int) < Int.tmod c n := Int.neg_lt_of_neg_lt (by have := Int.tmod_lt_of_pos (-c) (b := (n : Int)) (by omega); rw [Int.neg_tmod] at this; omega)
  have hb2 : Int.tmod c n < n := Int.tmod_lt_of_pos c (by omega)
  have e1 : IntKind.i64.wrap (Int.tmod c n + n) = Int.tmod c n + n := by rw [IntKind.wrap_i64]; omega
  have e2 : IntKind.i64.wrap (Int.tmod c n) = Int.tmod c n := by rw [IntKind.wrap_i64]; omega
  have h3 : 0 ≤ Int.tmod (Int.tmod c n + n) n := Int.tmod_nonneg _ (by omega)
  have h4 : Int.tmod (Int.tmod c n + n) n < n := Int.tmod_lt_of_pos _ (by omega)
  refine ⟨(Int.tmod (Int.tmod c n + n) n).toNat, by omega, by omega, e2, e1⟩
set_option maxHeartbeats 4000000 in
set_option maxRecDepth 100000 in
theorem codecut_any (pv : Array Value) (p : Pg) (cut : Int) (R : List UInt8) (ra : Option Addr) (rc : Nat) (w : World) (hp : PgN w pv p) (gp : GdP p) (h1 : -9223372036854775808 ≤ cut) (h2 : cut ≤ 9223372036854775807) (hR : BsN w ra rc R) (hRl : R.length ≤ 1073741824) : Calls Try.prog 7 #[.agg pv, .int .i64 cut, .slice ra R.length rc] w fun e w' => e = .returned (.bool true) ∧ Below w.heap.size w w' := by
  obtain ⟨a0, c0, a1, c1, a2, c2, a3, c3, a4, c4, hpv, _⟩ := hp.ex
  obtain ⟨L0, hL0⟩ : ∃ L, L = p.tx.length := ⟨_, rfl⟩
  obtain ⟨L1, hL1⟩ : ∃ L, L = p.nu.length := ⟨_, rfl⟩
  obtain ⟨L2, hL2⟩ : ∃ L, L = p.st.length := ⟨_, rfl⟩
  obtain ⟨L3, hL3⟩ : ∃ L, L = p.ns.length := ⟨_, rfl⟩
  obtain ⟨L4, hL4⟩ : ∃ L, L = p.cd.length := ⟨_, rfl⟩
  obtain ⟨dp, hdp⟩ : ∃ d, d = p.dep := ⟨_, rfl⟩
  obtain ⟨lp, hlp⟩ : ∃ d, d = p.loc := ⟨_, rfl⟩
  obtain ⟨nr, hnr⟩ : ∃ n, n = R.length := ⟨_, rfl⟩
  rw [← hL0, ← hL1, ← hL2, ← hL3, ← hL4, ← hdp, ← hlp] at hpv
  have HNR := hid (show nr = R.length ∧ nr ≤ 1073741824 from ⟨hnr, by rw [hnr]; exact hRl⟩)
  have HZR := hid (show ra = none → rc = 0 ∧ nr = 0 from fun h => by rw [hnr]; exact hR.no h)
  rw [← hnr]
  have hnrm : nr ≤ maxLen := by have := HNR.out.2; unfold maxLen; omega
  have HCT := hid (And.intro h1 h2)
  clear hL0 hL1 hL2 hL3 hL4 hdp hlp hnr hRl h1 h2
  subst hpv
  have HGP := hid gp
  have HB1 := hid (belowA w (.cells #[.slice a0 L0 c0, .slice a1 L1 c1, .slice a2 L2 c2, .slice a3 L3 c3, .slice a4 L4 c4, .int .i64 dp, .int .i64 lp] 30))
  have HX1 := hid (heap_alloc_new w (.cells #[.slice a0 L0 c0, .slice a1 L1 c1, .slice a2 L2 c2, .slice a3 L3 c3, .slice a4 L4 c4, .int .i64 dp, .int .i64 lp] 30))
  have HP1 := hid (hp.low HB1.out)
  have HR1 := hid (hR.low HB1.out)
  clear hp gp hR
  go_enter Try.func7, Try.ntmps7
  go_upto_region 1 with fail
  generalize w.alloc (.cells #[.slice a0 L0 c0, .slice a1 L1 c1, .slice a2 L2 c2, .slice a3 L3 c3, .slice a4 L4 c4, .int .i64 dp, .int .i64 lp] 30) = W1 at *
  obtain ⟨pb, hpb⟩ : ∃ b, b = w.heap.size := ⟨_, rfl⟩
  rw [← hpb] at HX1 ⊢
  clear hpb
  go_wp2_with fail
  refine (fixed_any W1).mono ?_
  rintro e W2 ⟨rfl, l2⟩
  have HX2 := hid ((l2.block _ (lt_blk HX1.out)).trans HX1.out)
  have HP2 := hid (HP1.out.low l2)
  have HR2 := hid (HR1.out.low l2)
  have HB2 := hid (bch HB1.out l2)
  clear l2 HX1 HP1 HB1 HR1
  have x0 : W2.cell? ⟨pb, 0, none⟩ = some (.slice a0 L0 c0) := cell_of_row _ _ 0 _ _ _ HX2.out
  have x1 : W2.cell? ⟨pb, 1, none⟩ = some (.slice a1 L1 c1) := cell_of_row _ _ 1 _ _ _ HX2.out
  have x2 : W2.cell? ⟨pb, 2, none⟩ = some (.slice a2 L2 c2) := cell_of_row _ _ 2 _ _ _ HX2.out
  have x3 : W2.cell? ⟨pb, 3, none⟩ = some (.slice a3 L3 c3) := cell_of_row _ _ 3 _ _ _ HX2.out
  have x4 : W2.cell? ⟨pb, 4, none⟩ = some (.slice a4 L4 c4) := cell_of_row _ _ 4 _ _ _ HX2.out
  have x5 : W2.cell? ⟨pb, 5, none⟩ = some (.int .i64 dp) := cell_of_row _ _ 5 _ _ _ HX2.out
  have x6 : W2.cell? ⟨pb, 6, none⟩ = some (.int .i64 lp) := cell_of_row _ _ 6 _ _ _ HX2.out
  have HSM := hid (small_any #[.slice a0 L0 c0, .slice a1 L1 c1, .slice a2 L2 c2, .slice a3 L3 c3, .slice a4 L4 c4, .int .i64 dp, .int .i64 lp] p W2 HP2.out.pg HGP.out)
  go_wp2_with fail
  clear x0 x1 x2 x3 x4 x5 x6
  refine HSM.out.mono ?_
  rintro e W3 ⟨⟨z, rfl, hz⟩, l3⟩
  have HX3 := hid ((l3.block _ (lt_blk HX2.out)).trans HX2.out)
  have HP3 := hid (HP2.out.low l3)
  have HR3 := hid (HR2.out.low l3)
  have HB3 := hid (bch HB2.out l3)
  clear l3 HX2 HP2 HB2 HSM HR2
  cases z with
  | false =>
    go_wp2_with fail
    go_ret
    exact ⟨by first | rfl | simp, HB3.out⟩
  | true =>
    have HSN := hid (hz rfl)
    clear hz
    have x0 : W3.cell? ⟨pb, 0, none⟩ = some (.slice a0 L0 c0) := cell_of_row _ _ 0 _ _ _ HX3.out
    have x1 : W3.cell? ⟨pb, 1, none⟩ = some (.slice a1 L1 c1) := cell_of_row _ _ 1 _ _ _ HX3.out
    have x2 : W3.cell? ⟨pb, 2, none⟩ = some (.slice a2 L2 c2) := cell_of_row _ _ 2 _ _ _ HX3.out
    have x3 : W3.cell? ⟨pb, 3, none⟩ = some (.slice a3 L3 c3) := cell_of_row _ _ 3 _ _ _ HX3.out
    have x4 : W3.cell? ⟨pb, 4, none⟩ = some (.slice a4 L4 c4) := cell_of_row _ _ 4 _ _ _ HX3.out
    have x5 : W3.cell? ⟨pb, 5, none⟩ = some (.int .i64 dp) := cell_of_row _ _ 5 _ _ _ HX3.out
    have x6 : W3.cell? ⟨pb, 6, none⟩ = some (.int .i64 lp) := cell_of_row _ _ 6 _ _ _ HX3.out
    have HCP := hid (copy_any #[.slice a0 L0 c0, .slice a1 L1 c1, .slice a2 L2 c2, .slice a3 L3 c3, .slice a4 L4 c4, .int .i64 dp, .int .i64 lp] p W3 HP3.out HSN.out)
    go_wp2_with fail
    clear x0 x1 x2 x3 x4 x5 x6
    refine HCP.out.mono ?_
    rintro e W4 ⟨⟨qv, rfl, hq⟩, l4⟩
    have HR4 := hid (HR3.out.low l4)
    have HB4 := hid (bch HB3.out l4)
    have HEN := hid (encode_any p qv W4 hq HGP.out)
    clear l4 HX3 HP3 HB3 HCP hq HR3
    go_wp2_with fail
    refine HEN.out.mono ?_
    rintro e W5 ⟨l5, hno, hyes⟩
    have HR5 := hid (HR4.out.low l5)
    have HB5 := hid (bch HB4.out l5)
    clear l5 HB4 HEN HR4
    cases hf : formB p with
    | false =>
      obtain rfl := hno hf
      clear hno hyes hf
      go_wp2_with fail
      go_ret
      exact ⟨by first | rfl | simp, HB5.out⟩
    | true =>
      obtain ⟨v', rfl, hob⟩ := hyes hf
      have hfp := (form_iff p).2 hf
      have HFP := hid hfp
      have hfm := (formB_iff p).1 hf
      clear hno hyes hf
      obtain ⟨ba, bc, rfl, hbr, hbl, hbc, hbm⟩ := own_br hob
      have HEL := enc_len hfm
      have hpos : 0 < (enc p).length := by rw [enc_eq]; simp
      have HNOB := hid (show ba ≠ none from fun h => by rcases hbr with h0 | ⟨_, _, e, _⟩; (omega); (rw [h] at e; cases e))
      have HBR5 := hid hbr
      clear hob hbr hbl hbm hfm hfp
      obtain ⟨en, hen⟩ : ∃ n, n = (enc p).length := ⟨_, rfl⟩
      rw [← hen] at hpos HEL hbc ⊢
      have HEN := hid hen
      clear hen
      have henm : en ≤ maxLen := by unfold maxLen; omega
      obtain ⟨k, hk, hk1, hk2, hk3⟩ := cut_in hpos HEL HCT.out.1 HCT.out.2
      have HDC := hid (show dec ((enc p).take k) = .error (201, k) from dec_cut HFP.out (by rw [← HEN.out]; exact hk))
      have HKL := hid (show k = ((enc p).take k).length ∧ k ≤ 600000000 from ⟨by rw [List.length_take, ← HEN.out]; omega, by omega⟩)
      have HBT := hid (br_take HBR5.out k)
      have HNO5 := hid (show ba = none → bc = 0 ∧ k = 0 from fun h => absurd h HNOB.out)
      have hen0 : ¬ (en : Int) = 0 := by omega
      have hen1 : ((en : Int) == 0) = false := by simpa using hen0
      have HBC := hid hbc
      have HPOS := hid (And.intro hpos HEL)
      have k0 : (0 : Int) ≤ (k : Int) := by omega
      have k1 : (k : Int) ≤ (bc : Int) := by omega
      have k2 : k ≤ bc := by omega
      clear hbc hpos HEL
      go_upto_region 12 with fail
      try rw [hk1]
      clear hk1 hk2 hk3
      try generalize cut.tmod ↑en = cz at *
      obtain ⟨i0, hi, hz0, hz1, hz2⟩ := info_parts infoB
      go_wp2_with (at_builtin; go_loud (refine wpl_app rfl _ _ 32 rfl W5.heap.size 5 i0 (.int .u8 0) 1 1 Try.underlying32 hi hz0 hz1 hz2 rfl (by decide) (.slice (some ⟨W5.heap.size, 0, none⟩) 0 0) 0 [] rfl (World.ownsRow_made W5 #[] 0 (Nat.le_refl _) (Nat.zero_le _) rfl) ba k bc (Lib.byteCells ((enc p).take k)) rfl (fun h => HNO5.out h) (by rw [Nat.mul_one, byteCells_eq, List.length_map]; exact HKL.out.1.symm) (br_news (br_below HBT.out (belowA W5 _))) (by intro u hu; rw [byteCells_eq, List.mem_map] at hu; obtain ⟨z, _, rfl⟩ := hu; rfl) (by have := HKL.out.2; unfold maxLen; omega) (by have := HKL.out.2; omega) (by simp) ?_))
      clear hi hz0 hz1 hz2 i0
      intro vs W6 hos hgs
      obtain ⟨xs, ns, ys, rfl⟩ := row_form hos
      have hobs : OwnB W6 W5.heap.size (.slice xs ns ys) ((enc p).take k) := by
        unfold OwnB
        (try rw [Nat.zero_add, List.nil_append] at hos); rw [← HKL.out.1]
        exact hos
      have HLs := hid (grown_new hgs)
      clear hos hgs
      obtain ⟨xas, xcs, hxes, hbrs, hbls, hbcs, hbms⟩ := own_br hobs
      injection hxes with e1 e2 e3
      subst e1 e2 e3
      have HDEs := hid (decode_any ((enc p).take k) xs ys W6 hbrs hbls (by have h1 := HKL.out; omega) hbcs hbms)
      rw [← HKL.out.1] at HDEs ⊢
      clear hobs hbrs hbls hbcs hbms
      have HR6 := hid (HR5.out.low HLs.out)
      have HB6 := hid (bch HB5.out HLs.out)
      have HBR6 := hid (br_below HBR5.out HLs.out)
      clear HLs HR5 HB5 HBR5 HBT
      go_wp2_with fail
      refine HDEs.out.mono ?_
      rintro e W7 ⟨hd, l7⟩
      unfold DeR at hd
      rw [HDC.out] at hd
      obtain ⟨N, rfl, hf⟩ := hd
      have HR7 := hid (HR6.out.low l7)
      have HB7 := hid (bch HB6.out l7)
      have HBR7 := hid (br_below HBR6.out l7)
      clear l7 HDEs HR6 HB6 HBR6
      have HL8 := hid (belowA W7 (.cells #[.slice none 0 0, .slice none 0 0, .slice none 0 0, .slice none 0 0, .slice none 0 0, .int .i64 0, .int .i64 0] 30))
      have HQ8 := hid (heap_alloc_new W7 (.cells #[.slice none 0 0, .slice none 0 0, .slice none 0 0, .slice none 0 0, .slice none 0 0, .int .i64 0, .int .i64 0] 30))
      have HF8 := hid (show Fli _ N 201 k from (HL8.out.block _ (lt_blk hf)).trans hf)
      have HR8 := hid (HR7.out.low HL8.out)
      have HB8 := hid (bch HB7.out HL8.out)
      have HBR8 := hid (br_below HBR7.out HL8.out)
      have HB7S := hid (show w.heap.size ≤ W7.heap.size from HB7.out.size)
      clear hf HL8 HR7 HB7 HBR7
      go_upto_region 13 with fail
      generalize W7.alloc (.cells #[.slice none 0 0, .slice none 0 0, .slice none 0 0, .slice none 0 0, .slice none 0 0, .int .i64 0, .int .i64 0] 30) = W8 at *
      obtain ⟨qb, hqb⟩ : ∃ b, b = W7.heap.size := ⟨_, rfl⟩
      have HQB := hid (show w.heap.size ≤ qb from by rw [hqb]; exact HB7S.out)
      rw [← hqb] at HQ8 ⊢
      clear hqb
      have HIF := hid (isfault_yes N 201 k W8 HF8.out (by omega))
      go_wp2_with fail
      refine HIF.out.mono ?_
      rintro e W8' ⟨rfl, hw⟩
      have hw2 := hw.symm
      subst hw2
      clear hw HIF
      have y0 : W8.cell? ⟨qb, 0, none⟩ = some (.slice none 0 0) := cell_of_row _ _ 0 _ _ _ HQ8.out
      have y1 : W8.cell? ⟨qb, 1, none⟩ = some (.slice none 0 0) := cell_of_row _ _ 1 _ _ _ HQ8.out
      have y2 : W8.cell? ⟨qb, 2, none⟩ = some (.slice none 0 0) := cell_of_row _ _ 2 _ _ _ HQ8.out
      have y3 : W8.cell? ⟨qb, 3, none⟩ = some (.slice none 0 0) := cell_of_row _ _ 3 _ _ _ HQ8.out
      have y4 : W8.cell? ⟨qb, 4, none⟩ = some (.slice none 0 0) := cell_of_row _ _ 4 _ _ _ HQ8.out
      have y5 : W8.cell? ⟨qb, 5, none⟩ = some (.int .i64 0) := cell_of_row _ _ 5 _ _ _ HQ8.out
      have y6 : W8.cell? ⟨qb, 6, none⟩ = some (.int .i64 0) := cell_of_row _ _ 6 _ _ _ HQ8.out
      have HSA := hid (same_any #[.slice none 0 0, .slice none 0 0, .slice none 0 0, .slice none 0 0, .slice none 0 0, .int .i64 0, .int .i64 0] #[.slice none 0 0, .slice none 0 0, .slice none 0 0, .slice none 0 0, .slice none 0 0, .int .i64 0, .int .i64 0] pz pz W8 (pz_pg _) (pz_pg _) pz_gd pz_gd)
      go_wp2_with fail
      clear y0 y1 y2 y3 y4 y5 y6
      refine HSA.out.mono ?_
      rintro e W9 ⟨⟨z, rfl, hz⟩, l9⟩
      obtain rfl : z = true := by simpa using hz
      have HR9 := hid (HR8.out.low l9)
      have HB9 := hid (bch HB8.out l9)
      have HBR9 := hid (br_below HBR8.out l9)
      have HQ9 := hid ((l9.block _ (lt_blk HQ8.out)).trans HQ8.out)
      clear l9 hz HSA HR8 HB8 HBR8 HQ8 HF8
      by_cases hr0 : nr = 0
      · have r0 : ((nr : Int) == 0) = true := by simp [hr0]
        have r1 : (nr : Int) = 0 := by omega
        go_wp2_with fail
        go_ret
        exact ⟨by first | rfl | simp, HB9.out⟩
      · have r0 : ((nr : Int) == 0) = false := by simpa using hr0
        have r1 : ¬ (nr : Int) = 0 := by omega
        have HRNE := hid (show R ≠ [] from fun h => hr0 (by rw [HNR.out.1, h]; rfl))
        have HEL := hid (show en = (enc p).length ∧ en ≤ 600000000 from ⟨HEN.out, HPOS.out.2⟩)
        have HTL := hid (show en + nr = (enc p ++ R).length ∧ en + nr ≤ 1700000000 from ⟨by rw [List.length_append, ← HEN.out, ← HNR.out.1], by have h1 := HPOS.out.2; have h2 := HNR.out.2; omega⟩)
        have HNOE := hid (show ba = none → bc = 0 ∧ en = 0 from fun h => absurd h HNOB.out)
        clear hr0
        go_upto_region 17 with fail
        obtain ⟨i0, hi, hz0, hz1, hz2⟩ := info_parts infoB
        go_wp2_with (at_builtin; go_loud (refine wpl_app rfl _ _ 32 rfl W9.heap.size 5 i0 (.int .u8 0) 1 1 Try.underlying32 hi hz0 hz1 hz2 rfl (by decide) (.slice (some ⟨W9.heap.size, 0, none⟩) 0 0) 0 [] rfl (World.ownsRow_made W9 #[] 0 (Nat.le_refl _) (Nat.zero_le _) rfl) ba en bc (Lib.byteCells (enc p)) rfl (fun h => HNOE.out h) (by rw [Nat.mul_one, byteCells_eq, List.length_map]; exact HEL.out.1.symm) (br_news (br_below HBR9.out (belowA W9 _))) (by intro u hu; rw [byteCells_eq, List.mem_map] at hu; obtain ⟨z, _, rfl⟩ := hu; rfl) (by have := HEL.out.2; unfold maxLen; omega) (by have := HEL.out.2; omega) (by simp) ?_))
        clear hi hz0 hz1 hz2 i0
        intro vt W10 hot hgt
        obtain ⟨xt, nt, yt, rfl⟩ := row_form hot
        have hobt : OwnB W10 W9.heap.size (.slice xt nt yt) (enc p) := by
          unfold OwnB
          (try rw [Nat.zero_add, List.nil_append] at hot); rw [← HEL.out.1]
          exact hot
        have HLt := hid (grown_new hgt)
        clear hot hgt
        have HRT := hid (HR9.out.low HLt.out)
        have HBT2 := hid (bch HB9.out HLt.out)
        have HQT := hid ((HLt.out.block _ (lt_blk HQ9.out)).trans HQ9.out)
        have HOT := hid (show W10.ownsRow W9.heap.size 5 1 (.slice xt nt yt) en (Lib.byteCells (enc p)) from by have h := hobt; unfold OwnB at h; rw [← HEL.out.1] at h; exact h)
        have HSZ := hid (show W9.heap.size ≤ W10.heap.size from HLt.out.size)
        have HQL := hid (show qb < W9.heap.size from lt_blk HQ9.out)
        have HWL := hid (show w.heap.size ≤ W9.heap.size from HB9.out.size)
        clear hobt HLt HR9 HB9 HQ9
        obtain ⟨i0, hi, hz0, hz1, hz2⟩ := info_parts infoB
        have HRB := hid HRT.out.br
        go_wp2_with (at_builtin; go_loud (refine wpl_app rfl _ _ 32 rfl W9.heap.size 5 i0 (.int .u8 0) 1 1 Try.underlying32 hi hz0 hz1 hz2 rfl (by decide) (.slice xt nt yt) en (Lib.byteCells (enc p)) rfl HOT.out ra nr rc (Lib.byteCells R) rfl (fun h => HZR.out h) (by rw [Nat.mul_one, byteCells_eq, List.length_map]; exact HNR.out.1.symm) (br_news HRB.out) (by intro u hu; rw [byteCells_eq, List.mem_map] at hu; obtain ⟨z, _, rfl⟩ := hu; rfl) (by have := HTL.out.2; unfold maxLen; omega) (by have := HTL.out.2; omega) HSZ.out ?_))
        clear hi hz0 hz1 hz2 i0
        intro vu W11 hou hgu
        obtain ⟨xu, nu, yu, rfl⟩ := row_form hou
        have hobu : OwnB W11 W9.heap.size (.slice xu nu yu) (enc p ++ R) := by
          unfold OwnB
          rw [← HTL.out.1, byteCells_eq, List.map_append]
          rw [byteCells_eq, byteCells_eq] at hou
          exact hou
        have HLU := hid (show Below W9.heap.size W9 W11 ∨ True from Or.inr trivial)
        have HBU := hid (show Below w.heap.size w W11 from ⟨hgu.os.trans HBT2.out.os, hgu.tape.trans HBT2.out.tape, hgu.output.trans HBT2.out.output, Nat.le_trans HBT2.out.size hgu.size, fun j hj => (hgu.block j (Nat.lt_of_lt_of_le hj HBT2.out.size) (fun e => by have := (HOT.out.lt j e.symm).1; have := HWL.out; omega)).trans (HBT2.out.block j hj)⟩)
        have HQU := hid (show W11.heap[qb]? = some (.cells #[.slice none 0 0, .slice none 0 0, .slice none 0 0, .slice none 0 0, .slice none 0 0, .int .i64 0, .int .i64 0] 30 (0, 0)) from (hgu.block qb (lt_blk HQT.out) (fun e => by have := (HOT.out.lt qb e.symm).1; have := HQL.out; omega)).trans HQT.out)
        clear hou hgu HRT HBT2 HQT HOT HSZ HRB HLU
        have HDR := hid (show dec (enc p ++ R) = .error (206, (enc p).length) from dec_rest HFP.out HRNE.out)
        obtain ⟨xau, xcu, hxeu, hbru, hblu, hbcu, hbmu⟩ := own_br hobu
        injection hxeu with e1 e2 e3
        subst e1 e2 e3
        have HDEu := hid (decode_any (enc p ++ R) xu yu W11 hbru hblu (by have h1 := HTL.out; omega) hbcu hbmu)
        rw [← HTL.out.1] at HDEu ⊢
        clear hobu hbru hblu hbcu hbmu
        rw [← HEN.out] at HDR
        go_wp2_with fail
        refine HDEu.out.mono ?_
        rintro e W12 ⟨hd, l12⟩
        unfold DeR at hd
        rw [HDR.out] at hd
        obtain ⟨N, rfl, hf⟩ := hd
        have HB12 := hid (bch HBU.out l12)
        have HQ12 := hid ((l12.block _ (lt_blk HQU.out)).trans HQU.out)
        have HF12 := hid hf
        clear hf l12 HDEu HBU HQU
        have y0 : W12.cell? ⟨qb, 0, none⟩ = some (.slice none 0 0) := cell_of_row _ _ 0 _ _ _ HQ12.out
        have y1 : W12.cell? ⟨qb, 1, none⟩ = some (.slice none 0 0) := cell_of_row _ _ 1 _ _ _ HQ12.out
        have y2 : W12.cell? ⟨qb, 2, none⟩ = some (.slice none 0 0) := cell_of_row _ _ 2 _ _ _ HQ12.out
        have y3 : W12.cell? ⟨qb, 3, none⟩ = some (.slice none 0 0) := cell_of_row _ _ 3 _ _ _ HQ12.out
        have y4 : W12.cell? ⟨qb, 4, none⟩ = some (.slice none 0 0) := cell_of_row _ _ 4 _ _ _ HQ12.out
        have y5 : W12.cell? ⟨qb, 5, none⟩ = some (.int .i64 0) := cell_of_row _ _ 5 _ _ _ HQ12.out
        have y6 : W12.cell? ⟨qb, 6, none⟩ = some (.int .i64 0) := cell_of_row _ _ 6 _ _ _ HQ12.out
        have z0 : W12.frozen? ⟨qb, 0, none⟩ = false := frz_row HQ12.out 0
        have z1 : W12.frozen? ⟨qb, 1, none⟩ = false := frz_row HQ12.out 1
        have z2 : W12.frozen? ⟨qb, 2, none⟩ = false := frz_row HQ12.out 2
        have z3 : W12.frozen? ⟨qb, 3, none⟩ = false := frz_row HQ12.out 3
        have z4 : W12.frozen? ⟨qb, 4, none⟩ = false := frz_row HQ12.out 4
        have z5 : W12.frozen? ⟨qb, 5, none⟩ = false := frz_row HQ12.out 5
        have z6 : W12.frozen? ⟨qb, 6, none⟩ = false := frz_row HQ12.out 6
        have HS7 := hid (set7 HQ12.out (.slice none 0 0) (.slice none 0 0) (.slice none 0 0) (.slice none 0 0) (.slice none 0 0) (.int .i64 0) (.int .i64 0))
        have HF13 := hid (show Fli _ N 206 en from HS7.out.2.at HF12.out (fun e => by have h1 : W12.heap[N]? = _ := HF12.out; rw [e, HQ12.out] at h1; cases h1))
        have HB13 := hid (below_gb HB12.out HS7.out.2 HQB.out)
        go_upto_region 18 with fail
        generalize (((((((W12.setCell ⟨qb, 0, none⟩ (.slice none 0 0)).setCell ⟨qb, 1, none⟩ (.slice none 0 0)).setCell ⟨qb, 2, none⟩ (.slice none 0 0)).setCell ⟨qb, 3, none⟩ (.slice none 0 0)).setCell ⟨qb, 4, none⟩ (.slice none 0 0)).setCell ⟨qb, 5, none⟩ (.int .i64 0)).setCell ⟨qb, 6, none⟩ (.int .i64 0)) = W13 at *
        clear y0 y1 y2 y3 y4 y5 y6 z0 z1 z2 z3 z4 z5 z6
        have HIF := hid (isfault_yes N 206 en W13 HF13.out (by omega))
        go_wp2_with fail
        refine HIF.out.mono ?_
        rintro e W13' ⟨rfl, hw⟩
        have hw2 := hw.symm
        subst hw2
        clear hw HIF
        have y0 : W13.cell? ⟨qb, 0, none⟩ = some (.slice none 0 0) := cell_of_row _ _ 0 _ _ _ HS7.out.1
        have y1 : W13.cell? ⟨qb, 1, none⟩ = some (.slice none 0 0) := cell_of_row _ _ 1 _ _ _ HS7.out.1
        have y2 : W13.cell? ⟨qb, 2, none⟩ = some (.slice none 0 0) := cell_of_row _ _ 2 _ _ _ HS7.out.1
        have y3 : W13.cell? ⟨qb, 3, none⟩ = some (.slice none 0 0) := cell_of_row _ _ 3 _ _ _ HS7.out.1
        have y4 : W13.cell? ⟨qb, 4, none⟩ = some (.slice none 0 0) := cell_of_row _ _ 4 _ _ _ HS7.out.1
        have y5 : W13.cell? ⟨qb, 5, none⟩ = some (.int .i64 0) := cell_of_row _ _ 5 _ _ _ HS7.out.1
        have y6 : W13.cell? ⟨qb, 6, none⟩ = some (.int .i64 0) := cell_of_row _ _ 6 _ _ _ HS7.out.1
        have HSA := hid (same_any #[.slice none 0 0, .slice none 0 0, .slice none 0 0, .slice none 0 0, .slice none 0 0, .int .i64 0, .int .i64 0] #[.slice none 0 0, .slice none 0 0, .slice none 0 0, .slice none 0 0, .slice none 0 0, .int .i64 0, .int .i64 0] pz pz W13 (pz_pg _) (pz_pg _) pz_gd pz_gd)
        go_wp2_with fail
        refine HSA.out.mono ?_
        rintro e W14 ⟨⟨z, rfl, hz⟩, l14⟩
        obtain rfl : z = true := by simpa using hz
        have HB14 := hid (bch HB13.out l14)
        clear l14 hz HSA
        go_wp2_with fail
        go_ret
        exact ⟨by first | rfl | simp, HB14.out⟩
end Go.Proofs.Ytnclpdgbjefpmaa.L
