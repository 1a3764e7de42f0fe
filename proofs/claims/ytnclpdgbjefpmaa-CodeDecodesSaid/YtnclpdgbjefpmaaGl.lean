import Derived.Test.YtnclpdgbjefpmaaGk
namespace Go.Proofs.Ytnclpdgbjefpmaa.L
open Go.RowKit
set_option linter.unusedVariables false
set_option linter.unusedSimpArgs false
/-- A program that came in, its lengths as letters. -/
theorem grown_new {W w2 : World} {o : Obj} (h : (W.alloc o).grownBy w2 (some W.heap.size)) : Below W.heap.size W w2 :=
  ⟨h.os, h.tape, h.output, Nat.le_trans (belowA W o).size h.size, fun j hj => (h.block j (Nat.lt_of_lt_of_le hj (belowA W o).size) (fun e => by have e2 : j = W.heap.size := Option.some.inj e; omega)).trans ((belowA W o).block j hj)⟩
theorem br_news {w : World} {xa : Option Addr} {B : List UInt8} (h : BR w xa B) : ∀ ad, xa = some ad → ∀ j u, (Lib.byteCells B)[j]? = some u → w.cell? (ad.add j) = some u := by
  intro ad e j u hu
  rw [byteCells_eq, List.getElem?_map] at hu
  by_cases hj : j < B.length
  · rw [List.getElem?_eq_getElem hj] at hu
    rcases h with h0 | ⟨b, off, e', hc⟩
    · omega
    · rw [e] at e'
      cases e'
      have := hc j hj
      rw [List.getD_eq_getElem?_getD, List.getElem?_eq_getElem hj] at this
      rw [Go.WideShapes.add_plain, this]
      exact hu
  · rw [List.getElem?_eq_none (by omega)] at hu
    cases hu
set_option maxHeartbeats 4000000 in
set_option maxRecDepth 100000 in
theorem codeback_any (pv : Array Value) (p : Pg) (w : World) (hp : PgN w pv p) (gp : GdP p) : Calls Try.prog 5 #[.agg pv] w fun e w' => e = .returned (.bool true) ∧ Below w.heap.size w w' := by
  obtain ⟨a0, c0, a1, c1, a2, c2, a3, c3, a4, c4, hpv, _⟩ := hp.ex
  obtain ⟨L0, hL0⟩ : ∃ L, L = p.tx.length := ⟨_, rfl⟩
  obtain ⟨L1, hL1⟩ : ∃ L, L = p.nu.length := ⟨_, rfl⟩
  obtain ⟨L2, hL2⟩ : ∃ L, L = p.st.length := ⟨_, rfl⟩
  obtain ⟨L3, hL3⟩ : ∃ L, L = p.ns.length := ⟨_, rfl⟩
  obtain ⟨L4, hL4⟩ : ∃ L, L = p.cd.length := ⟨_, rfl⟩
  obtain ⟨dp, hdp⟩ : ∃ d, d = p.dep := ⟨_, rfl⟩
  obtain ⟨lp, hlp⟩ : ∃ d, d = p.loc := ⟨_, rfl⟩
  rw [← hL0, ← hL1, ← hL2, ← hL3, ← hL4, ← hdp, ← hlp] at hpv
  have Hdp := hid hdp
  have Hlp := hid hlp
  clear hL0 hL1 hL2 hL3 hL4 hdp hlp
  subst hpv
  have HGP := hid gp
  have HB1 := hid (belowA w (.cells #[.slice a0 L0 c0, .slice a1 L1 c1, .slice a2 L2 c2, .slice a3 L3 c3, .slice a4 L4 c4, .int .i64 dp, .int .i64 lp] 30))
  have HX1 := hid (heap_alloc_new w (.cells #[.slice a0 L0 c0, .slice a1 L1 c1, .slice a2 L2 c2, .slice a3 L3 c3, .slice a4 L4 c4, .int .i64 dp, .int .i64 lp] 30))
  have HP1 := hid (hp.low HB1.out)
  clear hp gp
  go_enter Try.func5, Try.ntmps5
  go_upto_region 1 with fail
  generalize w.alloc (.cells #[.slice a0 L0 c0, .slice a1 L1 c1, .slice a2 L2 c2, .slice a3 L3 c3, .slice a4 L4 c4, .int .i64 dp, .int .i64 lp] 30) = W1 at *
  obtain ⟨pb, hpb⟩ : ∃ b, b = w.heap.size := ⟨_, rfl⟩
  rw [← hpb] at HX1 ⊢
  clear hpb
  go_wp2_with fail
  refine (fixed_any W1).mono ?_
  rintro e W2 ⟨rfl, l2⟩
  have HX2 := hid ((l2.block _ (lt_blk HX1.out)).trans HX1.out)
  have HP2 := hid (HP1.out.low l2)
  have HB2 := hid (bch HB1.out l2)
  clear l2 HX1 HP1 HB1
  have x0 : W2.cell? ⟨pb, 0, none⟩ = some (.slice a0 L0 c0) := cell_of_row _ _ 0 _ _ _ HX2.out
  have x1 : W2.cell? ⟨pb, 1, none⟩ = some (.slice a1 L1 c1) := cell_of_row _ _ 1 _ _ _ HX2.out
  have x2 : W2.cell? ⟨pb, 2, none⟩ = some (.slice a2 L2 c2) := cell_of_row _ _ 2 _ _ _ HX2.out
  have x3 : W2.cell? ⟨pb, 3, none⟩ = some (.slice a3 L3 c3) := cell_of_row _ _ 3 _ _ _ HX2.out
  have x4 : W2.cell? ⟨pb, 4, none⟩ = some (.slice a4 L4 c4) := cell_of_row _ _ 4 _ _ _ HX2.out
  have x5 : W2.cell? ⟨pb, 5, none⟩ = some (.int .i64 dp) := cell_of_row _ _ 5 _ _ _ HX2.out
  have x6 : W2.cell? ⟨pb, 6, none⟩ = some (.int .i64 lp) := cell_of_row _ _ 6 _ _ _ HX2.out
  have HSM := hid (small_any #[.slice a0 L0 c0, .slice a1 L1 c1, .slice a2 L2 c2, .slice a3 L3 c3, .slice a4 L4 c4, .int .i64 dp, .int .i64 lp] p W2 HP2.out.pg HGP.out)
  go_wp2_with fail
  clear x0 x1 x2 x3 x4 x5 x6
  refine HSM.out.mono ?_
  rintro e W3 ⟨⟨z, rfl, hz⟩, l3⟩
  have HX3 := hid ((l3.block _ (lt_blk HX2.out)).trans HX2.out)
  have HP3 := hid (HP2.out.low l3)
  have HB3 := hid (bch HB2.out l3)
  clear l3 HX2 HP2 HB2 HSM
  cases z with
  | false =>
    go_wp2_with fail
    go_ret
    exact ⟨by first | rfl | simp, HB3.out⟩
  | true =>
    have HSN := hid (hz rfl)
    clear hz
    have x0 : W3.cell? ⟨pb, 0, none⟩ = some (.slice a0 L0 c0) := cell_of_row _ _ 0 _ _ _ HX3.out
    have x1 : W3.cell? ⟨pb, 1, none⟩ = some (.slice a1 L1 c1) := cell_of_row _ _ 1 _ _ _ HX3.out
    have x2 : W3.cell? ⟨pb, 2, none⟩ = some (.slice a2 L2 c2) := cell_of_row _ _ 2 _ _ _ HX3.out
    have x3 : W3.cell? ⟨pb, 3, none⟩ = some (.slice a3 L3 c3) := cell_of_row _ _ 3 _ _ _ HX3.out
    have x4 : W3.cell? ⟨pb, 4, none⟩ = some (.slice a4 L4 c4) := cell_of_row _ _ 4 _ _ _ HX3.out
    have x5 : W3.cell? ⟨pb, 5, none⟩ = some (.int .i64 dp) := cell_of_row _ _ 5 _ _ _ HX3.out
    have x6 : W3.cell? ⟨pb, 6, none⟩ = some (.int .i64 lp) := cell_of_row _ _ 6 _ _ _ HX3.out
    have HCP := hid (copy_any #[.slice a0 L0 c0, .slice a1 L1 c1, .slice a2 L2 c2, .slice a3 L3 c3, .slice a4 L4 c4, .int .i64 dp, .int .i64 lp] p W3 HP3.out HSN.out)
    go_wp2_with fail
    clear x0 x1 x2 x3 x4 x5 x6
    refine HCP.out.mono ?_
    rintro e W4 ⟨⟨qv, rfl, hq⟩, l4⟩
    have HX4 := hid ((l4.block _ (lt_blk HX3.out)).trans HX3.out)
    have HP4 := hid (HP3.out.low l4)
    have HB4 := hid (bch HB3.out l4)
    have HEN := hid (encode_any p qv W4 hq HGP.out)
    clear l4 HX3 HP3 HB3 HCP hq
    go_wp2_with fail
    refine HEN.out.mono ?_
    rintro e W5 ⟨l5, hno, hyes⟩
    have HX5 := hid ((l5.block _ (lt_blk HX4.out)).trans HX4.out)
    have HP5 := hid (HP4.out.low l5)
    have HB5 := hid (bch HB4.out l5)
    clear l5 HX4 HP4 HB4 HEN
    cases hf : formB p with
    | false =>
      obtain rfl := hno hf
      clear hno hyes hf
      go_wp2_with fail
      go_ret
      exact ⟨by first | rfl | simp, HB5.out⟩
    | true =>
      obtain ⟨v', rfl, hob⟩ := hyes hf
      have hde := dec_enc ((form_iff p).2 hf)
      have hfm := (formB_iff p).1 hf
      clear hno hyes hf
      obtain ⟨ba, bc, rfl, hbr, hbl, hbc, hbm⟩ := own_br hob
      have HEL := enc_len hfm
      have HDE := hid (decode_any (enc p) ba bc W5 hbr hbl (by omega) hbc hbm)
      clear hob hbr hbl hbc hbm hfm
      obtain ⟨en, hen⟩ : ∃ n, n = (enc p).length := ⟨_, rfl⟩
      rw [← hen] at HDE ⊢
      clear hen HEL
      have HDD := hid hde
      clear hde
      go_wp2_with fail
      refine HDE.out.mono ?_
      rintro e W6 ⟨hd6, l6⟩
      unfold DeR at hd6
      rw [HDD.out] at hd6
      obtain ⟨v0, v1, v2, v3, v4, rfl, how⟩ := hd6
      obtain ⟨⟨b0, n0, d0, rfl⟩, ⟨b1, n1, d1, rfl⟩, ⟨b2, n2, d2, rfl⟩, ⟨b3, n3, d3, rfl⟩, ⟨b4, n4, d4, rfl⟩⟩ := owg_form how
      have HPQ := hid (owg_pg how)
      rw [← Hdp.out, ← Hlp.out] at HPQ ⊢
      have HX6 := hid ((l6.block _ (lt_blk HX5.out)).trans HX5.out)
      have HP6 := hid (HP5.out.low l6)
      have HB6 := hid (bch HB5.out l6)
      clear how l6 HDE HX5 HP5 HB5
      have HL7 := hid (belowA W6 (.cells #[.slice b0 n0 d0, .slice b1 n1 d1, .slice b2 n2 d2, .slice b3 n3 d3, .slice b4 n4 d4, .int .i64 dp, .int .i64 lp] 30))
      have HX7 := hid ((HL7.out.block _ (lt_blk HX6.out)).trans HX6.out)
      have HQ7 := hid (heap_alloc_new W6 (.cells #[.slice b0 n0 d0, .slice b1 n1 d1, .slice b2 n2 d2, .slice b3 n3 d3, .slice b4 n4 d4, .int .i64 dp, .int .i64 lp] 30))
      have HP7 := hid (HP6.out.low HL7.out)
      have HPQ7 := hid (HPQ.out.low HL7.out)
      have HB7 := hid (bch HB6.out HL7.out)
      clear HX6 HP6 HPQ HB6 HL7
      go_upto_region 9 with fail
      generalize W6.alloc (.cells #[.slice b0 n0 d0, .slice b1 n1 d1, .slice b2 n2 d2, .slice b3 n3 d3, .slice b4 n4 d4, .int .i64 dp, .int .i64 lp] 30) = W7 at *
      obtain ⟨qb, hqb⟩ : ∃ b, b = W6.heap.size := ⟨_, rfl⟩
      rw [← hqb] at HQ7 ⊢
      clear hqb
      have x0 : W7.cell? ⟨pb, 0, none⟩ = some (.slice a0 L0 c0) := cell_of_row _ _ 0 _ _ _ HX7.out
      have x1 : W7.cell? ⟨pb, 1, none⟩ = some (.slice a1 L1 c1) := cell_of_row _ _ 1 _ _ _ HX7.out
      have x2 : W7.cell? ⟨pb, 2, none⟩ = some (.slice a2 L2 c2) := cell_of_row _ _ 2 _ _ _ HX7.out
      have x3 : W7.cell? ⟨pb, 3, none⟩ = some (.slice a3 L3 c3) := cell_of_row _ _ 3 _ _ _ HX7.out
      have x4 : W7.cell? ⟨pb, 4, none⟩ = some (.slice a4 L4 c4) := cell_of_row _ _ 4 _ _ _ HX7.out
      have x5 : W7.cell? ⟨pb, 5, none⟩ = some (.int .i64 dp) := cell_of_row _ _ 5 _ _ _ HX7.out
      have x6 : W7.cell? ⟨pb, 6, none⟩ = some (.int .i64 lp) := cell_of_row _ _ 6 _ _ _ HX7.out
      have y0 : W7.cell? ⟨qb, 0, none⟩ = some (.slice b0 n0 d0) := cell_of_row _ _ 0 _ _ _ HQ7.out
      have y1 : W7.cell? ⟨qb, 1, none⟩ = some (.slice b1 n1 d1) := cell_of_row _ _ 1 _ _ _ HQ7.out
      have y2 : W7.cell? ⟨qb, 2, none⟩ = some (.slice b2 n2 d2) := cell_of_row _ _ 2 _ _ _ HQ7.out
      have y3 : W7.cell? ⟨qb, 3, none⟩ = some (.slice b3 n3 d3) := cell_of_row _ _ 3 _ _ _ HQ7.out
      have y4 : W7.cell? ⟨qb, 4, none⟩ = some (.slice b4 n4 d4) := cell_of_row _ _ 4 _ _ _ HQ7.out
      have y5 : W7.cell? ⟨qb, 5, none⟩ = some (.int .i64 dp) := cell_of_row _ _ 5 _ _ _ HQ7.out
      have y6 : W7.cell? ⟨qb, 6, none⟩ = some (.int .i64 lp) := cell_of_row _ _ 6 _ _ _ HQ7.out
      have HSA := hid (same_any #[.slice b0 n0 d0, .slice b1 n1 d1, .slice b2 n2 d2, .slice b3 n3 d3, .slice b4 n4 d4, .int .i64 dp, .int .i64 lp] #[.slice a0 L0 c0, .slice a1 L1 c1, .slice a2 L2 c2, .slice a3 L3 c3, .slice a4 L4 c4, .int .i64 dp, .int .i64 lp] p p W7 HPQ7.out HP7.out.pg HGP.out HGP.out)
      go_wp2_with fail
      refine HSA.out.mono ?_
      rintro e W8 ⟨⟨z, rfl, hz⟩, l8⟩
      obtain rfl : z = true := by simpa using hz
      have HB8 := hid (bch HB7.out l8)
      clear l8 hz HSA
      go_wp2_with fail
      go_ret
      exact ⟨by first | rfl | simp, HB8.out⟩
end Go.Proofs.Ytnclpdgbjefpmaa.L
