import Derived.Test.YtnclpdgbjefpmaaGx
namespace Go.Proofs.Ytnclpdgbjefpmaa.L
open Go.RowKit
set_option linter.unusedVariables false
set_option linter.unusedSimpArgs false
/-- A list of programs that came in. -/
def PgL (W : World) (a : Option Addr) (n : Nat) : Prop := n = 0 ∨ ∃ b off, a = some ⟨b, off, none⟩ ∧ b < W.heap.size ∧ ∀ j, j < n → ∃ pv p, PgN W pv p ∧ GdP p ∧ W.cell? ⟨b, off + j * 7, none⟩ = some (pv.getD 0 undef) ∧ W.cell? ⟨b, off + j * 7 + 1, none⟩ = some (pv.getD 1 undef) ∧ W.cell? ⟨b, off + j * 7 + 2, none⟩ = some (pv.getD 2 undef) ∧ W.cell? ⟨b, off + j * 7 + 3, none⟩ = some (pv.getD 3 undef) ∧ W.cell? ⟨b, off + j * 7 + 4, none⟩ = some (pv.getD 4 undef) ∧ W.cell? ⟨b, off + j * 7 + 5, none⟩ = some (pv.getD 5 undef) ∧ W.cell? ⟨b, off + j * 7 + 6, none⟩ = some (pv.getD 6 undef)
theorem PgL.low {W W' : World} {a : Option Addr} {n : Nat} (h : PgL W a n) (k : Below W.heap.size W W') : PgL W' a n := by
  rcases h with h | ⟨b, off, rfl, hb, h3⟩
  · exact Or.inl h
  · refine Or.inr ⟨b, off, rfl, Nat.lt_of_lt_of_le hb k.size, fun j hj => ?_⟩
    obtain ⟨pv, p, h1, h2, x0, x1, x2, x3, x4, x5, x6⟩ := h3 j hj
    exact ⟨pv, p, h1.low k, h2, (k.cell hb).trans x0, (k.cell hb).trans x1, (k.cell hb).trans x2, (k.cell hb).trans x3, (k.cell hb).trans x4, (k.cell hb).trans x5, (k.cell hb).trans x6⟩
set_option maxHeartbeats 4000000 in
set_option maxRecDepth 100000 in
theorem codeencodes_any (a : Option Addr) (n cap : Nat) (w : World) (h : PgL w a n) (hn : n ≤ 140737488355328) : Calls Try.prog 3 #[.slice a n cap] w fun e w' => e = .returned (.bool true) ∧ Below w.heap.size w w' := by
  have HL := hid h
  have hnm : n ≤ maxLen := by unfold maxLen; omega
  clear h
  go_enter Try.func3, Try.ntmps3
  go_wp2_with fail
  refine (fixed_any _).mono ?_
  rintro e W0 ⟨rfl, l0⟩
  have HB := hid l0
  clear l0
  go_wp2_with fail
  go_loopw [15] (fun i wr => ∃ k : Nat, k ≤ n ∧ i = .int .i64 (k : Int) ∧ Hid (Below w.heap.size w wr)) (fun i _ => n - (intOf i).toNat)
  case atStart => exact ⟨0, Nat.zero_le _, rfl, HB⟩
  case round =>
    clear HB
    obtain ⟨k, hk, rfl, HB⟩ := hrel
    by_cases hlt : k < n
    · have g1 : (k : Int) < (n : Int) := by omega
      have g2 : (0 : Int) ≤ (k : Int) := by omega
      rcases HL.out.low HB.out with h0 | ⟨b, off, hae, hb, hc⟩
      · omega
      subst hae
      obtain ⟨pv, p, hp, gp, z0, z1, z2, z3, z4, z5, z6⟩ := hc k hlt
      clear hc hb
      obtain ⟨a0, c0, a1, c1, a2, c2, a3, c3, a4, c4, hpv, _⟩ := hp.ex
      obtain ⟨L0, hL0⟩ : ∃ L, L = p.tx.length := ⟨_, rfl⟩
      obtain ⟨L1, hL1⟩ : ∃ L, L = p.nu.length := ⟨_, rfl⟩
      obtain ⟨L2, hL2⟩ : ∃ L, L = p.st.length := ⟨_, rfl⟩
      obtain ⟨L3, hL3⟩ : ∃ L, L = p.ns.length := ⟨_, rfl⟩
      obtain ⟨L4, hL4⟩ : ∃ L, L = p.cd.length := ⟨_, rfl⟩
      obtain ⟨dp, hdp⟩ : ∃ d, d = p.dep := ⟨_, rfl⟩
      obtain ⟨lp, hlp⟩ : ∃ d, d = p.loc := ⟨_, rfl⟩
      rw [← hL0, ← hL1, ← hL2, ← hL3, ← hL4, ← hdp, ← hlp] at hpv
      clear hL0 hL1 hL2 hL3 hL4 hdp hlp
      subst hpv
      have HGP := hid gp
      have HP := hid hp
      clear gp hp
      have z0 : wr.cell? ⟨b, off + k * 7, none⟩ = some (.slice a0 L0 c0) := z0
      have z1 : wr.cell? ⟨b, off + k * 7 + 1, none⟩ = some (.slice a1 L1 c1) := z1
      have z2 : wr.cell? ⟨b, off + k * 7 + 2, none⟩ = some (.slice a2 L2 c2) := z2
      have z3 : wr.cell? ⟨b, off + k * 7 + 3, none⟩ = some (.slice a3 L3 c3) := z3
      have z4 : wr.cell? ⟨b, off + k * 7 + 4, none⟩ = some (.slice a4 L4 c4) := z4
      have z5 : wr.cell? ⟨b, off + k * 7 + 5, none⟩ = some (.int .i64 dp) := z5
      have z6 : wr.cell? ⟨b, off + k * 7 + 6, none⟩ = some (.int .i64 lp) := z6
      have HA := hid (belowA wr (.cells #[.slice a0 L0 c0, .slice a1 L1 c1, .slice a2 L2 c2, .slice a3 L3 c3, .slice a4 L4 c4, .int .i64 dp, .int .i64 lp] 30))
      have HX := hid (heap_alloc_new wr (.cells #[.slice a0 L0 c0, .slice a1 L1 c1, .slice a2 L2 c2, .slice a3 L3 c3, .slice a4 L4 c4, .int .i64 dp, .int .i64 lp] 30))
      have HP := hid (HP.out.low HA.out)
      have HB := hid (bch HB.out HA.out)
      go_upto_region 6 with fail
      generalize wr.alloc (.cells #[.slice a0 L0 c0, .slice a1 L1 c1, .slice a2 L2 c2, .slice a3 L3 c3, .slice a4 L4 c4, .int .i64 dp, .int .i64 lp] 30) = W1 at *
      clear HA z0 z1 z2 z3 z4 z5 z6 g1 g2
      obtain ⟨pb, hpb⟩ : ∃ b, b = wr.heap.size := ⟨_, rfl⟩
      rw [← hpb] at HX ⊢
      clear hpb
      have x0 : W1.cell? ⟨pb, 0, none⟩ = some (.slice a0 L0 c0) := cell_of_row _ _ 0 _ _ _ HX.out
      have x1 : W1.cell? ⟨pb, 1, none⟩ = some (.slice a1 L1 c1) := cell_of_row _ _ 1 _ _ _ HX.out
      have x2 : W1.cell? ⟨pb, 2, none⟩ = some (.slice a2 L2 c2) := cell_of_row _ _ 2 _ _ _ HX.out
      have x3 : W1.cell? ⟨pb, 3, none⟩ = some (.slice a3 L3 c3) := cell_of_row _ _ 3 _ _ _ HX.out
      have x4 : W1.cell? ⟨pb, 4, none⟩ = some (.slice a4 L4 c4) := cell_of_row _ _ 4 _ _ _ HX.out
      have x5 : W1.cell? ⟨pb, 5, none⟩ = some (.int .i64 dp) := cell_of_row _ _ 5 _ _ _ HX.out
      have x6 : W1.cell? ⟨pb, 6, none⟩ = some (.int .i64 lp) := cell_of_row _ _ 6 _ _ _ HX.out
      have HSM := hid (small2_any #[.slice a0 L0 c0, .slice a1 L1 c1, .slice a2 L2 c2, .slice a3 L3 c3, .slice a4 L4 c4, .int .i64 dp, .int .i64 lp] p W1 HP.out.pg HGP.out)
      go_wp2_with fail
      clear x0 x1 x2 x3 x4 x5 x6
      refine HSM.out.mono ?_
      rintro e W2 ⟨⟨z, rfl, hz, hy⟩, l2⟩
      have HX := hid ((l2.block _ (lt_blk HX.out)).trans HX.out)
      have HP := hid (HP.out.low l2)
      have HB := hid (bch HB.out l2)
      clear l2
      clear HSM
      cases z with
      | false =>
        have hno := hy rfl
        clear hz hy
        have HEN := hid (encode_any p #[.slice a0 L0 c0, .slice a1 L1 c1, .slice a2 L2 c2, .slice a3 L3 c3, .slice a4 L4 c4, .int .i64 dp, .int .i64 lp] W2 HP.out.pg HGP.out)
        have x0 : W2.cell? ⟨pb, 0, none⟩ = some (.slice a0 L0 c0) := cell_of_row _ _ 0 _ _ _ HX.out
        have x1 : W2.cell? ⟨pb, 1, none⟩ = some (.slice a1 L1 c1) := cell_of_row _ _ 1 _ _ _ HX.out
        have x2 : W2.cell? ⟨pb, 2, none⟩ = some (.slice a2 L2 c2) := cell_of_row _ _ 2 _ _ _ HX.out
        have x3 : W2.cell? ⟨pb, 3, none⟩ = some (.slice a3 L3 c3) := cell_of_row _ _ 3 _ _ _ HX.out
        have x4 : W2.cell? ⟨pb, 4, none⟩ = some (.slice a4 L4 c4) := cell_of_row _ _ 4 _ _ _ HX.out
        have x5 : W2.cell? ⟨pb, 5, none⟩ = some (.int .i64 dp) := cell_of_row _ _ 5 _ _ _ HX.out
        have x6 : W2.cell? ⟨pb, 6, none⟩ = some (.int .i64 lp) := cell_of_row _ _ 6 _ _ _ HX.out
        go_wp2_with fail
        clear x0 x1 x2 x3 x4 x5 x6
        refine HEN.out.mono ?_
        rintro e W3 ⟨l3, hn3, hy3⟩
        obtain rfl := hn3 hno
        clear hn3 hy3 hno HEN
        have HX := hid ((l3.block _ (lt_blk HX.out)).trans HX.out)
        have HP := hid (HP.out.low l3)
        have HB := hid (bch HB.out l3)
        clear l3
        go_wp2_with fail
        exact ⟨⟨k + 1, by omega, by go_num, HB⟩, by simp [intOf]; omega⟩
      | true =>
        have HSN := hid (hz rfl)
        clear hz hy
        have x0 : W2.cell? ⟨pb, 0, none⟩ = some (.slice a0 L0 c0) := cell_of_row _ _ 0 _ _ _ HX.out
        have x1 : W2.cell? ⟨pb, 1, none⟩ = some (.slice a1 L1 c1) := cell_of_row _ _ 1 _ _ _ HX.out
        have x2 : W2.cell? ⟨pb, 2, none⟩ = some (.slice a2 L2 c2) := cell_of_row _ _ 2 _ _ _ HX.out
        have x3 : W2.cell? ⟨pb, 3, none⟩ = some (.slice a3 L3 c3) := cell_of_row _ _ 3 _ _ _ HX.out
        have x4 : W2.cell? ⟨pb, 4, none⟩ = some (.slice a4 L4 c4) := cell_of_row _ _ 4 _ _ _ HX.out
        have x5 : W2.cell? ⟨pb, 5, none⟩ = some (.int .i64 dp) := cell_of_row _ _ 5 _ _ _ HX.out
        have x6 : W2.cell? ⟨pb, 6, none⟩ = some (.int .i64 lp) := cell_of_row _ _ 6 _ _ _ HX.out
        have HCP := hid (copy_any #[.slice a0 L0 c0, .slice a1 L1 c1, .slice a2 L2 c2, .slice a3 L3 c3, .slice a4 L4 c4, .int .i64 dp, .int .i64 lp] p W2 HP.out HSN.out)
        go_wp2_with fail
        clear x0 x1 x2 x3 x4 x5 x6
        refine HCP.out.mono ?_
        rintro e W3 ⟨⟨qv, rfl, hq⟩, l3⟩
        have HX := hid ((l3.block _ (lt_blk HX.out)).trans HX.out)
        have HP := hid (HP.out.low l3)
        have HB := hid (bch HB.out l3)
        clear l3
        have HEN := hid (dencode_any p qv W3 hq HGP.out)
        clear HCP hq
        go_wp2_with fail
        refine HEN.out.mono ?_
        rintro e W4 ⟨l4, hno4, hyes4⟩
        have HX := hid ((l4.block _ (lt_blk HX.out)).trans HX.out)
        have HP := hid (HP.out.low l4)
        have HB := hid (bch HB.out l4)
        clear l4
        clear HEN
        have x0 : W4.cell? ⟨pb, 0, none⟩ = some (.slice a0 L0 c0) := cell_of_row _ _ 0 _ _ _ HX.out
        have x1 : W4.cell? ⟨pb, 1, none⟩ = some (.slice a1 L1 c1) := cell_of_row _ _ 1 _ _ _ HX.out
        have x2 : W4.cell? ⟨pb, 2, none⟩ = some (.slice a2 L2 c2) := cell_of_row _ _ 2 _ _ _ HX.out
        have x3 : W4.cell? ⟨pb, 3, none⟩ = some (.slice a3 L3 c3) := cell_of_row _ _ 3 _ _ _ HX.out
        have x4 : W4.cell? ⟨pb, 4, none⟩ = some (.slice a4 L4 c4) := cell_of_row _ _ 4 _ _ _ HX.out
        have x5 : W4.cell? ⟨pb, 5, none⟩ = some (.int .i64 dp) := cell_of_row _ _ 5 _ _ _ HX.out
        have x6 : W4.cell? ⟨pb, 6, none⟩ = some (.int .i64 lp) := cell_of_row _ _ 6 _ _ _ HX.out
        have HCP := hid (copy_any #[.slice a0 L0 c0, .slice a1 L1 c1, .slice a2 L2 c2, .slice a3 L3 c3, .slice a4 L4 c4, .int .i64 dp, .int .i64 lp] p W4 HP.out HSN.out)
        cases hf : formB p with
        | false =>
          obtain rfl := hno4 hf
          have HF := hid hf
          clear hno4 hyes4 hf
          go_wp2_with fail
          clear x0 x1 x2 x3 x4 x5 x6
          refine HCP.out.mono ?_
          rintro e W5 ⟨⟨qv, rfl, hq⟩, l5⟩
          have HX := hid ((l5.block _ (lt_blk HX.out)).trans HX.out)
          have HP := hid (HP.out.low l5)
          have HB := hid (bch HB.out l5)
          clear l5
          have HEN := hid (encode_any p qv W5 hq HGP.out)
          clear HCP hq
          go_wp2_with fail
          refine HEN.out.mono ?_
          rintro e W6 ⟨l6, hno6, hyes6⟩
          have HX := hid ((l6.block _ (lt_blk HX.out)).trans HX.out)
          have HP := hid (HP.out.low l6)
          have HB := hid (bch HB.out l6)
          clear l6
          obtain rfl := hno6 HF.out
          clear hno6 hyes6 HEN
          have HSB := hid (samebytes_any [] [] none none 0 0 W6 (Or.inl rfl) (Or.inl rfl))
          go_wp2_with fail
          refine HSB.out.mono ?_
          rintro e W6' ⟨⟨z, rfl, hz⟩, hw⟩
          obtain rfl : z = true := by simpa using hz
          have hw2 := hw.symm
          subst hw2
          clear hw hz HSB
          go_wp2_with fail
          exact ⟨⟨k + 1, by omega, by go_num, HB⟩, by simp [intOf]; omega⟩
        | true =>
          obtain ⟨v4, rfl, hob4⟩ := hyes4 hf
          have HF := hid hf
          clear hno4 hyes4 hf
          obtain ⟨ba, bc, rfl, hbr, hbl, hbc, hbm⟩ := own_br hob4
          have HBR := hid hbr
          have HBL := hid hbl
          have HBC := hid hbc
          clear hob4 hbr hbl hbc hbm
          obtain ⟨en, hen⟩ : ∃ n, n = (enc p).length := ⟨_, rfl⟩
          rw [← hen]
          have HNE := hid hen
          clear hen
          go_wp2_with fail
          clear x0 x1 x2 x3 x4 x5 x6
          refine HCP.out.mono ?_
          rintro e W5 ⟨⟨qv, rfl, hq⟩, l5⟩
          have HBR := hid (br_below HBR.out l5)
          have HX := hid ((l5.block _ (lt_blk HX.out)).trans HX.out)
          have HP := hid (HP.out.low l5)
          have HB := hid (bch HB.out l5)
          clear l5
          have HEN := hid (encode_any p qv W5 hq HGP.out)
          clear HCP hq
          go_wp2_with fail
          refine HEN.out.mono ?_
          rintro e W6 ⟨l6, hno6, hyes6⟩
          have HBR := hid (br_below HBR.out l6)
          have HX := hid ((l6.block _ (lt_blk HX.out)).trans HX.out)
          have HP := hid (HP.out.low l6)
          have HB := hid (bch HB.out l6)
          clear l6
          obtain ⟨v6, rfl, hob6⟩ := hyes6 HF.out
          clear hno6 hyes6 HEN
          obtain ⟨da, dc, rfl, hdr, hdl, hdc, hdm⟩ := own_br hob6
          have HSB := hid (samebytes_any (enc p) (enc p) da ba dc bc W6 hdr HBR.out)
          clear hob6 hdr hdl hdc hdm
          rw [← HNE.out] at HSB ⊢
          go_wp2_with fail
          refine HSB.out.mono ?_
          rintro e W6' ⟨⟨z, rfl, hz⟩, hw⟩
          obtain rfl : z = true := by simpa using hz
          have hw2 := hw.symm
          subst hw2
          clear hw hz HSB
          go_wp2_with fail
          exact ⟨⟨k + 1, by omega, by go_num, HB⟩, by simp [intOf]; omega⟩
    · obtain rfl : k = n := by omega
      have g1 : ¬ (k : Int) < (k : Int) := by omega
      go_wp2_with fail
      go_ret
      exact ⟨by first | rfl | simp, HB.out⟩
end Go.Proofs.Ytnclpdgbjefpmaa.L
