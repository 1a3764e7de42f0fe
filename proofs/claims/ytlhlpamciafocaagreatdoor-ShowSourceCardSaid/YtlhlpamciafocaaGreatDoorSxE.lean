import Derived.Test.YtlhlpamciafocaaGreatDoorMgBH
namespace Go.Proofs.YtlhlpamciafocaaGreatDoor.L
open Go.RowKit
set_option linter.unusedVariables false
set_option linter.unusedSimpArgs false
theorem shrt_len {T : List Pt} (h : Res T 0 0) (hs : Shrt T T.length) : (S ((txs T T.length).getD (T.length - 1) [])).size ≤ 4096 := by
  rw [S_size]
  exact hs _ (by have := h.ok.1; omega)
theorem res_kids {T : List Pt} (h : Res T 0 0) : T.length ≤ 1000 ∧ ∀ j, j < T.length → (pt T j).kids.length ≤ 1000000 := by
  refine ⟨h.ok.2.1, fun j hj => ?_⟩
  have h1 := (h.ok.2.2.1 j hj).many
  have h2 := fre_len T j
  have h3 := h.ok.2.1
  omega
theorem err_nil {T : List Pt} {B : Nat} {W : World} {ev : Value} (h : Sw.ErrR T B W ev) (hr : Res T 0 0) : ev = .nilIface := by
  rcases h with h | ⟨N, c, i, _, _, _, h, h0⟩
  · exact h.1
  · exact absurd (res_one h hr).1 h0
theorem err_yes {T : List Pt} {B : Nat} {W : World} {ev : Value} (h : Sw.ErrR T B W ev) (hn : ev ≠ .nilIface) : ∃ (N c i : Nat), ev = fv N ∧ Sw.Flt W N c i ∧ B ≤ N ∧ Res T c i ∧ c ≠ 0 := by
  rcases h with h | h
  · exact absurd h.1 hn
  · exact h
theorem run_code (a b c d e f g h i j k l m n o p q r s : Value) (w : World) : (Instr.field 45 (.agg #[a, b, c, d, e, f, g, h, i, j, k, l, m, n, o, p, q, r, s]) 0).run Tryz.prog w = .ok a w := by kernel_rfl
set_option maxHeartbeats 4000000 in
set_option maxRecDepth 100000 in
theorem topshows_any (a : Option Addr) (T : List Pt) (cap : Nat) (w : World) (hT : PL w a T) (hG : GdT T) (hv : Vars w) (ht : Sw.TabW w) : Calls Tryz.prog 6 #[.agg #[.slice a T.length cap]] w fun e w' => e = .returned (.bool true) ∧ Below w.heap.size w w' := by
  have HV := hid hv
  have HTV := hid ht
  have HT := hid hT
  have HG := hid hG
  obtain ⟨L, hL⟩ : ∃ L, L = T.length := ⟨_, rfl⟩
  have HL := hid hL
  have HB0 := hid (belowA w (.cells #[.slice a T.length cap] 24))
  have HX0 := hid (heap_alloc_new w (.cells #[.slice a T.length cap] 24))
  rw [← hL] at HB0 HX0 ⊢
  clear hv ht hT hG hL
  go_enter Tryz.func6, Tryz.ntmps6
  go_upto_region 1 with fail
  generalize w.alloc (.cells #[.slice a L cap] 24) = X at *
  obtain ⟨b0, hb0⟩ : ∃ b, b = w.heap.size := ⟨_, rfl⟩
  rw [← hb0] at HX0 ⊢
  have HB00 := hid hb0
  clear hb0
  go_wp2_with fail
  refine (reads_any X (HV.out.low HB0.out) (HTV.out.low HB0.out)).mono ?_
  rintro e W1 ⟨rfl, l1⟩
  have HL1 := hid (bch HB0.out l1)
  have HX1 := hid ((l1.block _ (lt_blk HX0.out)).trans HX0.out)
  clear l1
  have x1 : W1.cell? ⟨b0, 0, none⟩ = some (.slice a L cap) := cell_of_row _ _ 0 _ _ _ HX1.out
  go_wp2_with fail
  refine (show Calls Tryz.prog _ #[.agg #[.slice a L cap]] W1 _ from by rw [HL.out]; exact Sw.text_any a T cap W1 (HT.out.low HL1.out) HG.out (HTV.out.low HL1.out)).mono ?_
  rintro e W2 ⟨s, ev, rfl, l2, hx⟩
  have HL2 := hid (bch HL1.out l2)
  have HX2 := hid ((l2.block _ (lt_blk HX1.out)).trans HX1.out)
  clear l2 x1
  rcases hx with ⟨he, hne, rfl⟩ | ⟨hr, hs, rfl, rfl⟩ | ⟨hr, hs, rfl, N, rfl, hf, -⟩
  · obtain ⟨N, c, i, rfl, hf, -, -, hc⟩ := err_yes he hne
    clear he hne
    have h9 : (0 : Int) < (c : Int) := by omega
    have HR := hid (Sw.read_yes N c i W2 hf hc)
    unfold fv at *
    go_wp2_with fail
    refine HR.out.mono ?_
    rintro e W3 ⟨rfl, l3⟩
    have HL3 := hid (bch HL2.out l3)
    clear l3
    have hrc := run_code
    go_wp2_with fail
    go_ret
    exact ⟨(show Ending.returned (.bool (decide (0 < c))) = _ from by rw [decide_eq_true (by omega)]), HL3.out⟩
  · obtain ⟨s2, h1, h2⟩ := reads_res hr hs
    have hlen := shrt_len hr hs
    generalize S ((txs T T.length).getD (T.length - 1) []) = R at *
    have HR := hid hr
    have HP := hid h1
    have HP2 := hid h2
    clear hr hs h1 h2
    have hlen' : ((R.size : Nat) : Int) ≤ 4096 := by omega
    have x2 : W2.cell? ⟨b0, 0, none⟩ = some (.slice a L cap) := cell_of_row _ _ 0 _ _ _ HX2.out
    go_wp2_with fail
    refine (show Calls Tryz.prog _ #[.agg #[.slice a L cap]] W2 _ from by rw [HL.out]; exact Sw.valid_any a T cap W2 (HT.out.low HL2.out) HG.out).mono ?_
    rintro e W3 ⟨ev, rfl, l3, he⟩
    obtain rfl := err_nil he HR.out
    have HL3 := hid (bch HL2.out l3)
    have HX3 := hid ((l3.block _ (lt_blk HX2.out)).trans HX2.out)
    clear l3 x2 he
    go_wp2_with fail
    refine (parse_any R W3 (HV.out.low HL3.out)).mono ?_
    rintro e W4 ⟨hp, l4⟩
    obtain ⟨va, vc, oa, oc, rfl, hpl, hro⟩ := par_ok HP.out hp
    rw [HP2.out] at hpl ⊢
    have HL4 := hid (bch HL3.out l4)
    have HX4 := hid ((l4.block _ (lt_blk HX3.out)).trans HX3.out)
    have HPL := hid hpl.pl
    clear l4 hp hro hpl
    rw [← HL.out]
    go_upto_region 9 with fail
    have HB5 := hid (belowA W4 (.cells #[.slice va L vc] 24))
    have HY5 := hid (heap_alloc_new W4 (.cells #[.slice va L vc] 24))
    have HX5 := hid ((HB5.out.block _ (lt_blk HX4.out)).trans HX4.out)
    have HL5 := hid (bch HL4.out HB5.out)
    have HPL5 := hid (HPL.out.low HB5.out)
    generalize W4.alloc (.cells #[.slice va L vc] 24) = W5 at *
    generalize W4.heap.size = t5 at *
    have x5 : W5.cell? ⟨b0, 0, none⟩ = some (.slice a L cap) := cell_of_row _ _ 0 _ _ _ HX5.out
    have y5 : W5.cell? ⟨t5, 0, none⟩ = some (.slice va L vc) := cell_of_row _ _ 0 _ _ _ HY5.out
    go_wp2_with fail
    refine (show Calls Tryz.prog _ #[.agg #[.slice va L vc], .agg #[.slice a L cap]] W5 _ from by rw [HL.out]; exact same_parts va a T vc cap W5 HPL5.out (HT.out.low HL5.out) (res_kids HR.out).1 (res_kids HR.out).2).mono ?_
    rintro e W6 ⟨rfl, l6⟩
    have HL6 := hid (bch HL5.out l6)
    clear l6
    go_wp2_with fail
    go_ret
    exact ⟨rfl, HL6.out⟩
  · have HR := hid (Sw.read_yes N 131 (-1) W2 hf (by decide))
    unfold fv at *
    go_wp2_with fail
    refine HR.out.mono ?_
    rintro e W3 ⟨rfl, l3⟩
    have HL3 := hid (bch HL2.out l3)
    clear l3
    have hrc := run_code
    go_wp2_with fail
    go_ret
    exact ⟨rfl, HL3.out⟩
theorem topshows_c (a : Option Addr) (T : List Pt) (cap : Nat) (w : World) (hT : PLs w a T) (hG : GdT T) (hv : Vars w) (ht : Sw.TabW w) : Calls Tryz.prog 6 #[.agg #[.slice a T.length cap]] w fun e w' => e = .returned (.bool true) ∧ Below w.heap.size w w' := topshows_any a T cap w hT.pl hG hv ht
end Go.Proofs.YtlhlpamciafocaaGreatDoor.L
