import Derived.Test.YtdnoagebcolgbaaDoorMgAC
namespace Go.Proofs.YtdnoagebcolgbaaDoor.L
open Go.RowKit Go.Shelf
set_option linter.unusedVariables false
theorem refusal_any {T : List Pt} {B c i : Nat} {W : World} {ev : Value} (h : ErrR T B W ev) (k : Res T c i) :
    Calls Tryd.prog 9 #[ev, .int .i64 (c : Int), .int .i64 (i : Int)] W fun e w' => e = .returned (.bool true) ∧ Below W.heap.size W w' := by
  rcases h with ⟨rfl, h⟩ | ⟨N, c', i', rfl, hf, _, h, h0⟩
  · obtain ⟨rfl, rfl⟩ := res_one h k
    refine (refusal_nil 0 W).mono ?_
    rintro e w' ⟨rfl, rfl⟩
    exact ⟨rfl, Below.refl _ _⟩
  · obtain ⟨rfl, rfl⟩ := res_one h k
    exact refusal_yes N _ _ W hf h0
set_option maxHeartbeats 4000000 in
set_option maxRecDepth 100000 in
theorem showvalid_any (a : Option Addr) (T : List Pt) (cap : Nat) (w : World) (hT : PLs w a T) (hG : GdT T) :
    Calls Tryd.prog 3 #[.agg #[.slice a T.length cap]] w fun e w' => e = .returned (.bool true) ∧ Below w.heap.size w w' := by
  obtain ⟨L, hLe⟩ : ∃ L, L = T.length := ⟨_, rfl⟩
  have HT := hid hT
  have HAW := hid awake_any
  have HRV := hid (fun W (h : PL W a T) => rvalid_any a T cap W h hG)
  have HCP := hid (fun W (h : PLs W a T) => copy_any a T cap W h hG)
  have HVA := hid (fun a' cap' W (h : PL W a' T) => valid_any a' T cap' W h hG)
  have HRF := hid (fun B c i W ev h k => @refusal_any T B c i W ev h k)
  rw [← hLe] at HRV HCP HVA ⊢
  have HB0 := hid (belowA w (.cells #[.slice a L cap] 24))
  have HX0 := hid (Boxed.new w 24 (.slice a L cap))
  clear hT hG hLe
  go_enter Tryd.func3, Tryd.ntmps3
  go_upto_region 1 with (fail)
  generalize w.alloc (.cells #[.slice a L cap] 24) = X at *
  go_upto_region 3 with (go_at_call 7; refine (HAW.out _).mono ?_; rintro e w1 ⟨rfl, l1⟩; have L1 := hid (HB0.out.trans (l1.mono HB0.out.size)); have HX1 := hid (boxed_low HX0.out l1); clear l1)
  have HT1 := hid (HT.out.low L1.out)
  have xt := HX1.out.cell
  go_upto_region 4 with (go_at_call 8; refine (HRV.out _ HT1.out.pl).mono ?_; rintro e w2 ⟨c, i, rfl, hr, l2⟩; have HR := hid hr; have L2 := hid (L1.out.trans (l2.mono L1.out.size)); have HX2 := hid (boxed_low HX1.out l2); clear l2 hr)
  have HT2 := hid (HT.out.low L2.out)
  have yt := HX2.out.cell
  go_wp2_with (first
    | (go_at_call 11; refine (HCP.out _ HT2.out).mono ?_; rintro e w3 ⟨a', cap', rfl, hp, l3⟩; have HP3 := hid hp; have L3 := hid (L2.out.trans (l3.mono L2.out.size)); clear l3 hp)
    | (go_at_call 10; refine (HVA.out _ _ _ HP3.out.pl).mono ?_; rintro e w4 ⟨ev, rfl, l4, he⟩; have HE := hid he; have L4 := hid (L3.out.trans (l4.mono L3.out.size)); clear l4 he)
    | (go_at_call 9; refine (HRF.out _ _ _ _ _ HE.out HR.out).mono ?_; rintro e w5 ⟨rfl, l5⟩; have L5 := hid (L4.out.trans (l5.mono L4.out.size)); clear l5))
  exact bodyPost_ret (v := .bool true) (by simp [results, Tryd.results3]) rfl ⟨rfl, L5.out⟩
set_option maxHeartbeats 4000000 in
set_option maxRecDepth 100000 in
theorem shownests_any (a : Option Addr) (T : List Pt) (cap : Nat) (w : World) (hT : PLs w a T) (hG : GdT T) :
    Calls Tryd.prog 4 #[.agg #[.slice a T.length cap]] w fun e w' => e = .returned (.bool true) ∧ Below w.heap.size w w' := by
  obtain ⟨L, hLe⟩ : ∃ L, L = T.length := ⟨_, rfl⟩
  have HT := hid hT
  have HAW := hid awake_any
  have HRN := hid (fun W (h : PL W a T) => rnest_any a T cap W h hG)
  have HCP := hid (fun W (h : PLs W a T) => copy_any a T cap W h hG)
  have HNA := hid (fun a' cap' W (h : PL W a' T) => nest_any a' T cap' W h hG)
  have HRF := hid (fun B c i W ev h k => @refusal_any T B c i W ev h k)
  rw [← hLe] at HRN HCP HNA ⊢
  have HB0 := hid (belowA w (.cells #[.slice a L cap] 24))
  have HX0 := hid (Boxed.new w 24 (.slice a L cap))
  clear hT hG hLe
  go_enter Tryd.func4, Tryd.ntmps4
  go_upto_region 1 with (fail)
  generalize w.alloc (.cells #[.slice a L cap] 24) = X at *
  go_upto_region 3 with (go_at_call 7; refine (HAW.out _).mono ?_; rintro e w1 ⟨rfl, l1⟩; have L1 := hid (HB0.out.trans (l1.mono HB0.out.size)); have HX1 := hid (boxed_low HX0.out l1); clear l1)
  have HT1 := hid (HT.out.low L1.out)
  have xt := HX1.out.cell
  go_upto_region 4 with (first
    | (go_at_call 11; refine (HCP.out _ HT1.out).mono ?_; rintro e w2 ⟨a', cap', rfl, hp, l2⟩; have HP2 := hid hp; have L2 := hid (L1.out.trans (l2.mono L1.out.size)); have HX2 := hid (boxed_low HX1.out l2); clear l2 hp)
    | (go_at_call 12; refine (HNA.out _ _ _ HP2.out.pl).mono ?_; rintro e w3 ⟨m, ev, rfl, l3, he, hm⟩; have HE := hid he; have HM := hid hm; have L3 := hid (L2.out.trans (l3.mono L2.out.size)); have HX3 := hid (boxed_low HX2.out l3); clear l3 he hm))
  have HT3 := hid (HT.out.low L3.out)
  have yt := HX3.out.cell
  go_upto_region 5 with (go_at_call 13; refine (HRN.out _ HT3.out.pl).mono ?_; rintro e w4 ⟨m', c, i, rfl, hr, hm', l4⟩; have HR := hid hr; have HM' := hid hm'; have HE4 := hid (HE.out.low l4 (Nat.le_refl _)); have L4 := hid (L3.out.trans (l4.mono L3.out.size)); clear l4 hr hm')
  have hmm : m' = m := by
    rcases HE.out with ⟨e0, h0⟩ | ⟨N, c', i', e0, _, _, h0, hn⟩
    · have hc := (res_one h0 HR.out).1
      rcases HM.out with ⟨h1, _⟩ | ⟨_, h1⟩
      · exact absurd e0 h1
      · rcases HM'.out with ⟨h2, _⟩ | ⟨_, h2⟩
        · exact absurd hc.symm h2
        · exact h2.one h1
    · have hc := (res_one h0 HR.out).1
      rcases HM.out with ⟨_, h1⟩ | ⟨h1, _⟩
      · rcases HM'.out with ⟨_, h2⟩ | ⟨h2, _⟩
        · rw [h1, h2]
        · exact absurd (hc.trans h2) hn
      · rw [h1] at e0
        unfold fv at e0
        cases e0
  subst hmm
  go_wp2_with (go_at_call 9; refine (HRF.out _ _ _ _ _ HE4.out HR.out).mono ?_; rintro e w5 ⟨rfl, l5⟩; have L5 := hid (L4.out.trans (l5.mono L4.out.size)); clear l5)
  exact bodyPost_ret (v := .bool true) (by simp [results, Tryd.results4]) rfl ⟨rfl, L5.out⟩
end Go.Proofs.YtdnoagebcolgbaaDoor.L
