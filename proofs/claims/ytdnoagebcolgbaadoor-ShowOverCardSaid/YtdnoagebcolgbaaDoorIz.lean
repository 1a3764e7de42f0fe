import Derived.Test.YtdnoagebcolgbaaDoorIq
import Derived.Test.YtdnoagebcolgbaaDoorMgAF
namespace Go.Proofs.YtdnoagebcolgbaaDoor.L
open Go.RowKit Go.Shelf
set_option linter.unusedVariables false
set_option maxHeartbeats 16000000 in
set_option maxRecDepth 100000 in
theorem showover_any (a : Option Addr) (T : List Pt) (cap : Nat) (w : World) (hT : PLs w a T) (hG : GdT T) (hv : TabW w) :
    Calls Tryd.prog 6 #[.agg #[.slice a T.length cap]] w fun e w' => e = .returned (.bool true) ∧ Below w.heap.size w w' := by
  obtain ⟨L, hLe⟩ : ∃ L, L = T.length := ⟨_, rfl⟩
  have HT := hid hT
  have HTV := hid hv
  have HL := hid hLe
  have HAW := hid awake_any
  have HCP := hid (fun W (h : PLs W a T) => copy_any a T cap W h hG)
  have HNA := hid (fun a' cap' W (h : PL W a' T) => nest_any a' T cap' W h hG)
  have HHU := hid (fun k tx W h hs h1 h2 => hung_any a T cap k tx W h hG hs h1 h2)
  have HVA := hid (fun a' cap' T' W h hg => valid_any a' T' cap' W h hg)
  rw [← hLe] at HCP HNA HHU ⊢
  have HB0 := hid (belowA w (.cells #[.slice a L cap] 24))
  have HX0 := hid (Boxed.new w 24 (.slice a L cap))
  clear hT hG hLe hv
  go_enter Tryd.func6, Tryd.ntmps6
  go_upto_region 1 with (fail)
  generalize w.alloc (.cells #[.slice a L cap] 24) = X at *
  go_upto_region 3 with (go_at_call 7; refine (HAW.out _).mono ?_; rintro e w1 ⟨rfl, l1⟩; have L1 := hid (HB0.out.trans (l1.mono HB0.out.size)); have HX1 := hid (boxed_low HX0.out l1); clear l1)
  have HT1 := hid (HT.out.low L1.out)
  have xt := HX1.out.cell
  go_upto_region 4 with (first
    | (go_at_call 11; refine (HCP.out _ HT1.out).mono ?_; rintro e w2 ⟨a', cap', rfl, hp, l2⟩; have HP2 := hid hp; have L2 := hid (L1.out.trans (l2.mono L1.out.size)); have HX2 := hid (boxed_low HX1.out l2); clear l2 hp)
    | (go_at_call 12; refine (HNA.out _ _ _ HP2.out.pl).mono ?_; rintro e w3 ⟨n, ev, rfl, l3, he, hm⟩; have HE := hid he; have HM := hid hm; have L3 := hid (L2.out.trans (l3.mono L2.out.size)); have HX3 := hid (boxed_low HX2.out l3); clear l3 he hm))
  clear xt
  rcases HE.out with ⟨he, hres⟩ | ⟨N, c, i, he, _⟩
  · subst he
    have HVL := hid (show Vld T n by
      rcases HM.out with ⟨h1, _⟩ | ⟨_, h1⟩
      · exact absurd rfl h1
      · exact hres.vld h1)
    clear hres HM HE
    have h1 : 1 ≤ L := by rw [HL.out]; exact HVL.out.one
    have hL : L ≤ 1000 := by rw [HL.out]; exact HVL.out.most
    have hn0 := HVL.out.low
    have hn1 := HVL.out.high
    have HT3 := hid (HT.out.low L3.out)
    have xt := HX3.out.cell
    rcases HT3.out with h0 | ⟨b2, o2, rfl, hb2, hc2⟩
    · have := HL.out; omega
    obtain ⟨k1, hk1⟩ : ∃ k1, k1 = L - 1 := ⟨_, rfl⟩
    obtain ⟨ka, kc, q0, _⟩ := hc2 k1 (by rw [← HL.out]; omega)
    have HK1 := hid (show k1 = T.length - 1 by rw [hk1, HL.out])
    have e1 : ((L : Int) - 1) = (k1 : Int) := by omega
    have g1 : (k1 : Int) < (L : Int) := by omega
    have g2 : (0 : Int) ≤ (k1 : Int) := by omega
    have hLi : ((L : Int) == 0) = false := by simp; omega
    generalize hkk : (pt T k1).kind = kk at *
    have HKK := hid hkk
    clear hc2 hkk hk1
    have HMO := hid (show (if (kk == 4 || kk == 5) = true then (2 : Int) else 1) = btw 3 (pt T (T.length - 1)).kind by
      rw [btw3, br3, ← HK1.out, HKK.out])
    have HVT := hid HVL.out
    have HSUM := hid HVL.out.sum
    obtain ⟨T3, hT3⟩ : ∃ T3, T3 = T ++ [overP 3 ⟨#[]⟩ T.length] := ⟨_, rfl⟩
    obtain ⟨T8, hT8⟩ : ∃ T8, T8 = T ++ [overP 8 zoB T.length] := ⟨_, rfl⟩
    have HH3 := hid (show ∀ W, PLs W (some ⟨b2, o2, none⟩) T → Calls Tryd.prog 16 #[.agg #[.slice (some ⟨b2, o2, none⟩) L cap], .agg #[.int .i64 3, .string ⟨#[]⟩, .int .i64 0, .slice none 0 0]] W fun e w' => ∃ a' cap', e = .returned (.agg #[.slice a' T3.length cap']) ∧ PLs w' a' T3 ∧ Below W.heap.size W w' by
      intro W h
      have h9 := HHU.out 3 ⟨#[]⟩ W h (by rw [HL.out]; exact HSUM.out) h1 hL
      rw [HL.out] at h9 ⊢
      rw [hT3]
      exact h9)
    have HH8 := hid (show ∀ W, PLs W (some ⟨b2, o2, none⟩) T → Calls Tryd.prog 16 #[.agg #[.slice (some ⟨b2, o2, none⟩) L cap], .agg #[.int .i64 8, .string ⟨#[122, 111, 34, 110, 101]⟩, .int .i64 0, .slice none 0 0]] W fun e w' => ∃ a' cap', e = .returned (.agg #[.slice a' T8.length cap']) ∧ PLs w' a' T8 ∧ Below W.heap.size W w' by
      intro W h
      have h9 := HHU.out 8 zoB W h (by rw [HL.out]; exact HSUM.out) h1 hL
      rw [HL.out] at h9 ⊢
      rw [hT8]
      exact h9)
    have HOVA := hid (show L < 1000 → n < 32 → ∀ an cn ar cr mo W, PLs W (some ⟨b2, o2, none⟩) T → PLs W an T3 → PLs W ar T8 → mo = btw 3 (pt T (T.length - 1)).kind → TabW W → Calls Tryd.prog 17 #[.agg #[.slice (some ⟨b2, o2, none⟩) L cap], .agg #[.slice an T3.length cn], .agg #[.slice ar T8.length cr], .int .i64 n, .int .i64 mo] W fun e w' => e = .returned (.bool true) ∧ Below W.heap.size W w' by
      intro h2 h3 an cn ar cr mo W p1 p2 p3 hmo hv
      have h9 := over_any (some ⟨b2, o2, none⟩) an ar T cap cn cr n mo W HVT.out (by rw [← HL.out]; exact h2) h3 p1 (by rw [← hT3]; exact p2) (by rw [← hT8]; exact p3) hmo hv
      rw [← hT3, ← hT8, ← HL.out] at h9
      exact h9)
    have HV3 := hid (show ∀ an cn W, PL W an T3 → Calls Tryd.prog 10 #[.agg #[.slice an T3.length cn]] W fun e w' => ∃ ev, e = .returned ev ∧ Below W.heap.size W w' ∧ ErrR T3 W.heap.size w' ev from fun an cn W h => valid_any an T3 cn W h (by rw [hT3]; exact HVT.out.gdo _ _))
    have HV8 := hid (show ∀ an cn W, PL W an T8 → Calls Tryd.prog 10 #[.agg #[.slice an T8.length cn]] W fun e w' => ∃ ev, e = .returned ev ∧ Below W.heap.size W w' ∧ ErrR T8 W.heap.size w' ev from fun an cn W h => valid_any an T8 cn W h (by rw [hT8]; exact HVT.out.gdo _ _))
    have HR3 := hid (show L = 1000 → Res T3 130 1000 from fun h => by rw [hT3]; exact res_great (by rw [← HL.out]; exact h))
    have HR8 := hid (show L = 1000 → Res T8 130 1000 from fun h => by rw [hT8]; exact res_great (by rw [← HL.out]; exact h))
    have HN3 := hid (show L < 1000 → n = 32 → ∀ an cn W, PL W an T3 → Calls Tryd.prog 10 #[.agg #[.slice an T3.length cn]] W fun e w' => ∃ N, e = .returned (fv N) ∧ Below W.heap.size W w' from fun h2 h3 an cn W h => by
      have hb := btw3 (pt T (T.length - 1)).kind
      have h9 := valid_ov_no HVT.out (by rw [← HL.out]; exact h2) ov3 (by rw [hb, h3]; split <;> omega) an cn W (by rw [← hT3]; exact h)
      rw [← hT3] at h9
      exact h9)
    have HN8 := hid (show L < 1000 → n = 32 → ∀ an cn W, PL W an T8 → Calls Tryd.prog 10 #[.agg #[.slice an T8.length cn]] W fun e w' => ∃ N, e = .returned (fv N) ∧ Below W.heap.size W w' from fun h2 h3 an cn W h => by
      have hb := btw8 (pt T (T.length - 1)).kind
      have h9 := valid_ov_no HVT.out (by rw [← HL.out]; exact h2) ov8 (by rw [hb, h3]; omega) an cn W (by rw [← hT8]; exact h)
      rw [← hT8] at h9
      exact h9)
    have HRN := hid refusal_no
    clear hT3 hT8 HHU HVA HNA HCP HAW
    generalize T3.length = Q3 at *
    generalize T8.length = Q8 at *
    go_upto_region 10 with (fail)
    have hkk : kk = 4 ∨ kk = 5 ∨ (kk ≠ 4 ∧ kk ≠ 5) := by omega
    rcases hkk with rfl | rfl | ⟨hk4, hk5⟩
    · have HME := hid (show (2 : Int) = btw 3 (pt T (T.length - 1)).kind by rw [← HMO.out]; rfl)
      clear q0
      go_upto_region 13 with (go_at_call 16; refine (HH3.out _ HT3.out).mono ?_; rintro e w4 ⟨an, cn, rfl, hp4, l4⟩; have HP4 := hid hp4; have L4 := hid l4; clear hp4 l4)
      have HA4 := hid (belowA w4 (.cells #[.slice an Q3 cn] 24))
      have HXN4 := hid (Boxed.new w4 24 (.slice an Q3 cn))
      have HP5 := hid (HP4.out.low HA4.out)
      have M5 := hid (show Below w3.heap.size w3 _ from bch L4.out HA4.out)
      have HWL := hid (HX3.out.lt)
      have HN4 := hid (show w3.heap.size ≤ w4.heap.size from L4.out.size)
      clear xt
      generalize w4.alloc (.cells #[.slice an Q3 cn] 24) = W5 at *
      generalize w4.heap.size = n4 at *
      have HX5 := hid (boxed_low HX3.out M5.out)
      have HT5 := hid (HT3.out.low M5.out)
      have xt := HX5.out.cell
      go_upto_region 14 with (go_at_call 16; refine (HH8.out _ HT5.out).mono ?_; rintro e w6 ⟨ar, cr, rfl, hp6, l6⟩; have HP6 := hid hp6; have L6 := hid l6; clear hp6 l6)
      have HA6 := hid (belowA w6 (.cells #[.slice ar Q8 cr] 24))
      have HXR6 := hid (Boxed.new w6 24 (.slice ar Q8 cr))
      have HPR := hid (HP6.out.low HA6.out)
      have M7 := hid (show Below W5.heap.size W5 _ from bch L6.out HA6.out)
      clear xt
      generalize w6.alloc (.cells #[.slice ar Q8 cr] 24) = W7 at *
      generalize w6.heap.size = n6 at *
      have HPN := hid (HP5.out.low M7.out)
      have HXN := hid (boxed_low HXN4.out M7.out)
      have HX7 := hid (boxed_low HX5.out M7.out)
      have HT7 := hid (HT5.out.low M7.out)
      have HB7 := hid (show Below w.heap.size w W7 from bch (bch L3.out M5.out) M7.out)
      have HV7 := hid (HTV.out.low HB7.out)
      have xt := HX7.out.cell
      have xn := HXN.out.cell
      have xr := HXR6.out.cell
      by_cases hLk : L = 1000
      · have R3 := hid (HR3.out hLk)
        have R8 := hid (HR8.out hLk)
        have hLi2 : ((L : Int) == 1000) = true := by simp; omega
        go_wp2_with (first
          | (go_at_call 10; refine (HV3.out _ _ _ HPN.out.pl).mono ?_; rintro e w8 ⟨ev8, rfl, l8, he8⟩; have L8' := hid l8; have RF8 := hid (refusal_any he8 R3.out); clear l8 he8 HV3)
          | (go_at_call 9; refine RF8.out.mono ?_; rintro e w9 ⟨rfl, l9⟩; have L9 := hid (show Below W7.heap.size W7 w9 from bch L8'.out l9); clear l9; clear RF8; have xr9 := (boxed_low HXR6.out L9.out).cell; have HP9 := hid (HPR.out.low L9.out))
          | (go_at_call 10; refine (HV8.out _ _ _ HP9.out.pl).mono ?_; rintro e w10 ⟨ev10, rfl, l10, he10⟩; have L10 := hid l10; have RF10 := hid (refusal_any he10 R8.out); clear l10 he10)
          | (go_at_call 9; refine RF10.out.mono ?_; rintro e w11 ⟨rfl, l11⟩; have L11 := hid l11; clear l11))
        exact bodyPost_ret (v := .bool true) (by simp [results, Tryd.results6]) rfl ⟨rfl, bch (bch (bch HB7.out L9.out) L10.out) L11.out⟩
      · have hLl : L < 1000 := by omega
        have hLi2 : ((L : Int) == 1000) = false := by simp; omega
        by_cases hn32 : n = 32
        · have N3 := hid (HN3.out hLl hn32)
          have N8 := hid (HN8.out hLl hn32)
          have hni : (n == 32) = true := by simp [hn32]
          have KM := hid True.intro
          clear hn32
          go_wp2_with (first
            | (go_at_call 10; refine (N3.out _ _ _ HPN.out.pl).mono ?_; rintro e w8 ⟨N8', rfl, l8⟩; have L9 := hid l8; clear l8; have xr9 := (boxed_low HXR6.out L9.out).cell; have HP9 := hid (HPR.out.low L9.out); clear N3)
            | (have KN := KM.out; go_at_call 9; refine (HRN.out N8' 0 _).mono ?_; rintro e w9 ⟨rfl, hww⟩; have hw2 := hww.symm; clear hww KN KM; subst hw2)
            | (go_at_call 10; refine (N8.out _ _ _ HP9.out.pl).mono ?_; rintro e w10 ⟨N10, rfl, l10⟩; have L10 := hid l10; clear l10)
            | (go_at_call 9; refine (HRN.out N10 0 _).mono ?_; rintro e w11 ⟨rfl, hww⟩; have hw2 := hww.symm; clear hww; subst hw2))
          exact bodyPost_ret (v := .bool true) (by simp [results, Tryd.results6]) rfl ⟨rfl, bch (bch HB7.out L9.out) L10.out⟩
        · have hni : (n == 32) = false := by simp [hn32]
          have HOC := hid (HOVA.out hLl (by omega) an cn ar cr 2 W7 HT7.out HPN.out HPR.out HME.out HV7.out)
          go_wp2_with (go_at_call 17; refine HOC.out.mono ?_; rintro e w8 ⟨rfl, l8⟩; have L8' := hid l8; clear l8)
          exact bodyPost_ret (v := .bool true) (by simp [results, Tryd.results6]) rfl ⟨rfl, bch HB7.out L8'.out⟩
    · have HME := hid (show (2 : Int) = btw 3 (pt T (T.length - 1)).kind by rw [← HMO.out]; rfl)
      clear q0
      go_upto_region 13 with (go_at_call 16; refine (HH3.out _ HT3.out).mono ?_; rintro e w4 ⟨an, cn, rfl, hp4, l4⟩; have HP4 := hid hp4; have L4 := hid l4; clear hp4 l4)
      have HA4 := hid (belowA w4 (.cells #[.slice an Q3 cn] 24))
      have HXN4 := hid (Boxed.new w4 24 (.slice an Q3 cn))
      have HP5 := hid (HP4.out.low HA4.out)
      have M5 := hid (show Below w3.heap.size w3 _ from bch L4.out HA4.out)
      have HWL := hid (HX3.out.lt)
      have HN4 := hid (show w3.heap.size ≤ w4.heap.size from L4.out.size)
      clear xt
      generalize w4.alloc (.cells #[.slice an Q3 cn] 24) = W5 at *
      generalize w4.heap.size = n4 at *
      have HX5 := hid (boxed_low HX3.out M5.out)
      have HT5 := hid (HT3.out.low M5.out)
      have xt := HX5.out.cell
      go_upto_region 14 with (go_at_call 16; refine (HH8.out _ HT5.out).mono ?_; rintro e w6 ⟨ar, cr, rfl, hp6, l6⟩; have HP6 := hid hp6; have L6 := hid l6; clear hp6 l6)
      have HA6 := hid (belowA w6 (.cells #[.slice ar Q8 cr] 24))
      have HXR6 := hid (Boxed.new w6 24 (.slice ar Q8 cr))
      have HPR := hid (HP6.out.low HA6.out)
      have M7 := hid (show Below W5.heap.size W5 _ from bch L6.out HA6.out)
      clear xt
      generalize w6.alloc (.cells #[.slice ar Q8 cr] 24) = W7 at *
      generalize w6.heap.size = n6 at *
      have HPN := hid (HP5.out.low M7.out)
      have HXN := hid (boxed_low HXN4.out M7.out)
      have HX7 := hid (boxed_low HX5.out M7.out)
      have HT7 := hid (HT5.out.low M7.out)
      have HB7 := hid (show Below w.heap.size w W7 from bch (bch L3.out M5.out) M7.out)
      have HV7 := hid (HTV.out.low HB7.out)
      have xt := HX7.out.cell
      have xn := HXN.out.cell
      have xr := HXR6.out.cell
      by_cases hLk : L = 1000
      · have R3 := hid (HR3.out hLk)
        have R8 := hid (HR8.out hLk)
        have hLi2 : ((L : Int) == 1000) = true := by simp; omega
        go_wp2_with (first
          | (go_at_call 10; refine (HV3.out _ _ _ HPN.out.pl).mono ?_; rintro e w8 ⟨ev8, rfl, l8, he8⟩; have L8' := hid l8; have RF8 := hid (refusal_any he8 R3.out); clear l8 he8 HV3)
          | (go_at_call 9; refine RF8.out.mono ?_; rintro e w9 ⟨rfl, l9⟩; have L9 := hid (show Below W7.heap.size W7 w9 from bch L8'.out l9); clear l9; clear RF8; have xr9 := (boxed_low HXR6.out L9.out).cell; have HP9 := hid (HPR.out.low L9.out))
          | (go_at_call 10; refine (HV8.out _ _ _ HP9.out.pl).mono ?_; rintro e w10 ⟨ev10, rfl, l10, he10⟩; have L10 := hid l10; have RF10 := hid (refusal_any he10 R8.out); clear l10 he10)
          | (go_at_call 9; refine RF10.out.mono ?_; rintro e w11 ⟨rfl, l11⟩; have L11 := hid l11; clear l11))
        exact bodyPost_ret (v := .bool true) (by simp [results, Tryd.results6]) rfl ⟨rfl, bch (bch (bch HB7.out L9.out) L10.out) L11.out⟩
      · have hLl : L < 1000 := by omega
        have hLi2 : ((L : Int) == 1000) = false := by simp; omega
        by_cases hn32 : n = 32
        · have N3 := hid (HN3.out hLl hn32)
          have N8 := hid (HN8.out hLl hn32)
          have hni : (n == 32) = true := by simp [hn32]
          have KM := hid True.intro
          clear hn32
          go_wp2_with (first
            | (go_at_call 10; refine (N3.out _ _ _ HPN.out.pl).mono ?_; rintro e w8 ⟨N8', rfl, l8⟩; have L9 := hid l8; clear l8; have xr9 := (boxed_low HXR6.out L9.out).cell; have HP9 := hid (HPR.out.low L9.out); clear N3)
            | (have KN := KM.out; go_at_call 9; refine (HRN.out N8' 0 _).mono ?_; rintro e w9 ⟨rfl, hww⟩; have hw2 := hww.symm; clear hww KN KM; subst hw2)
            | (go_at_call 10; refine (N8.out _ _ _ HP9.out.pl).mono ?_; rintro e w10 ⟨N10, rfl, l10⟩; have L10 := hid l10; clear l10)
            | (go_at_call 9; refine (HRN.out N10 0 _).mono ?_; rintro e w11 ⟨rfl, hww⟩; have hw2 := hww.symm; clear hww; subst hw2))
          exact bodyPost_ret (v := .bool true) (by simp [results, Tryd.results6]) rfl ⟨rfl, bch (bch HB7.out L9.out) L10.out⟩
        · have hni : (n == 32) = false := by simp [hn32]
          have HOC := hid (HOVA.out hLl (by omega) an cn ar cr 2 W7 HT7.out HPN.out HPR.out HME.out HV7.out)
          go_wp2_with (go_at_call 17; refine HOC.out.mono ?_; rintro e w8 ⟨rfl, l8⟩; have L8' := hid l8; clear l8)
          exact bodyPost_ret (v := .bool true) (by simp [results, Tryd.results6]) rfl ⟨rfl, bch HB7.out L8'.out⟩
    · have HME := hid (show (1 : Int) = btw 3 (pt T (T.length - 1)).kind by rw [← HMO.out]; rw [if_neg (by simp; omega)])
      have hk4' : (kk == 4) = false := by simp [hk4]
      have hk5' : (kk == 5) = false := by simp [hk5]
      clear q0
      go_upto_region 13 with (go_at_call 16; refine (HH3.out _ HT3.out).mono ?_; rintro e w4 ⟨an, cn, rfl, hp4, l4⟩; have HP4 := hid hp4; have L4 := hid l4; clear hp4 l4)
      have HA4 := hid (belowA w4 (.cells #[.slice an Q3 cn] 24))
      have HXN4 := hid (Boxed.new w4 24 (.slice an Q3 cn))
      have HP5 := hid (HP4.out.low HA4.out)
      have M5 := hid (show Below w3.heap.size w3 _ from bch L4.out HA4.out)
      have HWL := hid (HX3.out.lt)
      have HN4 := hid (show w3.heap.size ≤ w4.heap.size from L4.out.size)
      clear xt
      generalize w4.alloc (.cells #[.slice an Q3 cn] 24) = W5 at *
      generalize w4.heap.size = n4 at *
      have HX5 := hid (boxed_low HX3.out M5.out)
      have HT5 := hid (HT3.out.low M5.out)
      have xt := HX5.out.cell
      go_upto_region 14 with (go_at_call 16; refine (HH8.out _ HT5.out).mono ?_; rintro e w6 ⟨ar, cr, rfl, hp6, l6⟩; have HP6 := hid hp6; have L6 := hid l6; clear hp6 l6)
      have HA6 := hid (belowA w6 (.cells #[.slice ar Q8 cr] 24))
      have HXR6 := hid (Boxed.new w6 24 (.slice ar Q8 cr))
      have HPR := hid (HP6.out.low HA6.out)
      have M7 := hid (show Below W5.heap.size W5 _ from bch L6.out HA6.out)
      clear xt
      generalize w6.alloc (.cells #[.slice ar Q8 cr] 24) = W7 at *
      generalize w6.heap.size = n6 at *
      have HPN := hid (HP5.out.low M7.out)
      have HXN := hid (boxed_low HXN4.out M7.out)
      have HX7 := hid (boxed_low HX5.out M7.out)
      have HT7 := hid (HT5.out.low M7.out)
      have HB7 := hid (show Below w.heap.size w W7 from bch (bch L3.out M5.out) M7.out)
      have HV7 := hid (HTV.out.low HB7.out)
      have xt := HX7.out.cell
      have xn := HXN.out.cell
      have xr := HXR6.out.cell
      by_cases hLk : L = 1000
      · have R3 := hid (HR3.out hLk)
        have R8 := hid (HR8.out hLk)
        have hLi2 : ((L : Int) == 1000) = true := by simp; omega
        go_wp2_with (first
          | (go_at_call 10; refine (HV3.out _ _ _ HPN.out.pl).mono ?_; rintro e w8 ⟨ev8, rfl, l8, he8⟩; have L8' := hid l8; have RF8 := hid (refusal_any he8 R3.out); clear l8 he8 HV3)
          | (go_at_call 9; refine RF8.out.mono ?_; rintro e w9 ⟨rfl, l9⟩; have L9 := hid (show Below W7.heap.size W7 w9 from bch L8'.out l9); clear l9; clear RF8; have xr9 := (boxed_low HXR6.out L9.out).cell; have HP9 := hid (HPR.out.low L9.out))
          | (go_at_call 10; refine (HV8.out _ _ _ HP9.out.pl).mono ?_; rintro e w10 ⟨ev10, rfl, l10, he10⟩; have L10 := hid l10; have RF10 := hid (refusal_any he10 R8.out); clear l10 he10)
          | (go_at_call 9; refine RF10.out.mono ?_; rintro e w11 ⟨rfl, l11⟩; have L11 := hid l11; clear l11))
        exact bodyPost_ret (v := .bool true) (by simp [results, Tryd.results6]) rfl ⟨rfl, bch (bch (bch HB7.out L9.out) L10.out) L11.out⟩
      · have hLl : L < 1000 := by omega
        have hLi2 : ((L : Int) == 1000) = false := by simp; omega
        by_cases hn32 : n = 32
        · have N3 := hid (HN3.out hLl hn32)
          have N8 := hid (HN8.out hLl hn32)
          have hni : (n == 32) = true := by simp [hn32]
          have KM := hid True.intro
          clear hn32
          go_wp2_with (first
            | (go_at_call 10; refine (N3.out _ _ _ HPN.out.pl).mono ?_; rintro e w8 ⟨N8', rfl, l8⟩; have L9 := hid l8; clear l8; have xr9 := (boxed_low HXR6.out L9.out).cell; have HP9 := hid (HPR.out.low L9.out); clear N3)
            | (have KN := KM.out; go_at_call 9; refine (HRN.out N8' 0 _).mono ?_; rintro e w9 ⟨rfl, hww⟩; have hw2 := hww.symm; clear hww KN KM; subst hw2)
            | (go_at_call 10; refine (N8.out _ _ _ HP9.out.pl).mono ?_; rintro e w10 ⟨N10, rfl, l10⟩; have L10 := hid l10; clear l10)
            | (go_at_call 9; refine (HRN.out N10 0 _).mono ?_; rintro e w11 ⟨rfl, hww⟩; have hw2 := hww.symm; clear hww; subst hw2))
          exact bodyPost_ret (v := .bool true) (by simp [results, Tryd.results6]) rfl ⟨rfl, bch (bch HB7.out L9.out) L10.out⟩
        · have hni : (n == 32) = false := by simp [hn32]
          have HOC := hid (HOVA.out hLl (by omega) an cn ar cr 1 W7 HT7.out HPN.out HPR.out HME.out HV7.out)
          go_wp2_with (go_at_call 17; refine HOC.out.mono ?_; rintro e w8 ⟨rfl, l8⟩; have L8' := hid l8; clear l8)
          exact bodyPost_ret (v := .bool true) (by simp [results, Tryd.results6]) rfl ⟨rfl, bch HB7.out L8'.out⟩
  · subst he
    unfold fv
    go_wp2_with fail
    exact bodyPost_ret (v := .bool true) (by simp [results, Tryd.results6]) rfl ⟨rfl, L3.out⟩
end Go.Proofs.YtdnoagebcolgbaaDoor.L
