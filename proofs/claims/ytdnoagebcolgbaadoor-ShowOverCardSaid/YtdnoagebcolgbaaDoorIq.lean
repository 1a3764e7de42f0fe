import Derived.Test.YtdnoagebcolgbaaDoorMhA
namespace Go.Proofs.YtdnoagebcolgbaaDoor.L
open Go.RowKit Go.Shelf
set_option linter.unusedVariables false
set_option maxHeartbeats 16000000 in
set_option maxRecDepth 100000 in
theorem over_any (a an ar : Option Addr) (T : List Pt) (cap cn cr : Nat) (n mo : Int) (w : World) (hV : Vld T n) (hL : T.length < 1000) (hn : n < 32) (hT : PLs w a T) (hT3 : PLs w an (T ++ [overP 3 ⟨#[]⟩ T.length])) (hT8 : PLs w ar (T ++ [overP 8 zoB T.length])) (hmo : mo = btw 3 (pt T (T.length - 1)).kind) (hv : TabW w) :
    Calls Tryd.prog 17 #[.agg #[.slice a T.length cap], .agg #[.slice an (T ++ [overP 3 ⟨#[]⟩ T.length]).length cn], .agg #[.slice ar (T ++ [overP 8 zoB T.length]).length cr], .int .i64 n, .int .i64 mo] w fun e w' => e = .returned (.bool true) ∧ Below w.heap.size w w' := by
  have HRS := hid (res_nest hV)
  have HCP := hid (fun W (h : PLs W a T) => copy_any a T cap W h hV.gd)
  have HTA := hid (fun a' cap' W (h : PL W a' T) => text_any a' T cap' W h hV.gd)
  have HN8 := hid (fun W hp => nest_ov hV hL ov8 (by rw [btw8]; omega) ar cr W hp)
  rw [btw8] at HN8
  have HT8 := hid (fun hs hl W hp hv => text_ov hV hL ov8 (by rw [btw8]; omega) hs hl ar cr W hp hv)
  have HN3 := hid (fun hd W hp => nest_ov hV hL ov3 hd an cn W hp)
  have HT3 := hid (fun hd hs hl W hp hv => text_ov hV hL ov3 hd hs hl an cn W hp hv)
  have HV3 := hid (fun hd W hp => valid_ov_no hV hL ov3 hd an cn W hp)
  rw [← hmo] at HN3 HT3 HV3
  have HP := hid hT
  have HP3 := hid hT3
  have HP8 := hid hT8
  have HTV := hid hv
  have HOV8 := hid (fun sl hs => ovT8 T sl hV.one hs)
  have HOV3 := hid (fun sl hs => ovT3 T sl hV.one hs (quoteL (⟨#[]⟩ : ByteArray).data.toList))
  have h0 := hV.low
  have hm : (mo = 1 ∧ brB 3 (pt T (T.length - 1)).kind = false) ∨ (mo = 2 ∧ brB 3 (pt T (T.length - 1)).kind = true) := by
    rw [hmo, btw3]
    cases brB 3 (pt T (T.length - 1)).kind
    · exact Or.inl ⟨rfl, rfl⟩
    · exact Or.inr ⟨rfl, rfl⟩
  have HRF := hid (fun N W (hf : Flt W N 131 (-1)) => refusal_yes N 131 (-1) W hf (by decide))
  have HRN := hid refusal_no
  generalize (pt T (T.length - 1)).kind = kk at *
  clear hT hT3 hT8 hv hmo hL hV
  generalize hT3e : T ++ [overP 3 ⟨#[]⟩ T.length] = T3 at *
  generalize hT8e : T ++ [overP 8 zoB T.length] = T8 at *
  clear hT3e hT8e
  generalize hL3 : T3.length = L3 at *
  generalize hL8 : T8.length = L8 at *
  clear hL3 hL8
  have HLE := hid (show T.length = T.length from rfl)
  obtain ⟨sl, hsl⟩ : ∃ sl, (txs T T.length).getD (T.length - 1) [] = sl := ⟨_, rfl⟩
  have HSL := hid hsl
  have HSB := hid (show Shrt T T.length → 1 ≤ T.length → sl.length ≤ 4096 from fun hs h1 => by have := hs (T.length - 1) (by omega); rwa [hsl] at this)
  clear hsl
  have HTX := hid (show ∀ B W s ev, TxR T B W s ev → (ev = .nilIface ∧ Shrt T T.length ∧ s = S sl) ∨ (∃ N, ev = fv N ∧ Flt W N 131 (-1)) from fun B W s ev h => by
    rcases h with ⟨he, hne, _⟩ | ⟨_, h2, h3, h4⟩ | ⟨_, _, _, N, h3, h4, _⟩
    · exact absurd (err_nil he HRS.out) hne
    · exact Or.inl ⟨h3, h2, by rw [h4, HSL.out]⟩
    · exact Or.inr ⟨N, h3, h4⟩)
  have HONE := hid HRS.out.ok.1
  generalize T.length = L at *
  have b0 := belowA w (.cells #[.slice a L cap] 24)
  have b1 := belowA (w.alloc (.cells #[.slice a L cap] 24)) (.cells #[.slice an L3 cn] 24)
  have b2 := belowA ((w.alloc (.cells #[.slice a L cap] 24)).alloc (.cells #[.slice an L3 cn] 24)) (.cells #[.slice ar L8 cr] 24)
  have HB := hid (bch (bch b0 b1) b2)
  have HX0 := hid (boxed_low (boxed_low (Boxed.new w 24 (.slice a L cap)) b1) b2)
  have HX1 := hid (boxed_low (Boxed.new (w.alloc (.cells #[.slice a L cap] 24)) 24 (.slice an L3 cn)) b2)
  have HX2 := hid (Boxed.new ((w.alloc (.cells #[.slice a L cap] 24)).alloc (.cells #[.slice an L3 cn] 24)) 24 (.slice ar L8 cr))
  simp only [World.size_alloc] at HX1 HX2
  clear b0 b1 b2
  go_enter Tryd.func17, Tryd.ntmps17
  go_upto_region 1 with (fail)
  have HPX := hid (HP.out.low HB.out)
  generalize ((w.alloc (.cells #[.slice a L cap] 24)).alloc (.cells #[.slice an L3 cn] 24)).alloc (.cells #[.slice ar L8 cr] 24) = X at *
  have xt := HX0.out.cell
  go_upto_region 2 with (first
    | (go_at_call 11; refine (HCP.out X HPX.out).mono ?_; rintro e w1 ⟨a', cap', rfl, hp, l1⟩; have HP1 := hid hp; have L1 := hid l1; clear l1 hp)
    | (go_at_call 14; refine (HTA.out _ _ _ HP1.out.pl (HTV.out.low (bch HB.out L1.out))).mono ?_; rintro e w2 ⟨s, ev, rfl, l2, he⟩; have HE := hid (HTX.out _ _ _ _ he); have L2 := hid l2; clear l2 he))
  -- TAIL
  have M2 := hid (show Below X.heap.size X w2 from bch L1.out L2.out)
  have HBW := hid (show Below w.heap.size w w2 from bch HB.out M2.out)
  clear xt HLE
  rcases HE.out with ⟨he, hs, hse⟩ | ⟨N, he, hf⟩
  · subst he
    have HSH := hid hs
    have HSE := hid hse
    have hsz : s.size ≤ 4096 := by rw [hse, S_size]; exact HSB.out hs HONE.out
    clear hs hse
    have HT8' := hid (show s.size + 16 ≤ 4096 → ∀ W, PL W ar T8 → TabW W → Calls Tryd.prog 14 #[.agg #[.slice ar L8 cr]] W fun e w' => e = .returned (.tuple #[.string ((⟨#[110, 101, 97, 114, 40, 34, 122, 111, 92, 34, 110, 101, 34, 44, 32]⟩ ++ s) ++ ⟨#[41]⟩), .nilIface]) ∧ Below W.heap.size W w' by
      intro h W hp hv
      have e8 := HOV8.out sl HSL.out
      have h9 := HT8.out HSH.out (by rw [e8]; rw [HSE.out, S_size] at h; simp only [List.length_append, List.length_cons, List.length_nil]; omega) W hp hv
      rw [e8] at h9
      rw [show (⟨#[110, 101, 97, 114, 40, 34, 122, 111, 92, 34, 110, 101, 34, 44, 32]⟩ ++ s) ++ ⟨#[41]⟩ = S ([110, 101, 97, 114, 40, 34, 122, 111, 92, 34, 110, 101, 34, 44, 32] ++ sl ++ [41]) by rw [HSE.out, show (⟨#[110, 101, 97, 114, 40, 34, 122, 111, 92, 34, 110, 101, 34, 44, 32]⟩ : ByteArray) = S [110, 101, 97, 114, 40, 34, 122, 111, 92, 34, 110, 101, 34, 44, 32] from rfl, show (⟨#[41]⟩ : ByteArray) = S [41] from rfl, S_app, S_app]]
      exact h9)
    have xn := (boxed_low HX1.out M2.out).cell
    have xr := (boxed_low HX2.out M2.out).cell
    have HXN := hid (boxed_low HX1.out M2.out)
    have HXR := hid (boxed_low HX2.out M2.out)
    have HV2 := hid (HTV.out.low HBW.out)
    have HP82 := hid (HP8.out.low HBW.out)
    have HP32 := hid (HP3.out.low HBW.out)
    have hn1 : n + 1 ≤ 32 := by omega
    clear HT8
    rcases hm with ⟨hmo, hbr⟩ | ⟨hmo, hbr⟩
    · subst hmo
      have HT3' := hid (show n + 1 ≤ 32 → ¬ 4096 < s.size + 3 → ∀ W, PL W an T3 → TabW W → Calls Tryd.prog 14 #[.agg #[.slice an L3 cn]] W fun e w' => e = .returned (.tuple #[.string (⟨#[33]⟩ ++ s), .nilIface]) ∧ Below W.heap.size W w' by
        intro hd h W hp hv
        have e3 := HOV3.out sl HSL.out
        rw [hbr] at e3
        simp only [if_false, Bool.false_eq_true] at e3
        have h9 := HT3.out hd HSH.out (by rw [e3]; rw [HSE.out, S_size] at h; simp only [List.length_append, List.length_cons, List.length_nil]; omega) W hp hv
        rw [e3] at h9
        rw [show ⟨#[33]⟩ ++ s = S ([33] ++ sl) by rw [HSE.out, show (⟨#[33]⟩ : ByteArray) = S [33] from rfl, S_app]]
        exact h9)
      clear HT3 HOV3 HOV8 hbr
      by_cases h16 : s.size + 16 ≤ 4096
      · have h16i : (s.size : Int) + 16 ≤ 4096 := by omega
        have HN8' := hid (HN8.out w2 HP82.out.pl)
        have HT8T := hid (fun W hp hv => HT8'.out h16 W hp hv)
        clear HT8' HN8
        go_upto_region 9 with (first | (go_at_call 12; refine HN8'.out.mono ?_; rintro e w3 ⟨rfl, l3⟩; have L3 := hid l3; clear l3; have xr3 := (boxed_low HXR.out L3.out).cell) | (go_at_call 14; refine (HT8T.out _ (HP82.out.low L3.out).pl (HV2.out.low L3.out)).mono ?_; rintro e w4 ⟨rfl, l4⟩; have L4 := hid l4; clear l4))
        have M4 := hid (show Below w2.heap.size w2 w4 from bch L3.out L4.out)
        have xn4 := (boxed_low HXN.out M4.out).cell
        have HXN4 := hid (boxed_low HXN.out M4.out)
        have HP34 := hid (HP32.out.low M4.out)
        have HV4 := hid (HV2.out.low M4.out)
        have HB4 := hid (show Below w.heap.size w w4 from bch HBW.out M4.out)
        clear xn xr xr3
        have hd2 : n + 1 ≤ 32 := hn1
        have h3 : ¬ 4096 < s.size + 3 := by omega
        have h3i : ¬ (4096 : Int) < (s.size : Int) + 3 := by omega
        have HNN := hid (HN3.out hd2 w4 HP34.out.pl)
        have HTN := hid (fun W hp hv => HT3'.out hd2 h3 W hp hv)
        go_wp2_with (first | (go_at_call 12; refine HNN.out.mono ?_; rintro e w6 ⟨rfl, l6⟩; have L6 := hid l6; clear l6; have xn6 := (boxed_low HXN4.out L6.out).cell) | (go_at_call 14; refine (HTN.out _ (HP34.out.low L6.out).pl (HV4.out.low L6.out)).mono ?_; rintro e w7 ⟨rfl, l7⟩; have L7 := hid l7; clear l7))
        exact bodyPost_ret (v := .bool true) (by simp [results, Tryd.results17]) rfl ⟨rfl, bch (bch HB4.out L6.out) L7.out⟩
      · have h16i : ¬ (s.size : Int) + 16 ≤ 4096 := by omega
        clear HT8' HN8 xr
        go_upto_region 9 with (fail)
        have hd2 : n + 1 ≤ 32 := hn1
        by_cases h3 : 4096 < s.size + 3
        · have h3i : (4096 : Int) < (s.size : Int) + 3 := by omega
          go_wp2_with fail
          exact bodyPost_ret (v := .bool true) (by simp [results, Tryd.results17]) rfl ⟨rfl, HBW.out⟩
        have h3i : ¬ (4096 : Int) < (s.size : Int) + 3 := by omega
        have HNN := hid (HN3.out hd2 w2 HP32.out.pl)
        have HTN := hid (fun W hp hv => HT3'.out hd2 h3 W hp hv)
        go_wp2_with (first | (go_at_call 12; refine HNN.out.mono ?_; rintro e w6 ⟨rfl, l6⟩; have L6 := hid l6; clear l6; have xn6 := (boxed_low HXN.out L6.out).cell) | (go_at_call 14; refine (HTN.out _ (HP32.out.low L6.out).pl (HV2.out.low L6.out)).mono ?_; rintro e w7 ⟨rfl, l7⟩; have L7 := hid l7; clear l7))
        exact bodyPost_ret (v := .bool true) (by simp [results, Tryd.results17]) rfl ⟨rfl, bch (bch HBW.out L6.out) L7.out⟩
    · subst hmo
      have HT3' := hid (show n + 2 ≤ 32 → ¬ 4096 < s.size + 3 → ∀ W, PL W an T3 → TabW W → Calls Tryd.prog 14 #[.agg #[.slice an L3 cn]] W fun e w' => e = .returned (.tuple #[.string ((⟨#[33, 40]⟩ ++ s) ++ ⟨#[41]⟩), .nilIface]) ∧ Below W.heap.size W w' by
        intro hd h W hp hv
        have e3 := HOV3.out sl HSL.out
        rw [hbr] at e3
        simp only [if_true] at e3
        have h9 := HT3.out hd HSH.out (by rw [e3]; rw [HSE.out, S_size] at h; simp only [List.length_append, List.length_cons, List.length_nil]; omega) W hp hv
        rw [e3] at h9
        rw [show (⟨#[33, 40]⟩ ++ s) ++ ⟨#[41]⟩ = S ([33, 40] ++ sl ++ [41]) by rw [HSE.out, show (⟨#[33, 40]⟩ : ByteArray) = S [33, 40] from rfl, show (⟨#[41]⟩ : ByteArray) = S [41] from rfl, S_app, S_app]]
        exact h9)
      clear HT3 HOV3 HOV8 hbr
      by_cases h16 : s.size + 16 ≤ 4096
      · have h16i : (s.size : Int) + 16 ≤ 4096 := by omega
        have HN8' := hid (HN8.out w2 HP82.out.pl)
        have HT8T := hid (fun W hp hv => HT8'.out h16 W hp hv)
        clear HT8' HN8
        go_upto_region 9 with (first | (go_at_call 12; refine HN8'.out.mono ?_; rintro e w3 ⟨rfl, l3⟩; have L3 := hid l3; clear l3; have xr3 := (boxed_low HXR.out L3.out).cell) | (go_at_call 14; refine (HT8T.out _ (HP82.out.low L3.out).pl (HV2.out.low L3.out)).mono ?_; rintro e w4 ⟨rfl, l4⟩; have L4 := hid l4; clear l4))
        have M4 := hid (show Below w2.heap.size w2 w4 from bch L3.out L4.out)
        have xn4 := (boxed_low HXN.out M4.out).cell
        have HXN4 := hid (boxed_low HXN.out M4.out)
        have HP34 := hid (HP32.out.low M4.out)
        have HV4 := hid (HV2.out.low M4.out)
        have HB4 := hid (show Below w.heap.size w w4 from bch HBW.out M4.out)
        clear xn xr xr3
        by_cases hd : 32 < n + 2
        · have HVN := hid (HV3.out hd w4 HP34.out.pl)
          go_wp2_with (first | (go_at_call 10; refine HVN.out.mono ?_; rintro e w6 ⟨N, rfl, l6⟩; have L6 := hid l6; clear l6) | (go_at_call 9; refine (HRN.out N 0 _).mono ?_; rintro e w7 ⟨rfl, hww⟩; have hw2 := hww.symm; clear hww; subst hw2))
          exact bodyPost_ret (v := .bool true) (by simp [results, Tryd.results17]) rfl ⟨rfl, bch HB4.out L6.out⟩
        have hd2 : n + 2 ≤ 32 := by omega
        have h3 : ¬ 4096 < s.size + 3 := by omega
        have h3i : ¬ (4096 : Int) < (s.size : Int) + 3 := by omega
        have HNN := hid (HN3.out hd2 w4 HP34.out.pl)
        have HTN := hid (fun W hp hv => HT3'.out hd2 h3 W hp hv)
        go_wp2_with (first | (go_at_call 12; refine HNN.out.mono ?_; rintro e w6 ⟨rfl, l6⟩; have L6 := hid l6; clear l6; have xn6 := (boxed_low HXN4.out L6.out).cell) | (go_at_call 14; refine (HTN.out _ (HP34.out.low L6.out).pl (HV4.out.low L6.out)).mono ?_; rintro e w7 ⟨rfl, l7⟩; have L7 := hid l7; clear l7))
        exact bodyPost_ret (v := .bool true) (by simp [results, Tryd.results17]) rfl ⟨rfl, bch (bch HB4.out L6.out) L7.out⟩
      · have h16i : ¬ (s.size : Int) + 16 ≤ 4096 := by omega
        clear HT8' HN8 xr
        go_upto_region 9 with (fail)
        by_cases hd : 32 < n + 2
        · have HVN := hid (HV3.out hd w2 HP32.out.pl)
          go_wp2_with (first | (go_at_call 10; refine HVN.out.mono ?_; rintro e w6 ⟨N, rfl, l6⟩; have L6 := hid l6; clear l6) | (go_at_call 9; refine (HRN.out N 0 _).mono ?_; rintro e w7 ⟨rfl, hww⟩; have hw2 := hww.symm; clear hww; subst hw2))
          exact bodyPost_ret (v := .bool true) (by simp [results, Tryd.results17]) rfl ⟨rfl, bch HBW.out L6.out⟩
        have hd2 : n + 2 ≤ 32 := by omega
        by_cases h3 : 4096 < s.size + 3
        · have h3i : (4096 : Int) < (s.size : Int) + 3 := by omega
          go_wp2_with fail
          exact bodyPost_ret (v := .bool true) (by simp [results, Tryd.results17]) rfl ⟨rfl, HBW.out⟩
        have h3i : ¬ (4096 : Int) < (s.size : Int) + 3 := by omega
        have HNN := hid (HN3.out hd2 w2 HP32.out.pl)
        have HTN := hid (fun W hp hv => HT3'.out hd2 h3 W hp hv)
        go_wp2_with (first | (go_at_call 12; refine HNN.out.mono ?_; rintro e w6 ⟨rfl, l6⟩; have L6 := hid l6; clear l6; have xn6 := (boxed_low HXN.out L6.out).cell) | (go_at_call 14; refine (HTN.out _ (HP32.out.low L6.out).pl (HV2.out.low L6.out)).mono ?_; rintro e w7 ⟨rfl, l7⟩; have L7 := hid l7; clear l7))
        exact bodyPost_ret (v := .bool true) (by simp [results, Tryd.results17]) rfl ⟨rfl, bch (bch HBW.out L6.out) L7.out⟩
  · subst he
    have HRC := hid (HRF.out N w2 hf)
    clear hf
    unfold fv at HRC ⊢
    go_wp2_with (go_at_call 9; refine HRC.out.mono ?_; rintro e w3 ⟨rfl, l3⟩; have L3 := hid l3; clear l3)
    exact bodyPost_ret (v := .bool true) (by simp [results, Tryd.results17]) rfl ⟨rfl, bch HBW.out L3.out⟩
end Go.Proofs.YtdnoagebcolgbaaDoor.L
