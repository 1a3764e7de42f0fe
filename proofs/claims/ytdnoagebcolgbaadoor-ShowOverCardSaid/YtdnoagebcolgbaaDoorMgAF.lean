import Derived.Test.YtdnoagebcolgbaaDoorIj
import Derived.Test.YtdnoagebcolgbaaDoorHP
import Derived.Test.YtdnoagebcolgbaaDoorHR
import Derived.LaidSub
import Derived.Lib.LaidTab
namespace Go.Proofs.YtdnoagebcolgbaaDoor.L
open Go.RowKit Go.Shelf
set_option linter.unusedVariables false
theorem tx_uni {T : List Pt} {B : Nat} {W : World} {s s' : ByteArray} {ev : Value} {c i : Int} (h : TxR T B W s ev) (k : TxD T s' c i) :
    s' = s ∧ Calls Tryd.prog 9 #[ev, .int .i64 c, .int .i64 i] W fun e w' => e = .returned (.bool true) ∧ Below W.heap.size W w' := by
  rcases h with ⟨he, hne, rfl⟩ | ⟨hr, hs, rfl, rfl⟩ | ⟨hr, hs, rfl, N, rfl, hf, _⟩
  · rcases k with ⟨c', i', rfl, rfl, hr', hc, rfl⟩ | ⟨hr', _⟩ | ⟨hr', _⟩
    · exact ⟨rfl, refusal_any he hr'⟩
    · rcases he with ⟨e, _⟩ | ⟨N, c', i', _, _, _, h, h0⟩
      · exact absurd e hne
      · exact absurd (res_one h hr').1 h0
    · rcases he with ⟨e, _⟩ | ⟨N, c', i', _, _, _, h, h0⟩
      · exact absurd e hne
      · exact absurd (res_one h hr').1 h0
  · rcases k with ⟨c', i', rfl, rfl, hr', hc, rfl⟩ | ⟨hr', _, rfl, rfl, rfl⟩ | ⟨_, hs', _⟩
    · exact absurd (res_one hr' hr).1 hc
    · refine ⟨rfl, (refusal_nil 0 W).mono ?_⟩
      rintro e w' ⟨rfl, rfl⟩
      exact ⟨rfl, Below.refl _ _⟩
    · exact absurd hs hs'
  · rcases k with ⟨c', i', rfl, rfl, hr', hc, rfl⟩ | ⟨_, hs', _⟩ | ⟨_, _, rfl, rfl, rfl⟩
    · exact absurd (res_one hr' hr).1 hc
    · exact absurd hs' hs
    · exact ⟨rfl, refusal_yes N 131 (-1) W hf (by decide)⟩
set_option maxHeartbeats 4000000 in
set_option maxRecDepth 100000 in
theorem showtexts_any (a : Option Addr) (T : List Pt) (cap : Nat) (w : World) (hT : PLs w a T) (hG : GdT T) (hv : TabW w) :
    Calls Tryd.prog 5 #[.agg #[.slice a T.length cap]] w fun e w' => e = .returned (.bool true) ∧ Below w.heap.size w w' := by
  obtain ⟨L, hLe⟩ : ∃ L, L = T.length := ⟨_, rfl⟩
  have HT := hid hT
  have HTV := hid hv
  have HAW := hid awake_any
  have HRT := hid (fun W (h : PL W a T) => rtext_any a T cap W h hG)
  have HCP := hid (fun W (h : PLs W a T) => copy_any a T cap W h hG)
  have HTA := hid (fun a' cap' W (h : PL W a' T) => text_any a' T cap' W h hG)
  have HRF := hid (fun B W s s' ev c i h k => @tx_uni T B W s s' ev c i h k)
  rw [← hLe] at HRT HCP HTA ⊢
  have HB0 := hid (belowA w (.cells #[.slice a L cap] 24))
  have HX0 := hid (Boxed.new w 24 (.slice a L cap))
  clear hT hG hLe hv
  go_enter Tryd.func5, Tryd.ntmps5
  go_upto_region 1 with (fail)
  generalize w.alloc (.cells #[.slice a L cap] 24) = X at *
  go_upto_region 3 with (go_at_call 7; refine (HAW.out _).mono ?_; rintro e w1 ⟨rfl, l1⟩; have L1 := hid (HB0.out.trans (l1.mono HB0.out.size)); have HX1 := hid (boxed_low HX0.out l1); clear l1)
  have HT1 := hid (HT.out.low L1.out)
  have xt := HX1.out.cell
  go_upto_region 4 with (first
    | (go_at_call 11; refine (HCP.out _ HT1.out).mono ?_; rintro e w2 ⟨a', cap', rfl, hp, l2⟩; have HP2 := hid hp; have L2 := hid (L1.out.trans (l2.mono L1.out.size)); have HX2 := hid (boxed_low HX1.out l2); clear l2 hp)
    | (go_at_call 14; refine (HTA.out _ _ _ HP2.out.pl (HTV.out.low L2.out)).mono ?_; rintro e w3 ⟨s, ev, rfl, l3, he⟩; have HE := hid he; have L3 := hid (L2.out.trans (l3.mono L2.out.size)); have HX3 := hid (boxed_low HX2.out l3); clear l3 he))
  have HT3 := hid (HT.out.low L3.out)
  have yt := HX3.out.cell
  go_upto_region 5 with (go_at_call 15; refine (HRT.out _ HT3.out.pl).mono ?_; rintro e w4 ⟨s', c, i, rfl, hr, l4⟩; have HR := hid hr; have HE4 := hid (HE.out.low l4 (Nat.le_refl _)); have L4 := hid (L3.out.trans (l4.mono L3.out.size)); clear l4 hr)
  have hss : s' = s := (HRF.out _ _ _ _ _ _ _ HE4.out HR.out).1
  have HRC := hid (HRF.out _ _ _ _ _ _ _ HE4.out HR.out).2
  subst hss
  go_wp2_with (go_at_call 9; refine HRC.out.mono ?_; rintro e w5 ⟨rfl, l5⟩; have L5 := hid (L4.out.trans (l5.mono L4.out.size)); clear l5)
  exact bodyPost_ret (v := .bool true) (by simp [results, Tryd.results5]) rfl ⟨rfl, L5.out⟩
end Go.Proofs.YtdnoagebcolgbaaDoor.L
namespace Go.Proofs.YtdnoagebcolgbaaDoor.L
open Go.ChangeShapes Go.WideShapes Go.ChangeAt Go.RowKit Go.Joins
set_option linter.unusedVariables false
theorem tab_laid {W : World} {laid : List (String × DataW Unit)} (h : laidMetH Tryd.prog laid W)
    (e1 : (laid.filter fun x => x.1 == "internal/strconv.uint64pow10") = [("internal/strconv.uint64pow10", Rows.laid_internal_strconv_uint64pow10)]) : TabW W := by
  have k1 : laidMet Tryd.prog [("internal/strconv.uint64pow10", Rows.laid_internal_strconv_uint64pow10)] W := by have := h.filter (fun x => x.1 == "internal/strconv.uint64pow10"); rw [e1] at this; exact this
  exact Lib.tabIs_of_head (rest := []) (g := 1) (t := 127) (by kernel_rfl) (by kernel_rfl) Tryd.underlying127 Tryd.underlying120 (by kernel_rfl) (by kernel_rfl) k1
end Go.Proofs.YtdnoagebcolgbaaDoor.L
