import Derived.Test.YtdnoagebcolgbabDoorIb
import Derived.Test.YtdnoagebcolgbabDoorHN
namespace Go.Proofs.YtdnoagebcolgbabDoor.L
open Go.RowKit Go.Shelf
set_option linter.unusedVariables false
/-- What Text answers. -/
def TxR (T : List Pt) (B : Nat) (W : World) (s : ByteArray) (ev : Value) : Prop :=
  (ErrR T B W ev ∧ ev ≠ .nilIface ∧ s = ⟨#[]⟩) ∨ (Res T 0 0 ∧ Shrt T T.length ∧ ev = .nilIface ∧ s = S ((txs T T.length).getD (T.length - 1) [])) ∨
  (Res T 0 0 ∧ ¬ Shrt T T.length ∧ s = ⟨#[]⟩ ∧ ∃ N, ev = fv N ∧ Flt W N 131 (-1) ∧ B ≤ N)
theorem TxR.low {T : List Pt} {B B' : Nat} {W W' : World} {s : ByteArray} {ev : Value} (h : TxR T B W s ev) (hb : Below W.heap.size W W') (hB : B' ≤ B) : TxR T B' W' s ev := by
  rcases h with ⟨a, b, c⟩ | h | ⟨a, b, c, N, d, e, f⟩
  · exact Or.inl ⟨a.low hb hB, b, c⟩
  · exact Or.inr (Or.inl h)
  · exact Or.inr (Or.inr ⟨a, b, c, N, d, e.low hb, Nat.le_trans hB f⟩)
set_option maxHeartbeats 4000000 in
set_option maxRecDepth 100000 in
theorem text_any (a : Option Addr) (T : List Pt) (cap : Nat) (w : World) (hT : PL w a T) (hG : GdT T) (hv : TabW w) :
    Calls Tryd.prog 8 #[.agg #[.slice a T.length cap]] w fun e w' => ∃ s ev, e = .returned (.tuple #[.string s, ev]) ∧ Below w.heap.size w w' ∧ TxR T w.heap.size w' s ev := by
  have HB0 := hid (belowA w (.cells #[.slice a T.length cap] 24))
  have HX0 := hid (Boxed.new w 24 (.slice a T.length cap))
  have HT := hid (hT.low HB0.out)
  have HTV := hid (hv.low HB0.out)
  have HGD := hid hG
  have HV := hid (fun W h => valid_any a T cap W h hG)
  have HTO := hid (fun W h (hr : Res T 0 0) => textof_any a T cap W h hr.ok.1 hr.ok.2.1 hr.ok.2.2.1)
  have HSZ := hid (show (w.alloc (.cells #[.slice a T.length cap] 24)).heap.size = w.heap.size + 1 by simp)
  clear hT hG hv
  generalize hL : T.length = L at *
  have HL := hid hL
  clear hL
  go_enter Tryd.func8, Tryd.ntmps8
  go_upto_region 1 with (fail)
  generalize w.alloc (.cells #[.slice a L cap] 24) = X at *
  have xt := HX0.out.cell
  go_upto_region 2 with (go_at_call 6; refine (HV.out _ HT.out).mono ?_; rintro e w1 ⟨ev, rfl, l1, he⟩; have L1 := hid l1; have HE := hid he; clear l1 he)
  rcases HE.out with ⟨he, hres⟩ | ⟨N, c, i, he, hf, hB, hr, hc⟩
  · subst he
    have yt := (boxed_low HX0.out L1.out).cell
    have HRS := hid hres
    have HTT := hid (HTO.out w1 (HT.out.low L1.out) hres (HTV.out.low L1.out))
    clear hres xt HTO
    have HRE := hid (show S ((txs T L).getD (L - 1) []) = S ((txs T T.length).getD (T.length - 1) []) by rw [HL.out])
    generalize S ((txs T L).getD (L - 1) []) = R at *
    have HFA := hid (fun W => fault_any 131 (-1) W)
    go_upto_region 5 with (go_at_call 13; refine HTT.out.mono ?_; rintro e w2 ⟨l2, hcs⟩; have L2 := hid l2; clear l2; rcases hcs with ⟨hs, rfl⟩ | ⟨hs, rfl⟩)
    · have HSH := hid hs
      clear hs
      go_wp2_with fail
      exact bodyPost_ret (v := .tuple #[.string R, .nilIface]) (by simp [results, Tryd.results8]) rfl ⟨R, .nilIface, rfl, bch (bch HB0.out L1.out) L2.out, Or.inr (Or.inl ⟨HRS.out, by rw [HL.out]; exact HSH.out, rfl, HRE.out⟩)⟩
    · have HSH := hid hs
      clear hs
      go_wp2_with (go_at_call 14; refine (HFA.out _).mono ?_; rintro e w3 ⟨rfl, hf3, l3⟩; have L3 := hid l3; have HF3 := hid hf3; clear l3 hf3)
      exact bodyPost_ret (v := .tuple #[.string ⟨#[]⟩, fv w2.heap.size]) (by simp [results, Tryd.results8]) rfl ⟨_, _, rfl, bch (bch (bch HB0.out L1.out) L2.out) L3.out, Or.inr (Or.inr ⟨HRS.out, by rw [HL.out]; exact HSH.out, rfl, w2.heap.size, rfl, HF3.out, (bch (bch HB0.out L1.out) L2.out).size⟩)⟩
  · subst he
    have HER := hid (show ErrR T w.heap.size w1 (fv N) from Or.inr ⟨N, c, i, rfl, hf, Nat.le_trans HB0.out.size hB, hr, hc⟩)
    have HNE := hid (show fv N ≠ .nilIface from fun h => by cases h)
    clear hf hB hr hc xt HTO
    unfold fv at *
    go_wp2_with fail
    exact bodyPost_ret (v := .tuple #[.string ⟨#[]⟩, fv N]) (by simp [results, Tryd.results8, fv]) rfl ⟨_, _, rfl, bch HB0.out L1.out, Or.inl ⟨HER.out, HNE.out, rfl⟩⟩
end Go.Proofs.YtdnoagebcolgbabDoor.L
