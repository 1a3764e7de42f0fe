import Derived.Test.YtlhlpamciafocaaGreatDoorMgBB
import Derived.Test.YtlhlpamciafocaaGreatDoorMgAV
import Derived.Lib.ItoaMem
import Derived.Sort.Grow
import Derived.Test.YtlhlpamciafocaaGreatDoorMgAP
import Derived.Test.YtlhlpamciafocaaGreatDoorRows
import Derived.Test.YtlhlpamciafocaaGreatDoorTie
import Derived.Test.YtlhlpamciafocaaGreatDoorCards
import Derived.Test.YtlhlpamciafocaaGreatDoorMgAF
import Derived.ProofKit
import Derived.LaidMore
import Derived.LaidLaws
import Derived.LaidSub
import Derived.OpenShut
import Derived.SizedLaws
import Derived.Deep.DeepHandedRow
import Derived.Deep.Slices
import Derived.Lib.SmallJoins
import Derived.Lib.LaidTab
import Derived.SevenTiedAt
namespace Go.Proofs.YtlhlpamciafocaaGreatDoor.L.Sw
open Go.RowKit Go.Shelf
set_option linter.unusedVariables false
abbrev T0 : List Pt := [⟨1, ⟨#[]⟩, 0, []⟩, ⟨3, ⟨#[]⟩, 0, [0]⟩]
theorem ok0 : Ok0 T0 := by
  intro j hj
  match j, hj with
  | 0, _ => exact ⟨by decide, rfl, rfl, by decide, by decide, by kernel_rfl, fun x hx => by cases hx⟩
  | 1, _ => exact ⟨by decide, rfl, rfl, by decide, by decide, by kernel_rfl, fun x hx => by simp [T0, pt] at hx; subst hx; kernel_rfl⟩
theorem nests0 : nests T0 = [1, 0] := by kernel_rfl
theorem res0 : Res T0 0 0 := by
  refine Or.inr (Or.inr ⟨by decide, by decide, Or.inr (Or.inr ⟨ok0, ?_, Or.inr ⟨?_, rfl, rfl⟩⟩)⟩)
  · rintro (h | h)
    · exact h (by decide)
    · exact absurd h (by decide)
  · intro j hj
    rw [nests0]
    match j, hj with
    | 0, _ => decide
    | 1, _ => decide
theorem gd0 : GdT T0 := ⟨by decide, fun j hj => by
  match j, hj with
  | 0, _ => decide
  | 1, _ => decide⟩
theorem err0 {B : Nat} {W : World} {ev : Value} (h : ErrR T0 B W ev) : ev = .nilIface := by
  rcases h with h | ⟨N, c, i, _, _, _, h, h0⟩
  · exact h.1
  · exact absurd (res_one h res0).1 h0
end Go.Proofs.YtlhlpamciafocaaGreatDoor.L.Sw
namespace Go.Proofs.YtlhlpamciafocaaGreatDoor.L.Sw
open Go.RowKit Go.Shelf
set_option linter.unusedVariables false
/-- What Text answers. -/
def TxR (T : List Pt) (B : Nat) (W : World) (s : ByteArray) (ev : Value) : Prop :=
  (ErrR T B W ev ∧ ev ≠ .nilIface ∧ s = ⟨#[]⟩) ∨ (Res T 0 0 ∧ Shrt T T.length ∧ ev = .nilIface ∧ s = S ((txs T T.length).getD (T.length - 1) [])) ∨
  (Res T 0 0 ∧ ¬ Shrt T T.length ∧ s = ⟨#[]⟩ ∧ ∃ N, ev = fv N ∧ Flt W N 131 (-1) ∧ B ≤ N)
set_option maxHeartbeats 4000000 in
set_option maxRecDepth 100000 in
theorem text_any (a : Option Addr) (T : List Pt) (cap : Nat) (w : World) (hT : PL w a T) (hG : GdT T) (hv : TabW w) :
    Calls Tryz.prog 10 #[.agg #[.slice a T.length cap]] w fun e w' => ∃ s ev, e = .returned (.tuple #[.string s, ev]) ∧ Below w.heap.size w w' ∧ TxR T w.heap.size w' s ev := by
  have HB0 := hid (belowA w (.cells #[.slice a T.length cap] 24))
  have HX0 := hid (Boxed.new w 24 (.slice a T.length cap))
  have HT := hid (hT.low HB0.out)
  have HTV := hid (hv.low HB0.out)
  have HGD := hid hG
  have HV := hid (fun W h => valid_any a T cap W h hG)
  have HTO := hid (fun W h (hr : Res T 0 0) => textof_any a T cap W h hr.ok.1 hr.ok.2.1 hr.ok.2.2.1)
  have HSZ := hid (show (w.alloc (.cells #[.slice a T.length cap] 24)).heap.size = w.heap.size + 1 by simp)
  clear hT hG hv
  generalize hL : T.length = L at *
  have HL := hid hL
  clear hL
  go_enter Tryz.func10, Tryz.ntmps10
  go_upto_region 1 with (fail)
  generalize w.alloc (.cells #[.slice a L cap] 24) = X at *
  have xt := HX0.out.cell
  go_upto_region 2 with (go_at_call 8; refine (HV.out _ HT.out).mono ?_; rintro e w1 ⟨ev, rfl, l1, he⟩; have L1 := hid l1; have HE := hid he; clear l1 he)
  rcases HE.out with ⟨he, hres⟩ | ⟨N, c, i, he, hf, hB, hr, hc⟩
  · subst he
    have yt := (boxed_low HX0.out L1.out).cell
    have HRS := hid hres
    have HTT := hid (HTO.out w1 (HT.out.low L1.out) hres (HTV.out.low L1.out))
    clear hres xt HTO
    have HRE := hid (show S ((txs T L).getD (L - 1) []) = S ((txs T T.length).getD (T.length - 1) []) by rw [HL.out])
    generalize S ((txs T L).getD (L - 1) []) = R at *
    have HFA := hid (fun W => fault_any 131 (-1) W)
    go_upto_region 5 with (go_at_call 20; refine HTT.out.mono ?_; rintro e w2 ⟨l2, hcs⟩; have L2 := hid l2; clear l2; rcases hcs with ⟨hs, rfl⟩ | ⟨hs, rfl⟩)
    · have HSH := hid hs
      clear hs
      go_wp2_with fail
      exact bodyPost_ret (v := .tuple #[.string R, .nilIface]) (by simp [results, Tryz.results10]) rfl ⟨R, .nilIface, rfl, bch (bch HB0.out L1.out) L2.out, Or.inr (Or.inl ⟨HRS.out, by rw [HL.out]; exact HSH.out, rfl, HRE.out⟩)⟩
    · have HSH := hid hs
      clear hs
      go_wp2_with (go_at_call 21; refine (HFA.out _).mono ?_; rintro e w3 ⟨rfl, hf3, l3⟩; have L3 := hid l3; have HF3 := hid hf3; clear l3 hf3)
      exact bodyPost_ret (v := .tuple #[.string ⟨#[]⟩, fv w2.heap.size]) (by simp [results, Tryz.results10]) rfl ⟨_, _, rfl, bch (bch (bch HB0.out L1.out) L2.out) L3.out, Or.inr (Or.inr ⟨HRS.out, by rw [HL.out]; exact HSH.out, rfl, w2.heap.size, rfl, HF3.out, (bch (bch HB0.out L1.out) L2.out).size⟩)⟩
  · subst he
    have HER := hid (show ErrR T w.heap.size w1 (fv N) from Or.inr ⟨N, c, i, rfl, hf, Nat.le_trans HB0.out.size hB, hr, hc⟩)
    have HNE := hid (show fv N ≠ .nilIface from fun h => by cases h)
    clear hf hB hr hc xt HTO
    unfold fv at *
    go_wp2_with fail
    exact bodyPost_ret (v := .tuple #[.string ⟨#[]⟩, fv N]) (by simp [results, Tryz.results10, fv]) rfl ⟨_, _, rfl, bch HB0.out L1.out, Or.inl ⟨HER.out, HNE.out, rfl⟩⟩
end Go.Proofs.YtlhlpamciafocaaGreatDoor.L.Sw
namespace Go.Proofs.YtlhlpamciafocaaGreatDoor.L.Sw
open Go.RowKit Go.Shelf
set_option linter.unusedVariables false
end Go.Proofs.YtlhlpamciafocaaGreatDoor.L.Sw
namespace Go.Proofs.YtlhlpamciafocaaGreatDoor.L
open Go.RowKit Go.Shelf
set_option linter.unusedVariables false
set_option linter.unusedSimpArgs false
namespace Zq
end Zq
end Go.Proofs.YtlhlpamciafocaaGreatDoor.L
namespace Go.Proofs.YtlhlpamciafocaaGreatDoor.L
open Go.RowKit Go.Shelf
set_option linter.unusedVariables false
set_option linter.unusedSimpArgs false
end Go.Proofs.YtlhlpamciafocaaGreatDoor.L
namespace Go.Proofs.YtlhlpamciafocaaGreatDoor.L
open Go.RowKit Go.Shelf
set_option linter.unusedVariables false
set_option linter.unusedSimpArgs false
section
variable {T : List Tok}
end
end Go.Proofs.YtlhlpamciafocaaGreatDoor.L
namespace Go.Proofs.YtlhlpamciafocaaGreatDoor.L
open Go.RowKit Go.Shelf
set_option linter.unusedVariables false
set_option linter.unusedSimpArgs false
end Go.Proofs.YtlhlpamciafocaaGreatDoor.L
namespace Go.Proofs.YtlhlpamciafocaaGreatDoor.L
open Go.RowKit
set_option linter.unusedVariables false
set_option linter.unusedSimpArgs false
theorem par_ok {src : ByteArray} {W1 W2 : World} {e : Ending} {s : PS} (hp : parR src = .ok s) (h : PaR src W1 e W2) : ∃ va vc oa oc, e = .returned (.tuple #[.agg #[.slice va s.ps.length vc], .slice oa s.os.length oc, .nilIface]) ∧ PLs W2 va s.ps ∧ RdI W2 oa s.os := by
  unfold PaR at h
  rw [hp] at h
  obtain ⟨pb, B, Nb, tv, T, v, o, ks, hB, rfl, pm⟩ := h
  obtain ⟨a, c, e1, h1⟩ := pm.parts.pl
  obtain ⟨a2, c2, e2, h2⟩ := own_rdi pm.offs
  exact ⟨a, c, a2, c2, by rw [e1, e2], h1, h2⟩
theorem shrt0 : Shrt Sw.T0 Sw.T0.length := by
  intro j hj
  match j, hj with
  | 0, _ => decide +kernel
  | 1, _ => decide +kernel
def nt : ByteArray := ⟨#[33, 116, 114, 117, 101]⟩
theorem nt_text : S ((txs Sw.T0 Sw.T0.length).getD (Sw.T0.length - 1) []) = nt := by kernel_rfl
theorem nt_par : ∃ s, parR nt = .ok s ∧ s.ps = Sw.T0 ∧ s.os.length = 2 := by
  obtain ⟨s, h1, h2⟩ := reads_res Sw.res0 shrt0
  rw [nt_text] at h1
  refine ⟨s, h1, h2, ?_⟩
  have := (either_ok h1).len
  rw [this, h2]
  rfl
end Go.Proofs.YtlhlpamciafocaaGreatDoor.L
namespace Go.Proofs.YtlhlpamciafocaaGreatDoor.L
open Go.RowKit
set_option linter.unusedVariables false
set_option linter.unusedSimpArgs false
set_option maxHeartbeats 4000000 in
set_option maxRecDepth 100000 in
theorem reads_any (w : World) (hv : Vars w) (ht : Sw.TabW w) : Calls Tryz.prog 15 #[] w fun e w' => e = .returned (.bool true) ∧ Below w.heap.size w w' := by
  have HV := hid hv
  have HT := hid ht
  clear hv ht
  obtain ⟨s, hs, hps, hos⟩ := nt_par
  have HS := hid hs
  clear hs
  go_enter Tryz.func15, Tryz.ntmps15
  go_wp2_with fail
  refine (parse_any nt w HV.out).mono ?_
  rintro e W1 ⟨hp, l1⟩
  obtain ⟨va, vc, oa, oc, rfl, hpl, hro⟩ := par_ok HS.out hp
  rw [hps] at hpl ⊢
  rw [hos]
  clear hp hro hos hps
  have HP := hid hpl.pl
  have HL1 := hid l1
  clear hpl l1
  go_upto_region 2 with fail
  have HB2 := hid (belowA W1 (.cells #[.slice va 2 vc] 24))
  have HX2 := hid (heap_alloc_new W1 (.cells #[.slice va 2 vc] 24))
  have HP2 := hid (HP.out.low HB2.out)
  have HL2 := hid (bch HL1.out HB2.out)
  generalize W1.alloc (.cells #[.slice va 2 vc] 24) = W2 at *
  generalize W1.heap.size = t1 at *
  have ct : W2.cell? ⟨t1, 0, none⟩ = some (.slice va 2 vc) := cell_of_row _ _ 0 _ _ _ HX2.out
  rcases HP2.out with h0 | ⟨g, off, rfl, hg, hc⟩
  · cases h0
  obtain ⟨ka, kc, c0, -⟩ := hc 0 (by decide)
  obtain ⟨la, lc, c4, -⟩ := hc 1 (by decide)
  have c0 : W2.cell? ⟨g, off + 0 * 4, none⟩ = some (.int .i64 1) := c0
  have c4 : W2.cell? ⟨g, off + 1 * 4, none⟩ = some (.int .i64 3) := c4
  clear hc
  simp only [Nat.zero_mul, Nat.one_mul, Nat.add_zero] at c0 c4
  go_wp2_with fail
  refine (Sw.text_any (some ⟨g, off, none⟩) Sw.T0 vc W2 HP2.out Sw.gd0 (HT.out.low HL2.out)).mono ?_
  rintro e W3 ⟨s3, ev, rfl, l3, hx⟩
  have HL3 := hid (bch HL2.out l3)
  clear l3
  rcases hx with ⟨he, hne, -⟩ | ⟨-, -, rfl, rfl⟩ | ⟨-, hn, -⟩
  · exact absurd (Sw.err0 he) hne
  · rw [nt_text]
    unfold nt
    go_wp2_with fail
    go_ret
    exact ⟨rfl, HL3.out⟩
  · exact absurd shrt0 hn
end Go.Proofs.YtlhlpamciafocaaGreatDoor.L
namespace Go.Proofs.YtlhlpamciafocaaGreatDoor.L
open Go.RowKit
set_option linter.unusedVariables false
set_option linter.unusedSimpArgs false
theorem shrt_len {T : List Pt} (h : Res T 0 0) (hs : Shrt T T.length) : (S ((txs T T.length).getD (T.length - 1) [])).size ≤ 4096 := by
  rw [S_size]
  exact hs _ (by have := h.ok.1; omega)
theorem res_kids {T : List Pt} (h : Res T 0 0) : T.length ≤ 1000 ∧ ∀ j, j < T.length → (pt T j).kids.length ≤ 1000000 := by
  refine ⟨h.ok.2.1, fun j hj => ?_⟩
  have h1 := (h.ok.2.2.1 j hj).many
  have h2 := fre_len T j
  have h3 := h.ok.2.1
  omega
theorem err_nil {T : List Pt} {B : Nat} {W : World} {ev : Value} (h : Sw.ErrR T B W ev) (hr : Res T 0 0) : ev = .nilIface := by
  rcases h with h | ⟨N, c, i, _, _, _, h, h0⟩
  · exact h.1
  · exact absurd (res_one h hr).1 h0
theorem err_yes {T : List Pt} {B : Nat} {W : World} {ev : Value} (h : Sw.ErrR T B W ev) (hn : ev ≠ .nilIface) : ∃ (N c i : Nat), ev = fv N ∧ Sw.Flt W N c i ∧ B ≤ N ∧ Res T c i ∧ c ≠ 0 := by
  rcases h with h | h
  · exact absurd h.1 hn
  · exact h
theorem run_code (a b c d e f g h i j k l m n o p q r s : Value) (w : World) : (Instr.field 45 (.agg #[a, b, c, d, e, f, g, h, i, j, k, l, m, n, o, p, q, r, s]) 0).run Tryz.prog w = .ok a w := by kernel_rfl
set_option maxHeartbeats 4000000 in
set_option maxRecDepth 100000 in
theorem topshows_any (a : Option Addr) (T : List Pt) (cap : Nat) (w : World) (hT : PL w a T) (hG : GdT T) (hv : Vars w) (ht : Sw.TabW w) : Calls Tryz.prog 6 #[.agg #[.slice a T.length cap]] w fun e w' => e = .returned (.bool true) ∧ Below w.heap.size w w' := by
  have HV := hid hv
  have HTV := hid ht
  have HT := hid hT
  have HG := hid hG
  obtain ⟨L, hL⟩ : ∃ L, L = T.length := ⟨_, rfl⟩
  have HL := hid hL
  have HB0 := hid (belowA w (.cells #[.slice a T.length cap] 24))
  have HX0 := hid (heap_alloc_new w (.cells #[.slice a T.length cap] 24))
  rw [← hL] at HB0 HX0 ⊢
  clear hv ht hT hG hL
  go_enter Tryz.func6, Tryz.ntmps6
  go_upto_region 1 with fail
  generalize w.alloc (.cells #[.slice a L cap] 24) = X at *
  obtain ⟨b0, hb0⟩ : ∃ b, b = w.heap.size := ⟨_, rfl⟩
  rw [← hb0] at HX0 ⊢
  have HB00 := hid hb0
  clear hb0
  go_wp2_with fail
  refine (reads_any X (HV.out.low HB0.out) (HTV.out.low HB0.out)).mono ?_
  rintro e W1 ⟨rfl, l1⟩
  have HL1 := hid (bch HB0.out l1)
  have HX1 := hid ((l1.block _ (lt_blk HX0.out)).trans HX0.out)
  clear l1
  have x1 : W1.cell? ⟨b0, 0, none⟩ = some (.slice a L cap) := cell_of_row _ _ 0 _ _ _ HX1.out
  go_wp2_with fail
  refine (show Calls Tryz.prog _ #[.agg #[.slice a L cap]] W1 _ from by rw [HL.out]; exact Sw.text_any a T cap W1 (HT.out.low HL1.out) HG.out (HTV.out.low HL1.out)).mono ?_
  rintro e W2 ⟨s, ev, rfl, l2, hx⟩
  have HL2 := hid (bch HL1.out l2)
  have HX2 := hid ((l2.block _ (lt_blk HX1.out)).trans HX1.out)
  clear l2 x1
  rcases hx with ⟨he, hne, rfl⟩ | ⟨hr, hs, rfl, rfl⟩ | ⟨hr, hs, rfl, N, rfl, hf, -⟩
  · obtain ⟨N, c, i, rfl, hf, -, -, hc⟩ := err_yes he hne
    clear he hne
    have h9 : (0 : Int) < (c : Int) := by omega
    have HR := hid (Sw.read_yes N c i W2 hf hc)
    unfold fv at *
    go_wp2_with fail
    refine HR.out.mono ?_
    rintro e W3 ⟨rfl, l3⟩
    have HL3 := hid (bch HL2.out l3)
    clear l3
    have hrc := run_code
    go_wp2_with fail
    go_ret
    exact ⟨(show Ending.returned (.bool (decide (0 < c))) = _ from by rw [decide_eq_true (by omega)]), HL3.out⟩
  · obtain ⟨s2, h1, h2⟩ := reads_res hr hs
    have hlen := shrt_len hr hs
    generalize S ((txs T T.length).getD (T.length - 1) []) = R at *
    have HR := hid hr
    have HP := hid h1
    have HP2 := hid h2
    clear hr hs h1 h2
    have hlen' : ((R.size : Nat) : Int) ≤ 4096 := by omega
    have x2 : W2.cell? ⟨b0, 0, none⟩ = some (.slice a L cap) := cell_of_row _ _ 0 _ _ _ HX2.out
    go_wp2_with fail
    refine (show Calls Tryz.prog _ #[.agg #[.slice a L cap]] W2 _ from by rw [HL.out]; exact Sw.valid_any a T cap W2 (HT.out.low HL2.out) HG.out).mono ?_
    rintro e W3 ⟨ev, rfl, l3, he⟩
    obtain rfl := err_nil he HR.out
    have HL3 := hid (bch HL2.out l3)
    have HX3 := hid ((l3.block _ (lt_blk HX2.out)).trans HX2.out)
    clear l3 x2 he
    go_wp2_with fail
    refine (parse_any R W3 (HV.out.low HL3.out)).mono ?_
    rintro e W4 ⟨hp, l4⟩
    obtain ⟨va, vc, oa, oc, rfl, hpl, hro⟩ := par_ok HP.out hp
    rw [HP2.out] at hpl ⊢
    have HL4 := hid (bch HL3.out l4)
    have HX4 := hid ((l4.block _ (lt_blk HX3.out)).trans HX3.out)
    have HPL := hid hpl.pl
    clear l4 hp hro hpl
    rw [← HL.out]
    go_upto_region 9 with fail
    have HB5 := hid (belowA W4 (.cells #[.slice va L vc] 24))
    have HY5 := hid (heap_alloc_new W4 (.cells #[.slice va L vc] 24))
    have HX5 := hid ((HB5.out.block _ (lt_blk HX4.out)).trans HX4.out)
    have HL5 := hid (bch HL4.out HB5.out)
    have HPL5 := hid (HPL.out.low HB5.out)
    generalize W4.alloc (.cells #[.slice va L vc] 24) = W5 at *
    generalize W4.heap.size = t5 at *
    have x5 : W5.cell? ⟨b0, 0, none⟩ = some (.slice a L cap) := cell_of_row _ _ 0 _ _ _ HX5.out
    have y5 : W5.cell? ⟨t5, 0, none⟩ = some (.slice va L vc) := cell_of_row _ _ 0 _ _ _ HY5.out
    go_wp2_with fail
    refine (show Calls Tryz.prog _ #[.agg #[.slice va L vc], .agg #[.slice a L cap]] W5 _ from by rw [HL.out]; exact same_parts va a T vc cap W5 HPL5.out (HT.out.low HL5.out) (res_kids HR.out).1 (res_kids HR.out).2).mono ?_
    rintro e W6 ⟨rfl, l6⟩
    have HL6 := hid (bch HL5.out l6)
    clear l6
    go_wp2_with fail
    go_ret
    exact ⟨rfl, HL6.out⟩
  · have HR := hid (Sw.read_yes N 131 (-1) W2 hf (by decide))
    unfold fv at *
    go_wp2_with fail
    refine HR.out.mono ?_
    rintro e W3 ⟨rfl, l3⟩
    have HL3 := hid (bch HL2.out l3)
    clear l3
    have hrc := run_code
    go_wp2_with fail
    go_ret
    exact ⟨rfl, HL3.out⟩
theorem topshows_c (a : Option Addr) (T : List Pt) (cap : Nat) (w : World) (hT : PLs w a T) (hG : GdT T) (hv : Vars w) (ht : Sw.TabW w) : Calls Tryz.prog 6 #[.agg #[.slice a T.length cap]] w fun e w' => e = .returned (.bool true) ∧ Below w.heap.size w w' := topshows_any a T cap w hT.pl hG hv ht
end Go.Proofs.YtlhlpamciafocaaGreatDoor.L
namespace Go.Proofs.YtlhlpamciafocaaGreatDoor.L
open Go.ChangeShapes Go.WideShapes Go.ChangeAt Go.RowKit Go.Joins
set_option linter.unusedVariables false
theorem own : ownKnob Tryz.prog.godebug = none := by kernel_rfl
theorem iface_laid {W : World} {name nm : String} {d : DataW Unit} {rest : List (String × DataW Unit)} {g : Nat} {t : TypeId} {ms : Array (String × TypeId)} (hg : Tryz.prog.globalNamed name = some g) (hty : (Tryz.prog.globals[g]?).map (·.type) = some t) (ht : Tryz.prog.underlying t = some (.interface ms))
    (h : laidMet Tryz.prog ((name, .iface nm d) :: rest) W) : ∃ tp p, W.var? Tryz.prog name = some #[.iface tp p] := by
  obtain ⟨ps, ⟨g', t', cs, fuel, p, q, hg', ht', hvar, hd, _, _⟩, _⟩ := h
  obtain rfl := Option.some.inj (hg.symm.trans hg')
  obtain rfl := Option.some.inj (hty.symm.trans ht')
  obtain ⟨f', u, v, e, _, _⟩ := iface_of_trod ht hd
  refine ⟨u, v, ?_⟩
  rw [hvar, Array.eq_one_of_toList e]
theorem vars_laid {W : World} {laid : List (String × DataW Unit)} (h : laidMetH Tryz.prog laid W)
    (e1 : (laid.filter fun x => x.1 == "strconv.ErrSyntax") = [("strconv.ErrSyntax", Rows.laid_strconv_ErrSyntax)]) (e2 : (laid.filter fun x => x.1 == "strconv.ErrRange") = [("strconv.ErrRange", Rows.laid_strconv_ErrRange)]) : Vars W := by
  have k2 : laidMet Tryz.prog [("strconv.ErrSyntax", Rows.laid_strconv_ErrSyntax)] W := by have := h.filter (fun x => x.1 == "strconv.ErrSyntax"); rw [e1] at this; exact this
  have k3 : laidMet Tryz.prog [("strconv.ErrRange", Rows.laid_strconv_ErrRange)] W := by have := h.filter (fun x => x.1 == "strconv.ErrRange"); rw [e2] at this; exact this
  exact ⟨iface_laid (g := 4) (by kernel_rfl) (by kernel_rfl) Tryz.underlying27 k2, iface_laid (g := 5) (by kernel_rfl) (by kernel_rfl) Tryz.underlying27 k3⟩
end Go.Proofs.YtlhlpamciafocaaGreatDoor.L
namespace Go.Proofs.YtlhlpamciafocaaGreatDoor.L.Sw
open Go.RowKit Go.Shelf
set_option linter.unusedVariables false
end Go.Proofs.YtlhlpamciafocaaGreatDoor.L.Sw
