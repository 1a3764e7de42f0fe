import Derived.Test.YtiddnjjaidiohaaGreatDoorMgAO
import Derived.Test.YtiddnjjaidiohaaGreatDoorMgAS
import Derived.Test.YtiddnjjaidiohaaGreatDoorMgAU
namespace Go.Proofs.YtiddnjjaidiohaaGreatDoor.L
open Go.RowKit Go.Shelf
set_option linter.unusedVariables false
abbrev T1 : List Pt := [⟨14, ⟨#[97, 112, 112]⟩, 3, []⟩, ⟨14, ⟨#[97, 112, 112]⟩, 1, []⟩, ⟨6, ⟨#[]⟩, 1, [0, 1]⟩, ⟨8, ⟨#[122, 111, 110, 101]⟩, 0, [2]⟩]
theorem okT1 : Ok0 T1 := by
  intro j hj
  match j, hj with
  | 0, _ => exact ⟨by decide, rfl, rfl, by decide, by decide, by kernel_rfl, fun x hx => by cases hx⟩
  | 1, _ => exact ⟨by decide, rfl, rfl, by decide, by decide, by kernel_rfl, fun x hx => by cases hx⟩
  | 2, _ => exact ⟨by decide, rfl, rfl, by decide, by decide, by kernel_rfl, fun x hx => by simp [T1, pt] at hx; rcases hx with rfl | rfl <;> kernel_rfl⟩
  | 3, _ => exact ⟨by decide, rfl, rfl, by decide, by decide, by kernel_rfl, fun x hx => by simp [T1, pt] at hx; subst hx; kernel_rfl⟩
theorem nestsT1 : nests T1 = [1, 1, 1, 0] := by kernel_rfl
theorem resT1 : Res T1 0 0 := by
  refine Or.inr (Or.inr ⟨by decide, by decide, Or.inr (Or.inr ⟨okT1, ?_, Or.inr ⟨?_, rfl, rfl⟩⟩)⟩)
  · rintro (h | h)
    · exact h (by decide)
    · exact absurd h (by decide)
  · intro j hj
    rw [nestsT1]
    match j, hj with
    | 0, _ => decide
    | 1, _ => decide
    | 2, _ => decide
    | 3, _ => decide
theorem gdT1 : GdT T1 := ⟨by decide, fun j hj => by
  match j, hj with
  | 0, _ => decide
  | 1, _ => decide
  | 2, _ => decide
  | 3, _ => decide⟩
theorem ovT1n : (ovS T1 2).2 = none := by kernel_rfl
theorem ovT1e : (ovS T1 3).2 = some (143, 3) := by kernel_rfl
def tyT1 (j : Nat) : Int × Int := [(2, 3), (2, 1), (1, 3), (1, 2)].getD j (0, 0)
theorem ovT1_0 : (ovS T1 2).1 0 = (2, 3) := by kernel_rfl
theorem ovT1_1 : (ovS T1 2).1 1 = (2, 1) := by kernel_rfl
theorem ovT1_2 : (ovS T1 2).1 2 = (1, 3) := by kernel_rfl
theorem ovT1_3 : (ovS T1 2).1 3 = (1, 2) := by kernel_rfl
theorem ovT1t (j : Nat) (hj : j < 4) : (ovS T1 2).1 j = tyT1 j := by
  match j, hj with
  | 0, _ => exact ovT1_0
  | 1, _ => exact ovT1_1
  | 2, _ => exact ovT1_2
  | 3, _ => exact ovT1_3
abbrev rowT1 (k1 k2 : Nat) : Array Value := #[.int .i64 14, .string ⟨#[97, 112, 112]⟩, .int .i64 3, .slice none 0 0, .int .i64 14, .string ⟨#[97, 112, 112]⟩, .int .i64 1, .slice none 0 0, .int .i64 6, .string ⟨#[]⟩, .int .i64 1, .slice (some ⟨k1, 0, none⟩) 2 2, .int .i64 8, .string ⟨#[122, 111, 110, 101]⟩, .int .i64 0, .slice (some ⟨k2, 0, none⟩) 1 1]
theorem plT1 {W : World} {k1 k2 gp : Nat} (h1 : W.heap[k1]? = some (.cells #[.int .i64 0, .int .i64 1] 3 (0, 0))) (h2 : W.heap[k2]? = some (.cells #[.int .i64 2] 3 (0, 0))) (h3 : W.heap[gp]? = some (.cells (rowT1 k1 k2) 60 (0, 0))) : PL W (some ⟨gp, 0, none⟩) T1 := by
  have hc := fun j => cell_of_row W gp j _ _ _ h3
  refine Or.inr ⟨gp, 0, rfl, lt_blk h3, fun j hj => ?_⟩
  match j, hj with
  | 0, _ => exact ⟨none, 0, hc 0, hc 1, hc 2, hc 3, Or.inl rfl⟩
  | 1, _ => exact ⟨none, 0, hc 4, hc 5, hc 6, hc 7, Or.inl rfl⟩
  | 2, _ =>
    refine ⟨some ⟨k1, 0, none⟩, 2, hc 8, hc 9, hc 10, hc 11, Or.inr ⟨k1, 0, rfl, lt_blk h1, fun i hi => ?_⟩⟩
    match i, hi with
    | 0, _ => exact cell_of_row _ _ 0 _ _ _ h1
    | 1, _ => exact cell_of_row _ _ 1 _ _ _ h1
  | 3, _ =>
    refine ⟨some ⟨k2, 0, none⟩, 1, hc 12, hc 13, hc 14, hc 15, Or.inr ⟨k2, 0, rfl, lt_blk h2, fun i hi => ?_⟩⟩
    match i, hi with
    | 0, _ => exact cell_of_row _ _ 0 _ _ _ h2
set_option maxHeartbeats 4000000 in
set_option maxRecDepth 100000 in
theorem first_any (w : World) : Calls Tryz.prog 21 #[] w fun e w' => ∃ gp, e = .returned (.agg #[.slice (some ⟨gp, 0, none⟩) 4 4]) ∧ PL w' (some ⟨gp, 0, none⟩) T1 ∧ Below w.heap.size w w' := by
  obtain ⟨W1, e1⟩ : ∃ W, W = w.alloc (.cells #[.slice (some ⟨w.heap.size + 1 + 1 + 1, 0, none⟩) 4 4] 26) := ⟨_, rfl⟩
  obtain ⟨W2, e2⟩ : ∃ W, W = W1.alloc (.cells #[.int .i64 0, .int .i64 1] 3) := ⟨_, rfl⟩
  obtain ⟨W3, e3⟩ : ∃ W, W = W2.alloc (.cells #[.int .i64 2] 3) := ⟨_, rfl⟩
  have s1 : W1.heap.size = w.heap.size + 1 := by rw [e1]; simp
  have s2 : W2.heap.size = w.heap.size + 1 + 1 := by rw [e2]; simp [s1]
  have s3 : W3.heap.size = w.heap.size + 1 + 1 + 1 := by rw [e3]; simp [s2]
  obtain ⟨W4, e4⟩ : ∃ W, W = W3.alloc (.cells (rowT1 (w.heap.size + 1) (w.heap.size + 1 + 1)) 60) := ⟨_, rfl⟩
  have b1 := belowA w (.cells #[.slice (some ⟨w.heap.size + 1 + 1 + 1, 0, none⟩) 4 4] 26)
  have b2 := belowA W1 (.cells #[.int .i64 0, .int .i64 1] 3)
  have b3 := belowA W2 (.cells #[.int .i64 2] 3)
  have b4 := belowA W3 (.cells (rowT1 (w.heap.size + 1) (w.heap.size + 1 + 1)) 60)
  have n1 := heap_alloc_new w (.cells #[.slice (some ⟨w.heap.size + 1 + 1 + 1, 0, none⟩) 4 4] 26)
  have n2 := heap_alloc_new W1 (.cells #[.int .i64 0, .int .i64 1] 3)
  have n3 := heap_alloc_new W2 (.cells #[.int .i64 2] 3)
  have n4 := heap_alloc_new W3 (.cells (rowT1 (w.heap.size + 1) (w.heap.size + 1 + 1)) 60)
  rw [← e1] at b1 n1
  rw [← e2] at b2 n2
  rw [← e3] at b3 n3
  rw [← e4] at b4 n4
  rw [s1] at n2
  rw [s2] at n3
  rw [s3] at n4
  have q1 := (b4.block _ (by rw [s3]; omega)).trans ((b3.block _ (by rw [s2]; omega)).trans ((b2.block _ (by rw [s1]; omega)).trans n1))
  have q2 := (b4.block _ (by rw [s3]; omega)).trans ((b3.block _ (by rw [s2]; omega)).trans n2)
  have q3 := (b4.block _ (by rw [s3]; omega)).trans n3
  have HB := hid (show Below w.heap.size w W4 from bchS (bchS (bchS b1 b2) b3) b4)
  have HP := hid (plT1 q2 q3 n4)
  have HX := hid q1
  rw [e3, e2, e1] at e4
  have HE := hid e4
  clear q1 q2 q3 n1 n2 n3 n4 b1 b2 b3 b4 s1 s2 s3 e1 e2 e3 e4
  go_enter Tryz.func21, Tryz.ntmps21
  go_wp2_with fail
  refine (show bodyPost _ _ _ _ _ W4 → _ from fun h => HE.out ▸ h) ?_
  exact ⟨rfl, .agg #[.slice (some ⟨w.heap.size + 1 + 1 + 1, 0, none⟩) 4 4], results_cell_row Tryz.results21 _ _ w.heap.size 26 #[.slice (some ⟨w.heap.size + 1 + 1 + 1, 0, none⟩) 4 4] (0, 0) _ rfl HX.out Tryz.underlying26 rfl (by kernel_rfl), _, rfl, HP.out, HB.out⟩
end Go.Proofs.YtiddnjjaidiohaaGreatDoor.L
namespace Go.Proofs.YtiddnjjaidiohaaGreatDoor.L
open Go.RowKit
set_option linter.unusedVariables false
theorem check_f2 (gp : Nat) (w : World) (hT : PL w (some ⟨gp, 0, none⟩) T1) (hg : Gv w) :
    Calls Tryz.prog 12 #[.agg #[.slice (some ⟨gp, 0, none⟩) 4 4], .int .i64 2] w fun e w' => ∃ gt, e = .returned (.tuple #[.slice (some ⟨gt, 0, none⟩) 4 4, .nilIface]) ∧ TyL w' (.slice (some ⟨gt, 0, none⟩) 4 4) 4 tyT1 ∧ Below w.heap.size w w' := by
  refine (check_any (some ⟨gp, 0, none⟩) T1 4 2 w hT gdT1 hg).mono ?_
  rintro e w' ⟨v, ev, rfl, hb, ⟨rfl, _, _, gt, rfl, _, hy⟩ | ⟨_, N, _, hf⟩⟩
  · exact ⟨gt, rfl, hy.tyl.congr ovT1t, hb⟩
  · rcases hf with ⟨⟨h, _⟩, _⟩ | ⟨_, ⟨M, c, i, _, _, hr, h0⟩ | ⟨_, c, a, h, _⟩⟩
    · exact absurd rfl h
    · exact absurd (res_one hr resT1).1 h0
    · rw [ovT1n] at h; cases h
theorem check_f3 (gp : Nat) (w : World) (hT : PL w (some ⟨gp, 0, none⟩) T1) (hg : Gv w) :
    Calls Tryz.prog 12 #[.agg #[.slice (some ⟨gp, 0, none⟩) 4 4], .int .i64 3] w fun e w' => ∃ N, e = .returned (.tuple #[.slice none 0 0, fv N]) ∧ Flt w' N 143 3 ∧ Below w.heap.size w w' := by
  refine (check_any (some ⟨gp, 0, none⟩) T1 4 3 w hT gdT1 hg).mono ?_
  rintro e w' ⟨v, ev, rfl, hb, ⟨_, _, _, gt, _, h, _⟩ | ⟨rfl, N, rfl, hf⟩⟩
  · rw [ovT1e] at h; cases h
  · rcases hf with ⟨⟨_, h⟩, _⟩ | ⟨_, ⟨M, c, i, _, _, hr, h0⟩ | ⟨_, c, a, h, hf⟩⟩
    · exact absurd rfl h
    · exact absurd (res_one hr resT1).1 h0
    · rw [ovT1e] at h
      cases h
      exact ⟨N, rfl, hf, hb⟩
set_option maxHeartbeats 16000000 in
set_option maxRecDepth 100000 in
theorem fixed_any (w : World) (hg : Gv w) : Calls Tryz.prog 8 #[] w fun e w' => e = .returned (.bool true) ∧ Below w.heap.size w w' := by
  have HG := hid hg
  have HFI := hid first_any
  have HC2 := hid check_f2
  have HC3 := hid check_f3
  clear hg
  go_enter Tryz.func8, Tryz.ntmps8
  go_upto_region 2 with (first
    | (go_at_call 21; refine (HFI.out _).mono ?_; rintro e w1 ⟨gp, rfl, p1, l1⟩; have P1 := hid p1; have L1 := hid l1; clear p1 l1)
    | (go_at_call 12; refine (HC2.out gp _ P1.out (HG.out.low L1.out)).mono ?_; rintro e w2 ⟨gt, rfl, t2, l2⟩; have T2 := hid t2; have L2 := hid l2; clear t2 l2))
  have HB2 := hid (L1.out.trans (L2.out.mono L1.out.size))
  go_upto_region 3 with (first
    | (go_at_call 21; refine (HFI.out _).mono ?_; rintro e w3 ⟨gq, rfl, p1, l1⟩; have P3 := hid p1; have L3 := hid l1; clear p1 l1)
    | (go_at_call 12; refine (HC3.out gq _ P3.out (HG.out.low (HB2.out.trans (L3.out.mono HB2.out.size)))).mono ?_; rintro e w4 ⟨N, rfl, f4, l4⟩; have F4 := hid f4; have L4 := hid l4; clear f4 l4))
  have HB4 := hid ((HB2.out.trans (L3.out.mono HB2.out.size)).trans (L4.out.mono (HB2.out.trans (L3.out.mono HB2.out.size)).size))
  have HT4 := hid ((T2.out.low L3.out).low L4.out)
  have HB5 := hid (belowA w4 (.cells #[.int .i64 2, .int .i64 3, .int .i64 2, .int .i64 1, .int .i64 1, .int .i64 3, .int .i64 1, .int .i64 2] 47))
  have HX5 := hid (heap_alloc_new w4 (.cells #[.int .i64 2, .int .i64 3, .int .i64 2, .int .i64 1, .int .i64 1, .int .i64 3, .int .i64 1, .int .i64 2] 47))
  have HL5 := hid (show TyL (w4.alloc (.cells #[.int .i64 2, .int .i64 3, .int .i64 2, .int .i64 1, .int .i64 1, .int .i64 3, .int .i64 1, .int .i64 2] 47)) (.slice (some ⟨w4.heap.size, 0, none⟩) 4 4) 4 tyT1 by
    refine ⟨_, _, rfl, .inr ⟨_, 0, rfl, lt_blk HX5.out, fun j hj => ?_⟩⟩
    have hc := fun j => cell_of_row _ _ j _ _ _ HX5.out
    match j, hj with
    | 0, _ => exact ⟨hc 0, hc 1⟩
    | 1, _ => exact ⟨hc 2, hc 3⟩
    | 2, _ => exact ⟨hc 4, hc 5⟩
    | 3, _ => exact ⟨hc 6, hc 7⟩)
  have HST := hid (same_types _ _ 4 tyT1 _ (HT4.out.low HB5.out) HL5.out (by decide))
  have HIF := hid (fun W (h : Below w4.heap.size w4 W) => isf_flt N 143 3 W (F4.out.low h) (by decide))
  simp only [fv] at HIF ⊢
  go_wp2_with (first
    | (go_at_call 13; refine HST.out.mono ?_; rintro e w5 ⟨rfl, l5⟩; have L5 := hid l5; clear l5)
    | (go_at_call 14; refine (HIF.out _ (bchS HB5.out L5.out)).mono ?_; rintro e w6 ⟨rfl, l6⟩; have L6 := hid l6; clear l6))
  go_ret
  exact ⟨rfl, HB4.out.trans ((bchS (bchS HB5.out L5.out) L6.out).mono HB4.out.size)⟩
end Go.Proofs.YtiddnjjaidiohaaGreatDoor.L
namespace Go.Proofs.YtiddnjjaidiohaaGreatDoor.L
open Go.RowKit
set_option linter.unusedVariables false
theorem below2 {a b c d : World} (h1 : Below a.heap.size a b) (h2 : Below b.heap.size b c) (h3 : Below c.heap.size c d) : Below a.heap.size a d := bchS (bchS h1 h2) h3
theorem small_yes (a : Option Addr) (T : List Pt) (cap : Nat) (w : World) (hT : PL w a T) (hG : GdT T) (h : sumK T T.length ≤ 100000) :
    Calls Tryz.prog 9 #[.agg #[.slice a T.length cap]] w fun e w' => e = .returned (.bool true) ∧ Below w.heap.size w w' := by
  refine (small_any a T cap w hT hG).mono ?_
  rintro e w' (⟨rfl, _, hb⟩ | ⟨_, h1, _⟩)
  · exact ⟨rfl, hb⟩
  · omega
theorem small_no (a : Option Addr) (T : List Pt) (cap : Nat) (w : World) (hT : PL w a T) (hG : GdT T) (h : ¬ sumK T T.length ≤ 100000) :
    Calls Tryz.prog 9 #[.agg #[.slice a T.length cap]] w fun e w' => e = .returned (.bool false) ∧ Below w.heap.size w w' := by
  refine (small_any a T cap w hT hG).mono ?_
  rintro e w' (⟨_, h1, _⟩ | ⟨rfl, _, hb⟩)
  · omega
  · exact ⟨rfl, hb⟩
/-- Copied: a tree that can be read. -/
theorem copied_pl (a : Option Addr) (T : List Pt) (cap : Nat) (w : World) (hT : PLs w a T) (hG : GdT T) (hsm : sumK T T.length ≤ 100000) :
    Calls Tryz.prog 10 #[.agg #[.slice a T.length cap]] w fun e w' => ∃ a' cap', e = .returned (.agg #[.slice a' T.length cap']) ∧ PLs w' a' T ∧ Below w.heap.size w w' := by
  refine (copied_any a T cap w hT hG hsm).mono ?_
  rintro e w' ⟨a', cap', ks, rfl, ho, hb⟩
  obtain ⟨a2, c2, e2, hp⟩ := ho.pl
  cases e2
  exact ⟨a', cap', rfl, hp, hb⟩
theorem valid_ok (a : Option Addr) (T : List Pt) (cap : Nat) (w : World) (hT : PL w a T) (hG : GdT T) (hr : Res T 0 0) :
    Calls Tryz.prog 15 #[.agg #[.slice a T.length cap]] w fun e w' => e = .returned .nilIface ∧ Below w.heap.size w w' := by
  refine (valid_any a T cap w hT hG).mono ?_
  rintro e w' ⟨ev, rfl, hb, ⟨rfl, _⟩ | ⟨N, c, i, _, _, _, h, h0⟩⟩
  · exact ⟨rfl, hb⟩
  · exact absurd (res_one h hr).1 h0
theorem valid_bad (a : Option Addr) (T : List Pt) (cap : Nat) (w : World) (hT : PL w a T) (hG : GdT T) (hr : ¬ Res T 0 0) :
    Calls Tryz.prog 15 #[.agg #[.slice a T.length cap]] w fun e w' => ∃ N, e = .returned (fv N) ∧ Below w.heap.size w w' := by
  refine (valid_any a T cap w hT hG).mono ?_
  rintro e w' ⟨ev, rfl, hb, ⟨rfl, h⟩ | ⟨N, c, i, rfl, _, _, h, h0⟩⟩
  · exact absurd h hr
  · exact ⟨N, rfl, hb⟩
set_option maxHeartbeats 16000000 in
set_option maxRecDepth 100000 in
theorem one_great (a : Option Addr) (T : List Pt) (cap : Nat) (sc : Int) (w : World) (hT : PLs w a T) (hG : GdT T) (hg : Gv w) (hn : ¬ sumK T T.length ≤ 100000) :
    Calls Tryz.prog 4 #[.agg #[.slice a T.length cap], .int .i64 sc] w fun e w' => e = .returned (.bool true) ∧ Below w.heap.size w w' := by
  have HB0 := hid (belowA w (.cells #[.slice a T.length cap] 26))
  have HX0 := hid (heap_alloc_new w (.cells #[.slice a T.length cap] 26))
  have HFX := hid (fixed_any _ (hg.low HB0.out))
  have HT := hid hT
  have HG := hid hg
  have HSM := hid (fun W h => small_no a T cap W h hG hn)
  have HCK := hid (fun W h1 h2 => check_any a T cap sc W h1 hG h2)
  have HNR := hid (show ¬ Res T 0 0 from fun h => by have := res_small h; omega)
  generalize T.length = L at HB0 HX0 HFX HSM HCK ⊢
  clear hT hg hn
  go_enter Tryz.func4, Tryz.ntmps4
  go_upto_region 1 with (fail)
  generalize w.alloc (.cells #[.slice a L cap] 26) = X at *
  go_upto_region 3 with (go_at_call 8; refine HFX.out.mono ?_; rintro e w1 ⟨rfl, l1⟩; have L1 := hid l1; clear l1)
  have HB1 := hid (HB0.out.trans (L1.out.mono HB0.out.size))
  have HX1 := hid ((L1.out.block _ (lt_blk HX0.out)).trans HX0.out)
  have x0 := cell_of_one HX1.out
  go_upto_region 4 with (go_at_call 9; refine (HSM.out _ (HT.out.low HB1.out).pl).mono ?_; rintro e w2 ⟨rfl, l1⟩; have L2 := hid l1; clear l1)
  have HB2 := hid (HB1.out.trans (L2.out.mono HB1.out.size))
  have HX2 := hid ((L2.out.block _ (lt_blk HX1.out)).trans HX1.out)
  clear x0
  have x0 := cell_of_one HX2.out
  go_upto_region 5 with (go_at_call 12; refine (HCK.out _ (HT.out.low HB2.out).pl (HG.out.low HB2.out)).mono ?_; rintro e w3 ⟨v, ev, rfl, l3, hr⟩; have HR := hid hr; have L3 := hid l3; clear l3 hr)
  have HB3 := hid (HB2.out.trans (L3.out.mono HB2.out.size))
  rcases HR.out with ⟨rfl, _, h, _⟩ | ⟨rfl, N, rfl, hf⟩
  · exact absurd h HNR.out
  · simp only [fv]
    go_wp2_with fail
    go_ret
    exact ⟨rfl, HB3.out⟩
set_option maxHeartbeats 16000000 in
set_option maxRecDepth 100000 in
theorem one_small (a : Option Addr) (T : List Pt) (cap : Nat) (sc : Int) (w : World) (hT : PLs w a T) (hG : GdT T) (hg : Gv w) (hn : sumK T T.length ≤ 100000) :
    Calls Tryz.prog 4 #[.agg #[.slice a T.length cap], .int .i64 sc] w fun e w' => e = .returned (.bool true) ∧ Below w.heap.size w w' := by
  have HB0 := hid (belowA w (.cells #[.slice a T.length cap] 26))
  have HX0 := hid (heap_alloc_new w (.cells #[.slice a T.length cap] 26))
  have HFX := hid (fixed_any _ (hg.low HB0.out))
  have HT := hid hT
  have HG := hid hg
  have HSM := hid (fun W h => small_yes a T cap W h hG hn)
  have HCP := hid (fun W h => copied_pl a T cap W h hG hn)
  have HCK := hid (fun a' cap' W h1 h2 => check_any a' T cap' sc W h1 hG h2)
  have HVO := hid (fun a' cap' W h1 h2 => valid_ok a' T cap' W h1 hG h2)
  have HVB := hid (fun a' cap' W h1 h2 => valid_bad a' T cap' W h1 hG h2)
  have ra := run_assert
  obtain ⟨L, hL⟩ : ∃ L, L = T.length := ⟨_, rfl⟩
  have HL := hid hL
  rw [← hL] at HB0 HX0 HFX HSM HCP HCK HVO HVB ⊢
  have hl5 : L ≤ 100000 := by
    have h0 := sumK_mono T (Nat.zero_le T.length)
    have h1 : sumK T 0 = T.length := rfl
    omega
  clear hT hg hn hL
  go_enter Tryz.func4, Tryz.ntmps4
  go_upto_region 1 with (fail)
  generalize w.alloc (.cells #[.slice a L cap] 26) = X at *
  go_upto_region 3 with (go_at_call 8; refine HFX.out.mono ?_; rintro e w1 ⟨rfl, l1⟩; have L1 := hid l1; clear l1)
  have HB1 := hid (HB0.out.trans (L1.out.mono HB0.out.size))
  have HX1 := hid ((L1.out.block _ (lt_blk HX0.out)).trans HX0.out)
  have x0 := cell_of_one HX1.out
  go_upto_region 6 with (go_at_call 9; refine (HSM.out _ (HT.out.low HB1.out).pl).mono ?_; rintro e w2 ⟨rfl, l1⟩; have L2 := hid l1; clear l1)
  have HB2 := hid (HB1.out.trans (L2.out.mono HB1.out.size))
  have HX2 := hid ((L2.out.block _ (lt_blk HX1.out)).trans HX1.out)
  clear x0
  have x0 := cell_of_one HX2.out
  go_upto_region 7 with (first
    | (go_at_call 10; refine (HCP.out _ (HT.out.low HB2.out)).mono ?_; rintro e w3 ⟨a3, c3, rfl, p3, l3⟩; have P3 := hid p3; have L3 := hid l3; clear p3 l3)
    | (go_at_call 12; refine (HCK.out _ _ _ P3.out.pl (HG.out.low (HB2.out.trans (L3.out.mono HB2.out.size)))).mono ?_; rintro e w4 ⟨v, ev, rfl, l4, hr⟩; have HR := hid hr; have L4 := hid l4; clear l4 hr))
  have HB4 := hid ((HB2.out.trans (L3.out.mono HB2.out.size)).trans (L4.out.mono (HB2.out.trans (L3.out.mono HB2.out.size)).size))
  have HX4 := hid ((L4.out.block _ (Nat.lt_of_lt_of_le (lt_blk HX2.out) L3.out.size)).trans ((L3.out.block _ (lt_blk HX2.out)).trans HX2.out))
  clear x0
  have x0 := cell_of_one HX4.out
  rcases HR.out with ⟨rfl, hsc, hrs, gt, hv, hn, hty⟩ | ⟨rfl, N, rfl, hf⟩
  · rw [← HL.out] at hv hty
    subst hv
    have HTY := hid hty
    have hl1 : 1 ≤ L := by rw [HL.out]; exact (res_ok hrs).1
    have HRT := hid (ovS_root hrs hn)
    rw [← HL.out] at HRT
    have HRS := hid hrs
    have hcast : (((L : Int) - 1) * 2).toNat = (L - 1) * 2 := by omega
    have g1 : (0 : Int) ≤ (L : Int) - 1 := by omega
    have g2 : (L : Int) - 1 < (L : Int) := by omega
    have g3 : (0 : Int) < (L : Int) := by omega
    clear hn hrs hty
    rcases hsc with rfl | rfl
    all_goals
      go_wp2_with (first
        | (go_at_call 10; refine (HCP.out _ (HT.out.low HB4.out)).mono ?_; rintro e w5 ⟨a5, c5, rfl, p5, l5⟩; have P5 := hid p5; have L5 := hid l5; clear p5 l5)
        | (go_at_call 15; refine (HVO.out _ _ _ P5.out.pl HRS.out).mono ?_; rintro e w6 ⟨rfl, l6⟩; have L6 := hid l6; clear l6; have t6 : w6.cell? ⟨gt, (L - 1) * 2, none⟩ = some (.int .i64 1) := by rw [← HRT.out]; exact (((HTY.out.low L5.out).low L6.out).ty.2 (L - 1) (by omega)).1))
      go_ret
      exact ⟨rfl, below2 HB4.out L5.out L6.out⟩
  · rcases hf with ⟨⟨h2, h3⟩, hf⟩ | ⟨hsc, ⟨M, c, i, hf, hf2, hr, h0⟩ | ⟨hr, c, a1, ho, hf⟩⟩
    · have ⟨c0, c1, c2, c3⟩ := cells4 hf
      have h4 : (sc != 2) = true := by simp [h2]
      have h5 : (sc != 3) = true := by simp [h3]
      clear hf
      simp only [fv]
      go_wp2_with fail
      go_ret
      exact ⟨rfl, HB4.out⟩
    · have HNR := hid (show ¬ Res T 0 0 from fun h => h0 (res_one hr h).1)
      have HF := hid hf
      clear hf hf2 hr h0
      simp only [fv] at HR ⊢
      rcases hsc with rfl | rfl
      all_goals
        go_wp2_with (first
          | (go_at_call 10; refine (HCP.out _ (HT.out.low HB4.out)).mono ?_; rintro e w5 ⟨a5, c5, rfl, p5, l5⟩; have P5 := hid p5; have L5 := hid l5; clear p5 l5)
          | (go_at_call 15; refine (HVB.out _ _ _ P5.out.pl HNR.out).mono ?_; rintro e w6 ⟨N2, rfl, l6⟩; have L6 := hid l6; clear l6; have F6 := (HF.out.low L5.out).low L6.out; have ⟨c0, c1, c2, c3⟩ := cells4 F6; simp only [fv]; clear F6))
        go_ret
        exact ⟨rfl, below2 HB4.out L5.out L6.out⟩
    · have HF := hid hf
      have HRS := hid hr
      have ⟨k1, k2, k3, k4⟩ := ovS_cd hr ho
      rw [← HL.out] at k4
      have k1' : (140 : Int) < (c : Int) := by omega
      have k2' : (c : Int) < 149 := by omega
      clear hf hr ho
      simp only [fv] at HR ⊢
      rcases hsc with rfl | rfl
      all_goals
        go_upto_region 17 with (first
          | (go_at_call 10; refine (HCP.out _ (HT.out.low HB4.out)).mono ?_; rintro e w5 ⟨a5, c5, rfl, p5, l5⟩; have P5 := hid p5; have L5 := hid l5; clear p5 l5)
          | (go_at_call 15; refine (HVO.out _ _ _ P5.out.pl HRS.out).mono ?_; rintro e w6 ⟨rfl, l6⟩; have L6 := hid l6; clear l6; have F6 := (HF.out.low L5.out).low L6.out; have ⟨c0, c1, c2, c3⟩ := cells4 F6; clear F6; have x6 := cell_of_one ((L6.out.block _ (Nat.lt_of_lt_of_le (lt_blk HX4.out) L5.out.size)).trans ((L5.out.block _ (lt_blk HX4.out)).trans HX4.out))))
        go_quiet (fail)
        go_wp2_with fail
        go_ret
        exact ⟨rfl, below_drewN (below2 HB4.out L5.out L6.out) _⟩
theorem sortsone_any (a : Option Addr) (T : List Pt) (cap : Nat) (sc : Int) (w : World) (hT : PLs w a T) (hG : GdT T) (hg : Gv w) :
    Calls Tryz.prog 4 #[.agg #[.slice a T.length cap], .int .i64 sc] w fun e w' => e = .returned (.bool true) ∧ Below w.heap.size w w' := by
  by_cases h : sumK T T.length ≤ 100000
  · exact one_small a T cap sc w hT hG hg h
  · exact one_great a T cap sc w hT hG hg h
end Go.Proofs.YtiddnjjaidiohaaGreatDoor.L
