import Derived.Test.YtiddnjjaidiohaaGreatDoorSc3
import Derived.Test.YtiddnjjaidiohaaGreatDoorSc4
namespace Go.Proofs.YtiddnjjaidiohaaGreatDoor.L
open Go.RowKit
set_option linter.unusedVariables false
theorem check_f2 (gp : Nat) (w : World) (hT : PL w (some ⟨gp, 0, none⟩) T1) (hg : Gv w) :
    Calls Tryz.prog 12 #[.agg #[.slice (some ⟨gp, 0, none⟩) 4 4], .int .i64 2] w fun e w' => ∃ gt, e = .returned (.tuple #[.slice (some ⟨gt, 0, none⟩) 4 4, .nilIface]) ∧ TyL w' (.slice (some ⟨gt, 0, none⟩) 4 4) 4 tyT1 ∧ Below w.heap.size w w' := by
  refine (check_any (some ⟨gp, 0, none⟩) T1 4 2 w hT gdT1 hg).mono ?_
  rintro e w' ⟨v, ev, rfl, hb, ⟨rfl, _, _, gt, rfl, _, hy⟩ | ⟨_, N, _, hf⟩⟩
  · exact ⟨gt, rfl, hy.tyl.congr ovT1t, hb⟩
  · rcases hf with ⟨⟨h, _⟩, _⟩ | ⟨_, ⟨M, c, i, _, _, hr, h0⟩ | ⟨_, c, a, h, _⟩⟩
    · exact absurd rfl h
    · exact absurd (res_one hr resT1).1 h0
    · rw [ovT1n] at h; cases h
theorem check_f3 (gp : Nat) (w : World) (hT : PL w (some ⟨gp, 0, none⟩) T1) (hg : Gv w) :
    Calls Tryz.prog 12 #[.agg #[.slice (some ⟨gp, 0, none⟩) 4 4], .int .i64 3] w fun e w' => ∃ N, e = .returned (.tuple #[.slice none 0 0, fv N]) ∧ Flt w' N 143 3 ∧ Below w.heap.size w w' := by
  refine (check_any (some ⟨gp, 0, none⟩) T1 4 3 w hT gdT1 hg).mono ?_
  rintro e w' ⟨v, ev, rfl, hb, ⟨_, _, _, gt, _, h, _⟩ | ⟨rfl, N, rfl, hf⟩⟩
  · rw [ovT1e] at h; cases h
  · rcases hf with ⟨⟨_, h⟩, _⟩ | ⟨_, ⟨M, c, i, _, _, hr, h0⟩ | ⟨_, c, a, h, hf⟩⟩
    · exact absurd rfl h
    · exact absurd (res_one hr resT1).1 h0
    · rw [ovT1e] at h
      cases h
      exact ⟨N, rfl, hf, hb⟩
set_option maxHeartbeats 16000000 in
set_option maxRecDepth 100000 in
theorem fixed_any (w : World) (hg : Gv w) : Calls Tryz.prog 8 #[] w fun e w' => e = .returned (.bool true) ∧ Below w.heap.size w w' := by
  have HG := hid hg
  have HFI := hid first_any
  have HC2 := hid check_f2
  have HC3 := hid check_f3
  clear hg
  go_enter Tryz.func8, Tryz.ntmps8
  go_upto_region 2 with (first
    | (go_at_call 21; refine (HFI.out _).mono ?_; rintro e w1 ⟨gp, rfl, p1, l1⟩; have P1 := hid p1; have L1 := hid l1; clear p1 l1)
    | (go_at_call 12; refine (HC2.out gp _ P1.out (HG.out.low L1.out)).mono ?_; rintro e w2 ⟨gt, rfl, t2, l2⟩; have T2 := hid t2; have L2 := hid l2; clear t2 l2))
  have HB2 := hid (L1.out.trans (L2.out.mono L1.out.size))
  go_upto_region 3 with (first
    | (go_at_call 21; refine (HFI.out _).mono ?_; rintro e w3 ⟨gq, rfl, p1, l1⟩; have P3 := hid p1; have L3 := hid l1; clear p1 l1)
    | (go_at_call 12; refine (HC3.out gq _ P3.out (HG.out.low (HB2.out.trans (L3.out.mono HB2.out.size)))).mono ?_; rintro e w4 ⟨N, rfl, f4, l4⟩; have F4 := hid f4; have L4 := hid l4; clear f4 l4))
  have HB4 := hid ((HB2.out.trans (L3.out.mono HB2.out.size)).trans (L4.out.mono (HB2.out.trans (L3.out.mono HB2.out.size)).size))
  have HT4 := hid ((T2.out.low L3.out).low L4.out)
  have HB5 := hid (belowA w4 (.cells #[.int .i64 2, .int .i64 3, .int .i64 2, .int .i64 1, .int .i64 1, .int .i64 3, .int .i64 1, .int .i64 2] 47))
  have HX5 := hid (heap_alloc_new w4 (.cells #[.int .i64 2, .int .i64 3, .int .i64 2, .int .i64 1, .int .i64 1, .int .i64 3, .int .i64 1, .int .i64 2] 47))
  have HL5 := hid (show TyL (w4.alloc (.cells #[.int .i64 2, .int .i64 3, .int .i64 2, .int .i64 1, .int .i64 1, .int .i64 3, .int .i64 1, .int .i64 2] 47)) (.slice (some ⟨w4.heap.size, 0, none⟩) 4 4) 4 tyT1 by
    refine ⟨_, _, rfl, .inr ⟨_, 0, rfl, lt_blk HX5.out, fun j hj => ?_⟩⟩
    have hc := fun j => cell_of_row _ _ j _ _ _ HX5.out
    match j, hj with
    | 0, _ => exact ⟨hc 0, hc 1⟩
    | 1, _ => exact ⟨hc 2, hc 3⟩
    | 2, _ => exact ⟨hc 4, hc 5⟩
    | 3, _ => exact ⟨hc 6, hc 7⟩)
  have HST := hid (same_types _ _ 4 tyT1 _ (HT4.out.low HB5.out) HL5.out (by decide))
  have HIF := hid (fun W (h : Below w4.heap.size w4 W) => isf_flt N 143 3 W (F4.out.low h) (by decide))
  simp only [fv] at HIF ⊢
  go_wp2_with (first
    | (go_at_call 13; refine HST.out.mono ?_; rintro e w5 ⟨rfl, l5⟩; have L5 := hid l5; clear l5)
    | (go_at_call 14; refine (HIF.out _ (bchS HB5.out L5.out)).mono ?_; rintro e w6 ⟨rfl, l6⟩; have L6 := hid l6; clear l6))
  go_ret
  exact ⟨rfl, HB4.out.trans ((bchS (bchS HB5.out L5.out) L6.out).mono HB4.out.size)⟩
end Go.Proofs.YtiddnjjaidiohaaGreatDoor.L
