import Derived.Test.YtiddnjjaidiohaaGreatDoorSc2
import Derived.Test.YtiddnjjaidiohaaGreatDoorMgAN
import Derived.Test.YtiddnjjaidiohaaGreatDoorMgAM
namespace Go.Proofs.YtiddnjjaidiohaaGreatDoor.L
open Go.RowKit
set_option linter.unusedVariables false
theorem below2 {a b c d : World} (h1 : Below a.heap.size a b) (h2 : Below b.heap.size b c) (h3 : Below c.heap.size c d) : Below a.heap.size a d := bchS (bchS h1 h2) h3
theorem small_yes (a : Option Addr) (T : List Pt) (cap : Nat) (w : World) (hT : PL w a T) (hG : GdT T) (h : sumK T T.length ≤ 100000) :
    Calls Tryz.prog 9 #[.agg #[.slice a T.length cap]] w fun e w' => e = .returned (.bool true) ∧ Below w.heap.size w w' := by
  refine (small_any a T cap w hT hG).mono ?_
  rintro e w' (⟨rfl, _, hb⟩ | ⟨_, h1, _⟩)
  · exact ⟨rfl, hb⟩
  · omega
theorem small_no (a : Option Addr) (T : List Pt) (cap : Nat) (w : World) (hT : PL w a T) (hG : GdT T) (h : ¬ sumK T T.length ≤ 100000) :
    Calls Tryz.prog 9 #[.agg #[.slice a T.length cap]] w fun e w' => e = .returned (.bool false) ∧ Below w.heap.size w w' := by
  refine (small_any a T cap w hT hG).mono ?_
  rintro e w' (⟨_, h1, _⟩ | ⟨rfl, _, hb⟩)
  · omega
  · exact ⟨rfl, hb⟩
/-- Copied: a tree that can be read. -/
theorem copied_pl (a : Option Addr) (T : List Pt) (cap : Nat) (w : World) (hT : PLs w a T) (hG : GdT T) (hsm : sumK T T.length ≤ 100000) :
    Calls Tryz.prog 10 #[.agg #[.slice a T.length cap]] w fun e w' => ∃ a' cap', e = .returned (.agg #[.slice a' T.length cap']) ∧ PLs w' a' T ∧ Below w.heap.size w w' := by
  refine (copied_any a T cap w hT hG hsm).mono ?_
  rintro e w' ⟨a', cap', ks, rfl, ho, hb⟩
  obtain ⟨a2, c2, e2, hp⟩ := ho.pl
  cases e2
  exact ⟨a', cap', rfl, hp, hb⟩
theorem valid_ok (a : Option Addr) (T : List Pt) (cap : Nat) (w : World) (hT : PL w a T) (hG : GdT T) (hr : Res T 0 0) :
    Calls Tryz.prog 15 #[.agg #[.slice a T.length cap]] w fun e w' => e = .returned .nilIface ∧ Below w.heap.size w w' := by
  refine (valid_any a T cap w hT hG).mono ?_
  rintro e w' ⟨ev, rfl, hb, ⟨rfl, _⟩ | ⟨N, c, i, _, _, _, h, h0⟩⟩
  · exact ⟨rfl, hb⟩
  · exact absurd (res_one h hr).1 h0
theorem valid_bad (a : Option Addr) (T : List Pt) (cap : Nat) (w : World) (hT : PL w a T) (hG : GdT T) (hr : ¬ Res T 0 0) :
    Calls Tryz.prog 15 #[.agg #[.slice a T.length cap]] w fun e w' => ∃ N, e = .returned (fv N) ∧ Below w.heap.size w w' := by
  refine (valid_any a T cap w hT hG).mono ?_
  rintro e w' ⟨ev, rfl, hb, ⟨rfl, h⟩ | ⟨N, c, i, rfl, _, _, h, h0⟩⟩
  · exact absurd h hr
  · exact ⟨N, rfl, hb⟩
set_option maxHeartbeats 16000000 in
set_option maxRecDepth 100000 in
theorem one_great (a : Option Addr) (T : List Pt) (cap : Nat) (sc : Int) (w : World) (hT : PLs w a T) (hG : GdT T) (hg : Gv w) (hn : ¬ sumK T T.length ≤ 100000) :
    Calls Tryz.prog 4 #[.agg #[.slice a T.length cap], .int .i64 sc] w fun e w' => e = .returned (.bool true) ∧ Below w.heap.size w w' := by
  have HB0 := hid (belowA w (.cells #[.slice a T.length cap] 26))
  have HX0 := hid (heap_alloc_new w (.cells #[.slice a T.length cap] 26))
  have HFX := hid (fixed_any _ (hg.low HB0.out))
  have HT := hid hT
  have HG := hid hg
  have HSM := hid (fun W h => small_no a T cap W h hG hn)
  have HCK := hid (fun W h1 h2 => check_any a T cap sc W h1 hG h2)
  have HNR := hid (show ¬ Res T 0 0 from fun h => by have := res_small h; omega)
  generalize T.length = L at HB0 HX0 HFX HSM HCK ⊢
  clear hT hg hn
  go_enter Tryz.func4, Tryz.ntmps4
  go_upto_region 1 with (fail)
  generalize w.alloc (.cells #[.slice a L cap] 26) = X at *
  go_upto_region 3 with (go_at_call 8; refine HFX.out.mono ?_; rintro e w1 ⟨rfl, l1⟩; have L1 := hid l1; clear l1)
  have HB1 := hid (HB0.out.trans (L1.out.mono HB0.out.size))
  have HX1 := hid ((L1.out.block _ (lt_blk HX0.out)).trans HX0.out)
  have x0 := cell_of_one HX1.out
  go_upto_region 4 with (go_at_call 9; refine (HSM.out _ (HT.out.low HB1.out).pl).mono ?_; rintro e w2 ⟨rfl, l1⟩; have L2 := hid l1; clear l1)
  have HB2 := hid (HB1.out.trans (L2.out.mono HB1.out.size))
  have HX2 := hid ((L2.out.block _ (lt_blk HX1.out)).trans HX1.out)
  clear x0
  have x0 := cell_of_one HX2.out
  go_upto_region 5 with (go_at_call 12; refine (HCK.out _ (HT.out.low HB2.out).pl (HG.out.low HB2.out)).mono ?_; rintro e w3 ⟨v, ev, rfl, l3, hr⟩; have HR := hid hr; have L3 := hid l3; clear l3 hr)
  have HB3 := hid (HB2.out.trans (L3.out.mono HB2.out.size))
  rcases HR.out with ⟨rfl, _, h, _⟩ | ⟨rfl, N, rfl, hf⟩
  · exact absurd h HNR.out
  · simp only [fv]
    go_wp2_with fail
    go_ret
    exact ⟨rfl, HB3.out⟩
set_option maxHeartbeats 16000000 in
set_option maxRecDepth 100000 in
theorem one_small (a : Option Addr) (T : List Pt) (cap : Nat) (sc : Int) (w : World) (hT : PLs w a T) (hG : GdT T) (hg : Gv w) (hn : sumK T T.length ≤ 100000) :
    Calls Tryz.prog 4 #[.agg #[.slice a T.length cap], .int .i64 sc] w fun e w' => e = .returned (.bool true) ∧ Below w.heap.size w w' := by
  have HB0 := hid (belowA w (.cells #[.slice a T.length cap] 26))
  have HX0 := hid (heap_alloc_new w (.cells #[.slice a T.length cap] 26))
  have HFX := hid (fixed_any _ (hg.low HB0.out))
  have HT := hid hT
  have HG := hid hg
  have HSM := hid (fun W h => small_yes a T cap W h hG hn)
  have HCP := hid (fun W h => copied_pl a T cap W h hG hn)
  have HCK := hid (fun a' cap' W h1 h2 => check_any a' T cap' sc W h1 hG h2)
  have HVO := hid (fun a' cap' W h1 h2 => valid_ok a' T cap' W h1 hG h2)
  have HVB := hid (fun a' cap' W h1 h2 => valid_bad a' T cap' W h1 hG h2)
  have ra := run_assert
  obtain ⟨L, hL⟩ : ∃ L, L = T.length := ⟨_, rfl⟩
  have HL := hid hL
  rw [← hL] at HB0 HX0 HFX HSM HCP HCK HVO HVB ⊢
  have hl5 : L ≤ 100000 := by
    have h0 := sumK_mono T (Nat.zero_le T.length)
    have h1 : sumK T 0 = T.length := rfl
    omega
  clear hT hg hn hL
  go_enter Tryz.func4, Tryz.ntmps4
  go_upto_region 1 with (fail)
  generalize w.alloc (.cells #[.slice a L cap] 26) = X at *
  go_upto_region 3 with (go_at_call 8; refine HFX.out.mono ?_; rintro e w1 ⟨rfl, l1⟩; have L1 := hid l1; clear l1)
  have HB1 := hid (HB0.out.trans (L1.out.mono HB0.out.size))
  have HX1 := hid ((L1.out.block _ (lt_blk HX0.out)).trans HX0.out)
  have x0 := cell_of_one HX1.out
  go_upto_region 6 with (go_at_call 9; refine (HSM.out _ (HT.out.low HB1.out).pl).mono ?_; rintro e w2 ⟨rfl, l1⟩; have L2 := hid l1; clear l1)
  have HB2 := hid (HB1.out.trans (L2.out.mono HB1.out.size))
  have HX2 := hid ((L2.out.block _ (lt_blk HX1.out)).trans HX1.out)
  clear x0
  have x0 := cell_of_one HX2.out
  go_upto_region 7 with (first
    | (go_at_call 10; refine (HCP.out _ (HT.out.low HB2.out)).mono ?_; rintro e w3 ⟨a3, c3, rfl, p3, l3⟩; have P3 := hid p3; have L3 := hid l3; clear p3 l3)
    | (go_at_call 12; refine (HCK.out _ _ _ P3.out.pl (HG.out.low (HB2.out.trans (L3.out.mono HB2.out.size)))).mono ?_; rintro e w4 ⟨v, ev, rfl, l4, hr⟩; have HR := hid hr; have L4 := hid l4; clear l4 hr))
  have HB4 := hid ((HB2.out.trans (L3.out.mono HB2.out.size)).trans (L4.out.mono (HB2.out.trans (L3.out.mono HB2.out.size)).size))
  have HX4 := hid ((L4.out.block _ (Nat.lt_of_lt_of_le (lt_blk HX2.out) L3.out.size)).trans ((L3.out.block _ (lt_blk HX2.out)).trans HX2.out))
  clear x0
  have x0 := cell_of_one HX4.out
  rcases HR.out with ⟨rfl, hsc, hrs, gt, hv, hn, hty⟩ | ⟨rfl, N, rfl, hf⟩
  · rw [← HL.out] at hv hty
    subst hv
    have HTY := hid hty
    have hl1 : 1 ≤ L := by rw [HL.out]; exact (res_ok hrs).1
    have HRT := hid (ovS_root hrs hn)
    rw [← HL.out] at HRT
    have HRS := hid hrs
    have hcast : (((L : Int) - 1) * 2).toNat = (L - 1) * 2 := by omega
    have g1 : (0 : Int) ≤ (L : Int) - 1 := by omega
    have g2 : (L : Int) - 1 < (L : Int) := by omega
    have g3 : (0 : Int) < (L : Int) := by omega
    clear hn hrs hty
    rcases hsc with rfl | rfl
    all_goals
      go_wp2_with (first
        | (go_at_call 10; refine (HCP.out _ (HT.out.low HB4.out)).mono ?_; rintro e w5 ⟨a5, c5, rfl, p5, l5⟩; have P5 := hid p5; have L5 := hid l5; clear p5 l5)
        | (go_at_call 15; refine (HVO.out _ _ _ P5.out.pl HRS.out).mono ?_; rintro e w6 ⟨rfl, l6⟩; have L6 := hid l6; clear l6; have t6 : w6.cell? ⟨gt, (L - 1) * 2, none⟩ = some (.int .i64 1) := by rw [← HRT.out]; exact (((HTY.out.low L5.out).low L6.out).ty.2 (L - 1) (by omega)).1))
      go_ret
      exact ⟨rfl, below2 HB4.out L5.out L6.out⟩
  · rcases hf with ⟨⟨h2, h3⟩, hf⟩ | ⟨hsc, ⟨M, c, i, hf, hf2, hr, h0⟩ | ⟨hr, c, a1, ho, hf⟩⟩
    · have ⟨c0, c1, c2, c3⟩ := cells4 hf
      have h4 : (sc != 2) = true := by simp [h2]
      have h5 : (sc != 3) = true := by simp [h3]
      clear hf
      simp only [fv]
      go_wp2_with fail
      go_ret
      exact ⟨rfl, HB4.out⟩
    · have HNR := hid (show ¬ Res T 0 0 from fun h => h0 (res_one hr h).1)
      have HF := hid hf
      clear hf hf2 hr h0
      simp only [fv] at HR ⊢
      rcases hsc with rfl | rfl
      all_goals
        go_wp2_with (first
          | (go_at_call 10; refine (HCP.out _ (HT.out.low HB4.out)).mono ?_; rintro e w5 ⟨a5, c5, rfl, p5, l5⟩; have P5 := hid p5; have L5 := hid l5; clear p5 l5)
          | (go_at_call 15; refine (HVB.out _ _ _ P5.out.pl HNR.out).mono ?_; rintro e w6 ⟨N2, rfl, l6⟩; have L6 := hid l6; clear l6; have F6 := (HF.out.low L5.out).low L6.out; have ⟨c0, c1, c2, c3⟩ := cells4 F6; simp only [fv]; clear F6))
        go_ret
        exact ⟨rfl, below2 HB4.out L5.out L6.out⟩
    · have HF := hid hf
      have HRS := hid hr
      have ⟨k1, k2, k3, k4⟩ := ovS_cd hr ho
      rw [← HL.out] at k4
      have k1' : (140 : Int) < (c : Int) := by omega
      have k2' : (c : Int) < 149 := by omega
      clear hf hr ho
      simp only [fv] at HR ⊢
      rcases hsc with rfl | rfl
      all_goals
        go_upto_region 17 with (first
          | (go_at_call 10; refine (HCP.out _ (HT.out.low HB4.out)).mono ?_; rintro e w5 ⟨a5, c5, rfl, p5, l5⟩; have P5 := hid p5; have L5 := hid l5; clear p5 l5)
          | (go_at_call 15; refine (HVO.out _ _ _ P5.out.pl HRS.out).mono ?_; rintro e w6 ⟨rfl, l6⟩; have L6 := hid l6; clear l6; have F6 := (HF.out.low L5.out).low L6.out; have ⟨c0, c1, c2, c3⟩ := cells4 F6; clear F6; have x6 := cell_of_one ((L6.out.block _ (Nat.lt_of_lt_of_le (lt_blk HX4.out) L5.out.size)).trans ((L5.out.block _ (lt_blk HX4.out)).trans HX4.out))))
        go_quiet (fail)
        go_wp2_with fail
        go_ret
        exact ⟨rfl, below_drewN (below2 HB4.out L5.out L6.out) _⟩
theorem sortsone_any (a : Option Addr) (T : List Pt) (cap : Nat) (sc : Int) (w : World) (hT : PLs w a T) (hG : GdT T) (hg : Gv w) :
    Calls Tryz.prog 4 #[.agg #[.slice a T.length cap], .int .i64 sc] w fun e w' => e = .returned (.bool true) ∧ Below w.heap.size w w' := by
  by_cases h : sumK T T.length ≤ 100000
  · exact one_small a T cap sc w hT hG hg h
  · exact one_great a T cap sc w hT hG hg h
end Go.Proofs.YtiddnjjaidiohaaGreatDoor.L
