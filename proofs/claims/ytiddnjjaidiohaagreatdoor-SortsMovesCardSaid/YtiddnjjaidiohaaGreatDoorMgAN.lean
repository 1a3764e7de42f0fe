import Derived.Test.YtiddnjjaidiohaaGreatDoorMgAL
import Derived.Test.YtiddnjjaidiohaaGreatDoorSc3
namespace Go.Proofs.YtiddnjjaidiohaaGreatDoor.L
open Go.RowKit
set_option linter.unusedVariables false
/-- A list of types to be read. -/
def TyL (w : World) (v : Value) (n : Nat) (ty : Nat → Int × Int) : Prop := ∃ a cap, v = .slice a n cap ∧ (n = 0 ∨ ∃ b off, a = some ⟨b, off, none⟩ ∧ b < w.heap.size ∧ ∀ j, j < n → w.cell? ⟨b, off + j * 2, none⟩ = some (.int .i64 (ty j).1) ∧ w.cell? ⟨b, off + j * 2 + 1, none⟩ = some (.int .i64 (ty j).2))
theorem TyL.low {w w' : World} {v : Value} {n : Nat} {ty : Nat → Int × Int} (h : TyL w v n ty) (hb : Below w.heap.size w w') : TyL w' v n ty := by
  obtain ⟨a, cap, rfl, h⟩ := h
  refine ⟨a, cap, rfl, ?_⟩
  rcases h with h | ⟨b, off, rfl, hl, hc⟩
  · exact .inl h
  · exact .inr ⟨b, off, rfl, Nat.lt_of_lt_of_le hl hb.size, fun j hj => ⟨(hb.cell (p := ⟨b, off + j * 2, none⟩) hl).trans (hc j hj).1, (hb.cell (p := ⟨b, off + j * 2 + 1, none⟩) hl).trans (hc j hj).2⟩⟩
theorem tyl_nil (w : World) (ty : Nat → Int × Int) : TyL w (.slice none 0 0) 0 ty := ⟨none, 0, rfl, .inl rfl⟩
theorem TyO.tyl {W : World} {base gt n : Nat} {ty : Nat → Int × Int} (h : TyO W base gt n ty) : TyL W (.slice (some ⟨gt, 0, none⟩) n n) n ty := by
  have h1 := h.ty
  refine ⟨_, _, rfl, .inr ⟨gt, 0, rfl, h1.1, fun j hj => ?_⟩⟩
  rw [Nat.zero_add]
  exact h1.2 j hj
theorem TyL.congr {w : World} {v : Value} {n : Nat} {ty ty' : Nat → Int × Int} (h : TyL w v n ty) (e : ∀ j, j < n → ty j = ty' j) : TyL w v n ty' := by
  obtain ⟨a, cap, rfl, h⟩ := h
  refine ⟨a, cap, rfl, ?_⟩
  rcases h with h | ⟨b, off, rfl, hl, hc⟩
  · exact .inl h
  · exact .inr ⟨b, off, rfl, hl, fun j hj => by rw [← e j hj]; exact hc j hj⟩
set_option maxHeartbeats 8000000 in
set_option maxRecDepth 100000 in
theorem same_types (v1 v2 : Value) (n : Nat) (ty : Nat → Int × Int) (w : World) (i1 : TyL w v1 n ty) (i2 : TyL w v2 n ty) (hl : n ≤ 100000) :
    Calls Tryz.prog 13 #[v1, v2] w fun e w' => e = .returned (.bool true) ∧ Below w.heap.size w w' := by
  obtain ⟨a1, c1, rfl, h1⟩ := i1
  obtain ⟨a2, c2, rfl, h2⟩ := i2
  go_enter Tryz.func13, Tryz.ntmps13
  go_wp2
  go_loopw [13] (fun i wr => ∃ k : Nat, k ≤ n ∧ i = .int .i64 k ∧ Hid (Below w.heap.size w wr)) (fun i _ => n - (intOf i).toNat)
  case atStart => exact ⟨0, Nat.zero_le _, rfl, hid (Below.refl _ _)⟩
  case round =>
    obtain ⟨k, hk, rfl, HB⟩ := hrel
    by_cases hlt : k < n
    · rcases h1 with h0 | ⟨b1, o1, rfl, hb1, hc1⟩
      · omega
      rcases h2 with h0 | ⟨b2, o2, rfl, hb2, hc2⟩
      · omega
      obtain ⟨p0, p1⟩ := hc1 k hlt
      obtain ⟨q0, q1⟩ := hc2 k hlt
      rw [← HB.out.cell (p := ⟨b1, o1 + k * 2, none⟩) hb1] at p0
      rw [← HB.out.cell (p := ⟨b1, o1 + k * 2 + 1, none⟩) hb1] at p1
      rw [← HB.out.cell (p := ⟨b2, o2 + k * 2, none⟩) hb2] at q0
      rw [← HB.out.cell (p := ⟨b2, o2 + k * 2 + 1, none⟩) hb2] at q1
      generalize (ty k).1 = s1 at *
      generalize (ty k).2 = s2 at *
      clear hc1 hc2
      have g1 : (k : Int) < (n : Int) := by omega
      have g2 : (0 : Int) ≤ (k : Int) := by omega
      have g3 : ((k : Int) * 2).toNat = k * 2 := by omega
      go_wp2_with fail
      go_quiet (fail)
      go_wp2_with fail
      refine ⟨⟨k + 1, by omega, by go_num, hid (below_drewN HB.out nq)⟩, ?_⟩
      simp [intOf]
      omega
    · have g1 : ¬ (k : Int) < (n : Int) := by omega
      go_wp2_with fail
      go_ret
      exact ⟨rfl, HB.out⟩
theorem run_assert (x : Value) (w : World) : (Instr.typeAssert (.iface 48 x) 37 48 true).run Tryz.prog w = .ok (.tuple #[x, .bool true]) w := by
  simp [Instr.typeAssert, run_underlying Tryz.underlying48, go_sem, Result.andThen]
set_option maxHeartbeats 4000000 in
theorem isf_nil (a c : Int) (w : World) : Calls Tryz.prog 14 #[.nilIface, .agg #[.int .i64 0, .int .i64 a, .int .i64 c]] w fun e w' => e = .returned (.bool true) ∧ Below w.heap.size w w' := by
  have HB := hid (belowA w (.cells #[.int .i64 0, .int .i64 a, .int .i64 c] 33))
  go_enter Tryz.func14, Tryz.ntmps14
  go_wp2_with fail
  go_ret
  exact ⟨rfl, HB.out⟩
set_option maxHeartbeats 16000000 in
set_option maxRecDepth 100000 in
theorem isf_flt (N c : Nat) (a : Int) (w : World) (h : Flt w N c a) (h0 : c ≠ 0) : Calls Tryz.prog 14 #[fv N, .agg #[.int .i64 (c : Int), .int .i64 a, .int .i64 0]] w fun e w' => e = .returned (.bool true) ∧ Below w.heap.size w w' := by
  unfold fv
  have ra := run_assert
  have HB := hid (belowA w (.cells #[.int .i64 (c : Int), .int .i64 a, .int .i64 0] 33))
  have HX := hid (heap_alloc_new w (.cells #[.int .i64 (c : Int), .int .i64 a, .int .i64 0] 33))
  have HF := hid h
  have h0' : ¬ (c : Int) = 0 := by omega
  have h0'' : ((c : Int) == 0) = false := by simpa using h0
  clear h
  go_enter Tryz.func14, Tryz.ntmps14
  go_upto_region 1 with (fail)
  have HF2 := hid (HF.out.low HB.out)
  generalize w.alloc (.cells #[.int .i64 (c : Int), .int .i64 a, .int .i64 0] 33) = X at *
  have x0 : X.cell? ⟨w.heap.size, 0, none⟩ = some (.int .i64 (c : Int)) := cell_of_row _ _ 0 _ _ _ HX.out
  have x1 : X.cell? ⟨w.heap.size, 1, none⟩ = some (.int .i64 a) := cell_of_row _ _ 1 _ _ _ HX.out
  have x2 : X.cell? ⟨w.heap.size, 2, none⟩ = some (.int .i64 0) := cell_of_row _ _ 2 _ _ _ HX.out
  have ⟨c0, c1, c2, c3⟩ := cells4 HF2.out
  go_wp2_with fail
  go_quiet (fail)
  go_wp2_with fail
  go_ret
  exact ⟨rfl, below_drewN HB.out nq⟩
set_option maxHeartbeats 16000000 in
set_option maxRecDepth 100000 in
theorem isf_tree (M N c : Nat) (a : Int) (w : World) (g : FltC w M a N) (h : Flt w N c a) (h0 : c ≠ 0) : Calls Tryz.prog 14 #[fv M, .agg #[.int .i64 140, .int .i64 a, .int .i64 (c : Int)]] w fun e w' => e = .returned (.bool true) ∧ Below w.heap.size w w' := by
  unfold fv
  have ra := run_assert
  have HB := hid (belowA w (.cells #[.int .i64 140, .int .i64 a, .int .i64 (c : Int)] 33))
  have HX := hid (heap_alloc_new w (.cells #[.int .i64 140, .int .i64 a, .int .i64 (c : Int)] 33))
  have HF := hid h
  have HM := hid g
  have h0' : ¬ (c : Int) = 0 := by omega
  have h0'' : ((c : Int) == 0) = false := by simpa using h0
  clear h g
  go_enter Tryz.func14, Tryz.ntmps14
  go_upto_region 1 with (fail)
  have HF2 := hid (HF.out.low HB.out)
  have HM2 := hid (HM.out.low HB.out)
  generalize w.alloc (.cells #[.int .i64 140, .int .i64 a, .int .i64 (c : Int)] 33) = X at *
  have x0 : X.cell? ⟨w.heap.size, 0, none⟩ = some (.int .i64 140) := cell_of_row _ _ 0 _ _ _ HX.out
  have x1 : X.cell? ⟨w.heap.size, 1, none⟩ = some (.int .i64 a) := cell_of_row _ _ 1 _ _ _ HX.out
  have x2 : X.cell? ⟨w.heap.size, 2, none⟩ = some (.int .i64 (c : Int)) := cell_of_row _ _ 2 _ _ _ HX.out
  have ⟨c0, c1, c2, c3⟩ := cells4 HF2.out
  have ⟨d0, d1, d2, d3⟩ := cells4 HM2.out
  unfold fv at d3
  go_wp2_with fail
  go_quiet (fail)
  go_wp2_with fail
  go_quiet (fail)
  go_wp2_with fail
  go_ret
  exact ⟨rfl, below_drewN (below_drewN HB.out _) _⟩
end Go.Proofs.YtiddnjjaidiohaaGreatDoor.L
namespace Go.Proofs.YtiddnjjaidiohaaGreatDoor.L
open Go.RowKit
set_option linter.unusedVariables false
theorem check_f2 (gp : Nat) (w : World) (hT : PL w (some ⟨gp, 0, none⟩) T1) (hg : Gv w) :
    Calls Tryz.prog 12 #[.agg #[.slice (some ⟨gp, 0, none⟩) 4 4], .int .i64 2] w fun e w' => ∃ gt, e = .returned (.tuple #[.slice (some ⟨gt, 0, none⟩) 4 4, .nilIface]) ∧ TyL w' (.slice (some ⟨gt, 0, none⟩) 4 4) 4 tyT1 ∧ Below w.heap.size w w' := by
  refine (check_any (some ⟨gp, 0, none⟩) T1 4 2 w hT gdT1 hg).mono ?_
  rintro e w' ⟨v, ev, rfl, hb, ⟨rfl, _, _, gt, rfl, _, hy⟩ | ⟨_, N, _, hf⟩⟩
  · exact ⟨gt, rfl, hy.tyl.congr ovT1t, hb⟩
  · rcases hf with ⟨⟨h, _⟩, _⟩ | ⟨_, ⟨M, c, i, _, _, hr, h0⟩ | ⟨_, c, a, h, _⟩⟩
    · exact absurd rfl h
    · exact absurd (res_one hr resT1).1 h0
    · rw [ovT1n] at h; cases h
theorem check_f3 (gp : Nat) (w : World) (hT : PL w (some ⟨gp, 0, none⟩) T1) (hg : Gv w) :
    Calls Tryz.prog 12 #[.agg #[.slice (some ⟨gp, 0, none⟩) 4 4], .int .i64 3] w fun e w' => ∃ N, e = .returned (.tuple #[.slice none 0 0, fv N]) ∧ Flt w' N 143 3 ∧ Below w.heap.size w w' := by
  refine (check_any (some ⟨gp, 0, none⟩) T1 4 3 w hT gdT1 hg).mono ?_
  rintro e w' ⟨v, ev, rfl, hb, ⟨_, _, _, gt, _, h, _⟩ | ⟨rfl, N, rfl, hf⟩⟩
  · rw [ovT1e] at h; cases h
  · rcases hf with ⟨⟨_, h⟩, _⟩ | ⟨_, ⟨M, c, i, _, _, hr, h0⟩ | ⟨_, c, a, h, hf⟩⟩
    · exact absurd rfl h
    · exact absurd (res_one hr resT1).1 h0
    · rw [ovT1e] at h
      cases h
      exact ⟨N, rfl, hf, hb⟩
set_option maxHeartbeats 16000000 in
set_option maxRecDepth 100000 in
theorem fixed_any (w : World) (hg : Gv w) : Calls Tryz.prog 8 #[] w fun e w' => e = .returned (.bool true) ∧ Below w.heap.size w w' := by
  have HG := hid hg
  have HFI := hid first_any
  have HC2 := hid check_f2
  have HC3 := hid check_f3
  clear hg
  go_enter Tryz.func8, Tryz.ntmps8
  go_upto_region 2 with (first
    | (go_at_call 21; refine (HFI.out _).mono ?_; rintro e w1 ⟨gp, rfl, p1, l1⟩; have P1 := hid p1; have L1 := hid l1; clear p1 l1)
    | (go_at_call 12; refine (HC2.out gp _ P1.out (HG.out.low L1.out)).mono ?_; rintro e w2 ⟨gt, rfl, t2, l2⟩; have T2 := hid t2; have L2 := hid l2; clear t2 l2))
  have HB2 := hid (L1.out.trans (L2.out.mono L1.out.size))
  go_upto_region 3 with (first
    | (go_at_call 21; refine (HFI.out _).mono ?_; rintro e w3 ⟨gq, rfl, p1, l1⟩; have P3 := hid p1; have L3 := hid l1; clear p1 l1)
    | (go_at_call 12; refine (HC3.out gq _ P3.out (HG.out.low (HB2.out.trans (L3.out.mono HB2.out.size)))).mono ?_; rintro e w4 ⟨N, rfl, f4, l4⟩; have F4 := hid f4; have L4 := hid l4; clear f4 l4))
  have HB4 := hid ((HB2.out.trans (L3.out.mono HB2.out.size)).trans (L4.out.mono (HB2.out.trans (L3.out.mono HB2.out.size)).size))
  have HT4 := hid ((T2.out.low L3.out).low L4.out)
  have HB5 := hid (belowA w4 (.cells #[.int .i64 2, .int .i64 3, .int .i64 2, .int .i64 1, .int .i64 1, .int .i64 3, .int .i64 1, .int .i64 2] 47))
  have HX5 := hid (heap_alloc_new w4 (.cells #[.int .i64 2, .int .i64 3, .int .i64 2, .int .i64 1, .int .i64 1, .int .i64 3, .int .i64 1, .int .i64 2] 47))
  have HL5 := hid (show TyL (w4.alloc (.cells #[.int .i64 2, .int .i64 3, .int .i64 2, .int .i64 1, .int .i64 1, .int .i64 3, .int .i64 1, .int .i64 2] 47)) (.slice (some ⟨w4.heap.size, 0, none⟩) 4 4) 4 tyT1 by
    refine ⟨_, _, rfl, .inr ⟨_, 0, rfl, lt_blk HX5.out, fun j hj => ?_⟩⟩
    have hc := fun j => cell_of_row _ _ j _ _ _ HX5.out
    match j, hj with
    | 0, _ => exact ⟨hc 0, hc 1⟩
    | 1, _ => exact ⟨hc 2, hc 3⟩
    | 2, _ => exact ⟨hc 4, hc 5⟩
    | 3, _ => exact ⟨hc 6, hc 7⟩)
  have HST := hid (same_types _ _ 4 tyT1 _ (HT4.out.low HB5.out) HL5.out (by decide))
  have HIF := hid (fun W (h : Below w4.heap.size w4 W) => isf_flt N 143 3 W (F4.out.low h) (by decide))
  simp only [fv] at HIF ⊢
  go_wp2_with (first
    | (go_at_call 13; refine HST.out.mono ?_; rintro e w5 ⟨rfl, l5⟩; have L5 := hid l5; clear l5)
    | (go_at_call 14; refine (HIF.out _ (bchS HB5.out L5.out)).mono ?_; rintro e w6 ⟨rfl, l6⟩; have L6 := hid l6; clear l6))
  go_ret
  exact ⟨rfl, HB4.out.trans ((bchS (bchS HB5.out L5.out) L6.out).mono HB4.out.size)⟩
end Go.Proofs.YtiddnjjaidiohaaGreatDoor.L
