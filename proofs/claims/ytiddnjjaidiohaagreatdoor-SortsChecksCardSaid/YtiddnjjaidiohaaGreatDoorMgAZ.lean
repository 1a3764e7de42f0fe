import Derived.Test.YtiddnjjaidiohaaGreatDoorSh1
import Derived.Test.YtiddnjjaidiohaaGreatDoorMgAY
namespace Go.Proofs.YtiddnjjaidiohaaGreatDoor.L
open Go.RowKit
set_option linter.unusedVariables false
theorem RkR.form {T : List Pt} {sc : Int} {W : World} {v f : Value} (h : RkR T sc W v f) : ∃ c i z : Int, f = .agg #[.int .i64 c, .int .i64 i, .int .i64 z] := by
  rcases h with ⟨_, _, rfl⟩ | ⟨_, ⟨c, i, _, _, _, rfl⟩ | ⟨_, ⟨_, _, rfl⟩ | ⟨c, i, _, _, rfl⟩⟩⟩ <;> exact ⟨_, _, _, rfl⟩
/-- Both programs' answers are one. -/
theorem ck_uni {T : List Pt} {sc : Int} {B : Nat} {W W0 : World} {v ev v' f : Value} (hC : CkR T sc B W v ev) (hR : RkR T sc W0 v' f) (hb : Below W0.heap.size W0 W) :
    (∃ (n : Nat) (ty : Nat → Int × Int), n ≤ 1000 ∧ TyL W v n ty ∧ TyL W v' n ty) ∧ (∀ W2, Below W.heap.size W W2 → Calls Tryz.prog 14 #[ev, f] W2 fun e w' => e = .returned (.bool true) ∧ Below W2.heap.size W2 w') := by
  have nil2 : ∃ (n : Nat) (ty : Nat → Int × Int), n ≤ 1000 ∧ TyL W (.slice none 0 0) n ty ∧ TyL W (.slice none 0 0) n ty := ⟨0, fun _ => (0, 0), by omega, tyl_nil _ _, tyl_nil _ _⟩
  rcases hC with ⟨rfl, hs, hr, gt, rfl, hn, hty⟩ | ⟨rfl, N, rfl, hf⟩
  · rcases hR with ⟨⟨h2, h3⟩, _⟩ | ⟨_, ⟨c, i, hr2, h0, _⟩ | ⟨_, ⟨_, ht, rfl⟩ | ⟨c, i, ho, _⟩⟩⟩
    · rcases hs with h | h
      · exact absurd h h2
      · exact absurd h h3
    · exact absurd (res_one hr2 hr).1 h0
    · obtain ⟨_, h2, _⟩ := res_ok hr
      exact ⟨⟨T.length, (ovS T sc).1, h2, hty.tyl, ht.low hb⟩, fun W2 _ => isf_nil 0 0 W2⟩
    · rw [hn] at ho; cases ho
  · rcases hf with ⟨⟨h2, h3⟩, hf⟩ | ⟨hs, ⟨M, c, i, hf, hf2, hr, h0⟩ | ⟨hr, c, a1, ho, hf⟩⟩
    · rcases hR with ⟨_, rfl, rfl⟩ | ⟨hs, _⟩
      · exact ⟨nil2, fun W2 hb2 => isf_flt N 149 (-1) W2 (hf.low hb2) (by decide)⟩
      · rcases hs with h | h
        · exact absurd h h2
        · exact absurd h h3
    · rcases hR with ⟨⟨h2, h3⟩, _⟩ | ⟨_, ⟨c', i', hr2, h0', rfl, rfl⟩ | ⟨hr2, _⟩⟩
      · rcases hs with h | h
        · exact absurd h h2
        · exact absurd h h3
      · obtain ⟨e1, e2⟩ := res_one hr hr2
        subst e1 e2
        exact ⟨nil2, fun W2 hb2 => isf_tree N M c i W2 (hf.low hb2) (hf2.low hb2) h0⟩
      · exact absurd (res_one hr hr2).1 h0
    · rcases hR with ⟨⟨h2, h3⟩, _⟩ | ⟨_, ⟨c', i', hr2, h0', _⟩ | ⟨_, ⟨hn, _⟩ | ⟨c', i', ho2, rfl, rfl⟩⟩⟩
      · rcases hs with h | h
        · exact absurd h h2
        · exact absurd h h3
      · exact absurd (res_one hr2 hr).1 h0'
      · rw [hn] at ho; cases ho
      · rw [ho] at ho2
        cases ho2
        have := ovS_cd hr ho
        exact ⟨nil2, fun W2 hb2 => isf_flt N c a1 W2 (hf.low hb2) (by omega)⟩
end Go.Proofs.YtiddnjjaidiohaaGreatDoor.L
namespace Go.Proofs.YtiddnjjaidiohaaGreatDoor.L
open Go.RowKit
set_option linter.unusedVariables false
/-- A script of trees and scopes, to be read. -/
def ItO (W : World) (a : Option Addr) (os : List (List Pt × Int)) : Prop := os.length = 0 ∨ ∃ b off, a = some ⟨b, off, none⟩ ∧ b < W.heap.size ∧ ∀ j, j < os.length → ∃ ta tc,
  W.cell? ⟨b, off + j * 2, none⟩ = some (.slice ta (os.getD j ([], 0)).1.length tc) ∧ W.cell? ⟨b, off + j * 2 + 1, none⟩ = some (.int .i64 (os.getD j ([], 0)).2) ∧ PLs W ta (os.getD j ([], 0)).1 ∧ GdT (os.getD j ([], 0)).1
set_option maxHeartbeats 16000000 in
set_option maxRecDepth 100000 in
theorem sortschecks_any (a : Option Addr) (os : List (List Pt × Int)) (cap : Nat) (w : World) (hO : ItO w a os) (hl : os.length ≤ 140737488355328) (hg : Gv w) :
    Calls Tryz.prog 3 #[.slice a os.length cap] w fun e w' => e = .returned (.bool true) ∧ Below w.heap.size w w' := by
  have HG := hid hg
  have HO := hid hO
  have HFX := hid (fixed_any _ hg)
  have HST := hid same_types
  obtain ⟨n, hn⟩ : ∃ n, n = os.length := ⟨_, rfl⟩
  have HN := hid hn
  rw [← hn] at hl ⊢
  clear hO hg hn
  go_enter Tryz.func3, Tryz.ntmps3
  go_upto_region 3 with (go_at_call 8; refine HFX.out.mono ?_; rintro e w1 ⟨rfl, l1⟩; have L1 := hid l1; clear l1)
  go_wp2_with fail
  go_loopw [14] (fun i wr => ∃ k : Nat, k ≤ n ∧ i = .int .i64 (k : Int) ∧ Hid (Below w.heap.size w wr)) (fun i _ => n - (intOf i).toNat)
  case atStart => exact ⟨0, Nat.zero_le _, rfl, L1⟩
  case round =>
    obtain ⟨k, hk, rfl, HB⟩ := hrel
    by_cases hkn : k < n
    · rcases HO.out with h0 | ⟨b, off, rfl, hb, hc⟩
      · have := HN.out; omega
      obtain ⟨ta, tc, c0, c1, hT, hG⟩ := hc k (by rw [← HN.out]; exact hkn)
      replace c0 := (HB.out.cell (p := ⟨b, off + k * 2, none⟩) hb).trans c0
      replace c1 := (HB.out.cell (p := ⟨b, off + k * 2 + 1, none⟩) hb).trans c1
      obtain ⟨T, hTe⟩ : ∃ T, T = (os.getD k ([], 0)).1 := ⟨_, rfl⟩
      obtain ⟨sc, hsc⟩ : ∃ sc, sc = (os.getD k ([], 0)).2 := ⟨_, rfl⟩
      rw [← hTe] at c0 hT hG
      rw [← hsc] at c1
      obtain ⟨L, hL⟩ : ∃ L, L = T.length := ⟨_, rfl⟩
      rw [← hL] at c0
      have HL := hid hL
      have HT := hid hT
      have HSY := hid (fun W h1 h2 => small_yes ta T tc W h1 hG h2)
      have HSN := hid (fun W h1 h2 => small_no ta T tc W h1 hG h2)
      have HCP := hid (fun W h1 h2 => copied_any ta T tc W h1 hG h2)
      have HCK := hid (fun a' cap' W h1 h2 => check_any a' T cap' sc W h1 hG h2)
      have HRK := hid (fun W h1 => rcheck_any ta T tc sc W h1 hG)
      rw [← hL] at HSY HSN HCP HCK HRK
      have g1 : (k : Int) < (n : Int) := by omega
      have g2 : (0 : Int) ≤ (k : Int) := by omega
      have g3 : ((k : Int) * 2).toNat = k * 2 := by omega
      have HK1 := hid (show k + 1 ≤ n by omega)
      have HB0 := hid (belowA wr (.cells #[.slice ta L tc, .int .i64 sc] 28))
      have HX0 := hid (heap_alloc_new wr (.cells #[.slice ta L tc, .int .i64 sc] 28))
      clear hc hTe hsc hL hT hG
      go_upto_region 6 with (fail)
      clear c0 c1 hb
      have HBA := hid (bchS HB.out HB0.out)
      generalize wr.alloc (.cells #[.slice ta L tc, .int .i64 sc] 28) = A at *
      generalize wr.heap.size = ob at *
      have ⟨x0, x1⟩ := cellsW HX0.out
      have HB1 := hid (belowA A (.cells #[.slice ta L tc] 26))
      have HX1 := hid (heap_alloc_new A (.cells #[.slice ta L tc] 26))
      go_upto_region 7 with (fail)
      clear x0 x1
      have HXO := hid ((HB1.out.block _ (lt_blk HX0.out)).trans HX0.out)
      have HBV := hid (bchS HBA.out HB1.out)
      have hot : ob ≠ A.heap.size := Nat.ne_of_lt (lt_blk HX0.out)
      generalize A.alloc (.cells #[.slice ta L tc] 26) = V at *
      have HWT := hid (show w.heap.size ≤ A.heap.size from HBA.out.size)
      generalize A.heap.size = tb at *
      have y0 := cell_of_one HX1.out
      by_cases hsm : sumK T L ≤ 100000
      · have HSM := hid hsm
        clear hsm
        go_upto_region 9 with (first
          | (go_at_call 9; refine (HSY.out _ (HT.out.low HBV.out).pl HSM.out).mono ?_; rintro e w2 ⟨rfl, l2⟩; have L2 := hid l2; clear l2; have HX2 := hid ((L2.out.block _ (lt_blk HX1.out)).trans HX1.out); have y2 := cell_of_one HX2.out)
          | (go_at_call 10; refine (HCP.out _ (HT.out.low (bchS HBV.out L2.out)) HSM.out).mono ?_; rintro e w3 ⟨a3, c3, ks3, rfl, p3, l3⟩; have P3 := hid p3; have L3 := hid l3; clear p3 l3; have HX3 := hid ((L3.out.block _ (lt_blk HX2.out)).trans HX2.out); have y3 := cell_of_one HX3.out; have f3 : w3.frozen? ⟨tb, 0, none⟩ = false := by simp [World.frozen?, HX3.out]))
        have hlt2 : tb < w2.heap.size := lt_blk HX2.out
        have P5 := hid (show PLs (w3.setCell ⟨tb, 0, none⟩ (.slice a3 L c3)) a3 T by
          have h := P3.out.set_low (p := ⟨tb, 0, none⟩) hlt2 (.slice a3 L c3)
          rw [HL.out] at h
          obtain ⟨a4, c4, e4, hp⟩ := h.pl
          cases e4
          rw [HL.out]
          exact hp)
        have X5 := hid (show (w3.setCell ⟨tb, 0, none⟩ (.slice a3 L c3)).heap[tb]? = some (.cells #[.slice a3 L c3] 26 (0, 0)) by
          rw [setCell_eq_setRow _ _ _ _ _ _ _ HX3.out, setRow_heap _ _ _ _ _ _ HX3.out]
          rfl)
        have O5 := hid ((Below.heap_setCell w3 ⟨tb, 0, none⟩ (.slice a3 L c3) ob hot).trans ((L3.out.block _ (Nat.lt_of_lt_of_le (lt_blk HXO.out) L2.out.size)).trans ((L2.out.block _ (lt_blk HXO.out)).trans HXO.out)))
        have B5 := hid ((bchS HBV.out (bchS L2.out L3.out)).setCell (p := ⟨tb, 0, none⟩) HWT.out (.slice a3 L c3))
        clear y0 y2 y3 f3 hlt2
        generalize w3.setCell ⟨tb, 0, none⟩ (.slice a3 L c3) = W5 at *
        have ⟨o0, o1⟩ := cellsW O5.out
        go_upto_region 10 with (go_at_call 11; refine (HRK.out _ (HT.out.low B5.out).pl).mono ?_; rintro e w6 ⟨v6, f6, rfl, l6, hr6⟩; obtain ⟨fc, fi, fz, rfl⟩ := hr6.form; have R6 := hid hr6; have L6 := hid l6; clear l6 hr6)
        have HB6 := hid (belowA w6 (.cells #[.int .i64 fc, .int .i64 fi, .int .i64 fz] 33))
        have HX6 := hid (heap_alloc_new w6 (.cells #[.int .i64 fc, .int .i64 fi, .int .i64 fz] 33))
        clear o0 o1
        have L7 := hid (bchS L6.out HB6.out)
        generalize w6.alloc (.cells #[.int .i64 fc, .int .i64 fi, .int .i64 fz] 33) = W7 at *
        have HFL := hid (show w6.heap.size < W7.heap.size from lt_blk HX6.out)
        have HFH := hid HX6.out
        have X7 := hid ((L7.out.block _ (lt_blk X5.out)).trans X5.out)
        have O7 := hid ((L7.out.block _ (lt_blk O5.out)).trans O5.out)
        have ⟨o0, o1⟩ := cellsW O7.out
        have y7 := cell_of_one X7.out
        have B7 := hid (bchS B5.out L7.out)
        go_upto_region 11 with (go_at_call 12; refine (HCK.out _ _ _ (P5.out.low L7.out).pl (HG.out.low B7.out)).mono ?_; rintro e w8 ⟨v8, ev8, rfl, l8, hr8⟩; have R8 := hid hr8; have L8 := hid l8; clear l8 hr8)
        obtain ⟨⟨m, ty, hm, t1, t2⟩, hif⟩ := ck_uni R8.out R6.out (bchS HB6.out L8.out)
        have TT1 := hid t1
        have TT2 := hid t2
        have HIF := hid hif
        have HX8 := hid ((L8.out.block _ HFL.out).trans HX6.out)
        clear t1 t2 hif o0 o1 y7
        generalize w6.heap.size = fb at *
        go_wp2_with (first
          | (go_at_call 13; refine (HST.out _ _ m ty _ TT1.out TT2.out (by omega)).mono ?_; rintro e w9 ⟨rfl, l9⟩; have L9 := hid l9; clear l9; have ⟨⟨z0, z1, z2⟩, _⟩ := rc3 ((L9.out.block _ (lt_blk HX8.out)).trans HX8.out))
          | (go_at_call 14; refine (HIF.out _ L9.out).mono ?_; rintro e w10 ⟨rfl, l10⟩; have L10 := hid l10; clear l10))
        refine ⟨⟨k + 1, HK1.out, by go_num, hid (bchS (bchS (bchS B7.out L8.out) L9.out) L10.out)⟩, ?_⟩
        have h3 := HK1.out
        simp [intOf]
        omega
      · have HSM := hid hsm
        clear hsm
        go_upto_region 9 with (go_at_call 9; refine (HSN.out _ (HT.out.low HBV.out).pl HSM.out).mono ?_; rintro e W5 ⟨rfl, l2⟩; have L2 := hid l2; clear l2)
        have P5 := hid (HT.out.low (bchS HBV.out L2.out))
        have X5 := hid ((L2.out.block _ (lt_blk HX1.out)).trans HX1.out)
        have O5 := hid ((L2.out.block _ (lt_blk HXO.out)).trans HXO.out)
        have B5 := hid (bchS HBV.out L2.out)
        clear y0
        have ⟨o0, o1⟩ := cellsW O5.out
        go_upto_region 10 with (go_at_call 11; refine (HRK.out _ (HT.out.low B5.out).pl).mono ?_; rintro e w6 ⟨v6, f6, rfl, l6, hr6⟩; obtain ⟨fc, fi, fz, rfl⟩ := hr6.form; have R6 := hid hr6; have L6 := hid l6; clear l6 hr6)
        have HB6 := hid (belowA w6 (.cells #[.int .i64 fc, .int .i64 fi, .int .i64 fz] 33))
        have HX6 := hid (heap_alloc_new w6 (.cells #[.int .i64 fc, .int .i64 fi, .int .i64 fz] 33))
        clear o0 o1
        have L7 := hid (bchS L6.out HB6.out)
        generalize w6.alloc (.cells #[.int .i64 fc, .int .i64 fi, .int .i64 fz] 33) = W7 at *
        have HFL := hid (show w6.heap.size < W7.heap.size from lt_blk HX6.out)
        have HFH := hid HX6.out
        have X7 := hid ((L7.out.block _ (lt_blk X5.out)).trans X5.out)
        have O7 := hid ((L7.out.block _ (lt_blk O5.out)).trans O5.out)
        have ⟨o0, o1⟩ := cellsW O7.out
        have y7 := cell_of_one X7.out
        have B7 := hid (bchS B5.out L7.out)
        go_upto_region 11 with (go_at_call 12; refine (HCK.out _ _ _ (P5.out.low L7.out).pl (HG.out.low B7.out)).mono ?_; rintro e w8 ⟨v8, ev8, rfl, l8, hr8⟩; have R8 := hid hr8; have L8 := hid l8; clear l8 hr8)
        obtain ⟨⟨m, ty, hm, t1, t2⟩, hif⟩ := ck_uni R8.out R6.out (bchS HB6.out L8.out)
        have TT1 := hid t1
        have TT2 := hid t2
        have HIF := hid hif
        have HX8 := hid ((L8.out.block _ HFL.out).trans HX6.out)
        clear t1 t2 hif o0 o1 y7
        generalize w6.heap.size = fb at *
        go_wp2_with (first
          | (go_at_call 13; refine (HST.out _ _ m ty _ TT1.out TT2.out (by omega)).mono ?_; rintro e w9 ⟨rfl, l9⟩; have L9 := hid l9; clear l9; have ⟨⟨z0, z1, z2⟩, _⟩ := rc3 ((L9.out.block _ (lt_blk HX8.out)).trans HX8.out))
          | (go_at_call 14; refine (HIF.out _ L9.out).mono ?_; rintro e w10 ⟨rfl, l10⟩; have L10 := hid l10; clear l10))
        refine ⟨⟨k + 1, HK1.out, by go_num, hid (bchS (bchS (bchS B7.out L8.out) L9.out) L10.out)⟩, ?_⟩
        have h3 := HK1.out
        simp [intOf]
        omega
    · obtain rfl : k = n := by omega
      go_wp2_with fail
      go_ret
      exact ⟨rfl, HB.out⟩
end Go.Proofs.YtiddnjjaidiohaaGreatDoor.L
