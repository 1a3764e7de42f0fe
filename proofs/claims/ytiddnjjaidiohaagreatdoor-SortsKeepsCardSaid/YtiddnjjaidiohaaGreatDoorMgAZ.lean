import Derived.Test.YtiddnjjaidiohaaGreatDoorMgAX
import Derived.Test.YtiddnjjaidiohaaGreatDoorMgAY
import Derived.Test.YtiddnjjaidiohaaGreatDoorApr
namespace Go.Proofs.YtiddnjjaidiohaaGreatDoor.L
open Go.RowKit
set_option linter.unusedVariables false
theorem RkR.form {T : List Pt} {sc : Int} {W : World} {v f : Value} (h : RkR T sc W v f) : ∃ c i z : Int, f = .agg #[.int .i64 c, .int .i64 i, .int .i64 z] := by
  rcases h with ⟨_, _, rfl⟩ | ⟨_, ⟨c, i, _, _, _, rfl⟩ | ⟨_, ⟨_, _, rfl⟩ | ⟨c, i, _, _, rfl⟩⟩⟩ <;> exact ⟨_, _, _, rfl⟩
/-- Both programs' answers are one. -/
theorem ck_uni {T : List Pt} {sc : Int} {B : Nat} {W W0 : World} {v ev v' f : Value} (hC : CkR T sc B W v ev) (hR : RkR T sc W0 v' f) (hb : Below W0.heap.size W0 W) :
    (∃ (n : Nat) (ty : Nat → Int × Int), n ≤ 1000 ∧ TyL W v n ty ∧ TyL W v' n ty) ∧ (∀ W2, Below W.heap.size W W2 → Calls Tryz.prog 14 #[ev, f] W2 fun e w' => e = .returned (.bool true) ∧ Below W2.heap.size W2 w') := by
  have nil2 : ∃ (n : Nat) (ty : Nat → Int × Int), n ≤ 1000 ∧ TyL W (.slice none 0 0) n ty ∧ TyL W (.slice none 0 0) n ty := ⟨0, fun _ => (0, 0), by omega, tyl_nil _ _, tyl_nil _ _⟩
  rcases hC with ⟨rfl, hs, hr, gt, rfl, hn, hty⟩ | ⟨rfl, N, rfl, hf⟩
  · rcases hR with ⟨⟨h2, h3⟩, _⟩ | ⟨_, ⟨c, i, hr2, h0, _⟩ | ⟨_, ⟨_, ht, rfl⟩ | ⟨c, i, ho, _⟩⟩⟩
    · rcases hs with h | h
      · exact absurd h h2
      · exact absurd h h3
    · exact absurd (res_one hr2 hr).1 h0
    · obtain ⟨_, h2, _⟩ := res_ok hr
      exact ⟨⟨T.length, (ovS T sc).1, h2, hty.tyl, ht.low hb⟩, fun W2 _ => isf_nil 0 0 W2⟩
    · rw [hn] at ho; cases ho
  · rcases hf with ⟨⟨h2, h3⟩, hf⟩ | ⟨hs, ⟨M, c, i, hf, hf2, hr, h0⟩ | ⟨hr, c, a1, ho, hf⟩⟩
    · rcases hR with ⟨_, rfl, rfl⟩ | ⟨hs, _⟩
      · exact ⟨nil2, fun W2 hb2 => isf_flt N 149 (-1) W2 (hf.low hb2) (by decide)⟩
      · rcases hs with h | h
        · exact absurd h h2
        · exact absurd h h3
    · rcases hR with ⟨⟨h2, h3⟩, _⟩ | ⟨_, ⟨c', i', hr2, h0', rfl, rfl⟩ | ⟨hr2, _⟩⟩
      · rcases hs with h | h
        · exact absurd h h2
        · exact absurd h h3
      · obtain ⟨e1, e2⟩ := res_one hr hr2
        subst e1 e2
        exact ⟨nil2, fun W2 hb2 => isf_tree N M c i W2 (hf.low hb2) (hf2.low hb2) h0⟩
      · exact absurd (res_one hr hr2).1 h0
    · rcases hR with ⟨⟨h2, h3⟩, _⟩ | ⟨_, ⟨c', i', hr2, h0', _⟩ | ⟨_, ⟨hn, _⟩ | ⟨c', i', ho2, rfl, rfl⟩⟩⟩
      · rcases hs with h | h
        · exact absurd h h2
        · exact absurd h h3
      · exact absurd (res_one hr2 hr).1 h0'
      · rw [hn] at ho; cases ho
      · rw [ho] at ho2
        cases ho2
        have := ovS_cd hr ho
        exact ⟨nil2, fun W2 hb2 => isf_flt N c a1 W2 (hf.low hb2) (by omega)⟩
end Go.Proofs.YtiddnjjaidiohaaGreatDoor.L
namespace Go.Proofs.YtiddnjjaidiohaaGreatDoor.L
open Go.RowKit
set_option linter.unusedVariables false
/-- A script of trees and scopes, to be read. -/
def ItO (W : World) (a : Option Addr) (os : List (List Pt × Int)) : Prop := os.length = 0 ∨ ∃ b off, a = some ⟨b, off, none⟩ ∧ b < W.heap.size ∧ ∀ j, j < os.length → ∃ ta tc,
  W.cell? ⟨b, off + j * 2, none⟩ = some (.slice ta (os.getD j ([], 0)).1.length tc) ∧ W.cell? ⟨b, off + j * 2 + 1, none⟩ = some (.int .i64 (os.getD j ([], 0)).2) ∧ PLs W ta (os.getD j ([], 0)).1 ∧ GdT (os.getD j ([], 0)).1
set_option maxHeartbeats 16000000 in
set_option maxRecDepth 100000 in
theorem sortschecks_any (a : Option Addr) (os : List (List Pt × Int)) (cap : Nat) (w : World) (hO : ItO w a os) (hl : os.length ≤ 140737488355328) (hg : Gv w) :
    Calls Tryz.prog 3 #[.slice a os.length cap] w fun e w' => e = .returned (.bool true) ∧ Below w.heap.size w w' := by
  have HG := hid hg
  have HO := hid hO
  have HFX := hid (fixed_any _ hg)
  have HST := hid same_types
  obtain ⟨n, hn⟩ : ∃ n, n = os.length := ⟨_, rfl⟩
  have HN := hid hn
  rw [← hn] at hl ⊢
  clear hO hg hn
  go_enter Tryz.func3, Tryz.ntmps3
  go_upto_region 3 with (go_at_call 8; refine HFX.out.mono ?_; rintro e w1 ⟨rfl, l1⟩; have L1 := hid l1; clear l1)
  go_wp2_with fail
  go_loopw [14] (fun i wr => ∃ k : Nat, k ≤ n ∧ i = .int .i64 (k : Int) ∧ Hid (Below w.heap.size w wr)) (fun i _ => n - (intOf i).toNat)
  case atStart => exact ⟨0, Nat.zero_le _, rfl, L1⟩
  case round =>
    obtain ⟨k, hk, rfl, HB⟩ := hrel
    by_cases hkn : k < n
    · rcases HO.out with h0 | ⟨b, off, rfl, hb, hc⟩
      · have := HN.out; omega
      obtain ⟨ta, tc, c0, c1, hT, hG⟩ := hc k (by rw [← HN.out]; exact hkn)
      replace c0 := (HB.out.cell (p := ⟨b, off + k * 2, none⟩) hb).trans c0
      replace c1 := (HB.out.cell (p := ⟨b, off + k * 2 + 1, none⟩) hb).trans c1
      obtain ⟨T, hTe⟩ : ∃ T, T = (os.getD k ([], 0)).1 := ⟨_, rfl⟩
      obtain ⟨sc, hsc⟩ : ∃ sc, sc = (os.getD k ([], 0)).2 := ⟨_, rfl⟩
      rw [← hTe] at c0 hT hG
      rw [← hsc] at c1
      obtain ⟨L, hL⟩ : ∃ L, L = T.length := ⟨_, rfl⟩
      rw [← hL] at c0
      have HL := hid hL
      have HT := hid hT
      have HSY := hid (fun W h1 h2 => small_yes ta T tc W h1 hG h2)
      have HSN := hid (fun W h1 h2 => small_no ta T tc W h1 hG h2)
      have HCP := hid (fun W h1 h2 => copied_any ta T tc W h1 hG h2)
      have HCK := hid (fun a' cap' W h1 h2 => check_any a' T cap' sc W h1 hG h2)
      have HRK := hid (fun W h1 => rcheck_any ta T tc sc W h1 hG)
      rw [← hL] at HSY HSN HCP HCK HRK
      have g1 : (k : Int) < (n : Int) := by omega
      have g2 : (0 : Int) ≤ (k : Int) := by omega
      have g3 : ((k : Int) * 2).toNat = k * 2 := by omega
      have HK1 := hid (show k + 1 ≤ n by omega)
      have HB0 := hid (belowA wr (.cells #[.slice ta L tc, .int .i64 sc] 28))
      have HX0 := hid (heap_alloc_new wr (.cells #[.slice ta L tc, .int .i64 sc] 28))
      clear hc hTe hsc hL hT hG
      go_upto_region 6 with (fail)
      clear c0 c1 hb
      have HBA := hid (bchS HB.out HB0.out)
      generalize wr.alloc (.cells #[.slice ta L tc, .int .i64 sc] 28) = A at *
      generalize wr.heap.size = ob at *
      have ⟨x0, x1⟩ := cellsW HX0.out
      have HB1 := hid (belowA A (.cells #[.slice ta L tc] 26))
      have HX1 := hid (heap_alloc_new A (.cells #[.slice ta L tc] 26))
      go_upto_region 7 with (fail)
      clear x0 x1
      have HXO := hid ((HB1.out.block _ (lt_blk HX0.out)).trans HX0.out)
      have HBV := hid (bchS HBA.out HB1.out)
      have hot : ob ≠ A.heap.size := Nat.ne_of_lt (lt_blk HX0.out)
      generalize A.alloc (.cells #[.slice ta L tc] 26) = V at *
      have HWT := hid (show w.heap.size ≤ A.heap.size from HBA.out.size)
      generalize A.heap.size = tb at *
      have y0 := cell_of_one HX1.out
      by_cases hsm : sumK T L ≤ 100000
      · have HSM := hid hsm
        clear hsm
        go_upto_region 9 with (first
          | (go_at_call 9; refine (HSY.out _ (HT.out.low HBV.out).pl HSM.out).mono ?_; rintro e w2 ⟨rfl, l2⟩; have L2 := hid l2; clear l2; have HX2 := hid ((L2.out.block _ (lt_blk HX1.out)).trans HX1.out); have y2 := cell_of_one HX2.out)
          | (go_at_call 10; refine (HCP.out _ (HT.out.low (bchS HBV.out L2.out)) HSM.out).mono ?_; rintro e w3 ⟨a3, c3, ks3, rfl, p3, l3⟩; have P3 := hid p3; have L3 := hid l3; clear p3 l3; have HX3 := hid ((L3.out.block _ (lt_blk HX2.out)).trans HX2.out); have y3 := cell_of_one HX3.out; have f3 : w3.frozen? ⟨tb, 0, none⟩ = false := by simp [World.frozen?, HX3.out]))
        have hlt2 : tb < w2.heap.size := lt_blk HX2.out
        have P5 := hid (show PLs (w3.setCell ⟨tb, 0, none⟩ (.slice a3 L c3)) a3 T by
          have h := P3.out.set_low (p := ⟨tb, 0, none⟩) hlt2 (.slice a3 L c3)
          rw [HL.out] at h
          obtain ⟨a4, c4, e4, hp⟩ := h.pl
          cases e4
          rw [HL.out]
          exact hp)
        have X5 := hid (show (w3.setCell ⟨tb, 0, none⟩ (.slice a3 L c3)).heap[tb]? = some (.cells #[.slice a3 L c3] 26 (0, 0)) by
          rw [setCell_eq_setRow _ _ _ _ _ _ _ HX3.out, setRow_heap _ _ _ _ _ _ HX3.out]
          rfl)
        have O5 := hid ((Below.heap_setCell w3 ⟨tb, 0, none⟩ (.slice a3 L c3) ob hot).trans ((L3.out.block _ (Nat.lt_of_lt_of_le (lt_blk HXO.out) L2.out.size)).trans ((L2.out.block _ (lt_blk HXO.out)).trans HXO.out)))
        have B5 := hid ((bchS HBV.out (bchS L2.out L3.out)).setCell (p := ⟨tb, 0, none⟩) HWT.out (.slice a3 L c3))
        clear y0 y2 y3 f3 hlt2
        generalize w3.setCell ⟨tb, 0, none⟩ (.slice a3 L c3) = W5 at *
        have ⟨o0, o1⟩ := cellsW O5.out
        go_upto_region 10 with (go_at_call 11; refine (HRK.out _ (HT.out.low B5.out).pl).mono ?_; rintro e w6 ⟨v6, f6, rfl, l6, hr6⟩; obtain ⟨fc, fi, fz, rfl⟩ := hr6.form; have R6 := hid hr6; have L6 := hid l6; clear l6 hr6)
        have HB6 := hid (belowA w6 (.cells #[.int .i64 fc, .int .i64 fi, .int .i64 fz] 33))
        have HX6 := hid (heap_alloc_new w6 (.cells #[.int .i64 fc, .int .i64 fi, .int .i64 fz] 33))
        clear o0 o1
        have L7 := hid (bchS L6.out HB6.out)
        generalize w6.alloc (.cells #[.int .i64 fc, .int .i64 fi, .int .i64 fz] 33) = W7 at *
        have HFL := hid (show w6.heap.size < W7.heap.size from lt_blk HX6.out)
        have HFH := hid HX6.out
        have X7 := hid ((L7.out.block _ (lt_blk X5.out)).trans X5.out)
        have O7 := hid ((L7.out.block _ (lt_blk O5.out)).trans O5.out)
        have ⟨o0, o1⟩ := cellsW O7.out
        have y7 := cell_of_one X7.out
        have B7 := hid (bchS B5.out L7.out)
        go_upto_region 11 with (go_at_call 12; refine (HCK.out _ _ _ (P5.out.low L7.out).pl (HG.out.low B7.out)).mono ?_; rintro e w8 ⟨v8, ev8, rfl, l8, hr8⟩; have R8 := hid hr8; have L8 := hid l8; clear l8 hr8)
        obtain ⟨⟨m, ty, hm, t1, t2⟩, hif⟩ := ck_uni R8.out R6.out (bchS HB6.out L8.out)
        have TT1 := hid t1
        have TT2 := hid t2
        have HIF := hid hif
        have HX8 := hid ((L8.out.block _ HFL.out).trans HX6.out)
        clear t1 t2 hif o0 o1 y7
        generalize w6.heap.size = fb at *
        go_wp2_with (first
          | (go_at_call 13; refine (HST.out _ _ m ty _ TT1.out TT2.out (by omega)).mono ?_; rintro e w9 ⟨rfl, l9⟩; have L9 := hid l9; clear l9; have ⟨⟨z0, z1, z2⟩, _⟩ := rc3 ((L9.out.block _ (lt_blk HX8.out)).trans HX8.out))
          | (go_at_call 14; refine (HIF.out _ L9.out).mono ?_; rintro e w10 ⟨rfl, l10⟩; have L10 := hid l10; clear l10))
        refine ⟨⟨k + 1, HK1.out, by go_num, hid (bchS (bchS (bchS B7.out L8.out) L9.out) L10.out)⟩, ?_⟩
        have h3 := HK1.out
        simp [intOf]
        omega
      · have HSM := hid hsm
        clear hsm
        go_upto_region 9 with (go_at_call 9; refine (HSN.out _ (HT.out.low HBV.out).pl HSM.out).mono ?_; rintro e W5 ⟨rfl, l2⟩; have L2 := hid l2; clear l2)
        have P5 := hid (HT.out.low (bchS HBV.out L2.out))
        have X5 := hid ((L2.out.block _ (lt_blk HX1.out)).trans HX1.out)
        have O5 := hid ((L2.out.block _ (lt_blk HXO.out)).trans HXO.out)
        have B5 := hid (bchS HBV.out L2.out)
        clear y0
        have ⟨o0, o1⟩ := cellsW O5.out
        go_upto_region 10 with (go_at_call 11; refine (HRK.out _ (HT.out.low B5.out).pl).mono ?_; rintro e w6 ⟨v6, f6, rfl, l6, hr6⟩; obtain ⟨fc, fi, fz, rfl⟩ := hr6.form; have R6 := hid hr6; have L6 := hid l6; clear l6 hr6)
        have HB6 := hid (belowA w6 (.cells #[.int .i64 fc, .int .i64 fi, .int .i64 fz] 33))
        have HX6 := hid (heap_alloc_new w6 (.cells #[.int .i64 fc, .int .i64 fi, .int .i64 fz] 33))
        clear o0 o1
        have L7 := hid (bchS L6.out HB6.out)
        generalize w6.alloc (.cells #[.int .i64 fc, .int .i64 fi, .int .i64 fz] 33) = W7 at *
        have HFL := hid (show w6.heap.size < W7.heap.size from lt_blk HX6.out)
        have HFH := hid HX6.out
        have X7 := hid ((L7.out.block _ (lt_blk X5.out)).trans X5.out)
        have O7 := hid ((L7.out.block _ (lt_blk O5.out)).trans O5.out)
        have ⟨o0, o1⟩ := cellsW O7.out
        have y7 := cell_of_one X7.out
        have B7 := hid (bchS B5.out L7.out)
        go_upto_region 11 with (go_at_call 12; refine (HCK.out _ _ _ (P5.out.low L7.out).pl (HG.out.low B7.out)).mono ?_; rintro e w8 ⟨v8, ev8, rfl, l8, hr8⟩; have R8 := hid hr8; have L8 := hid l8; clear l8 hr8)
        obtain ⟨⟨m, ty, hm, t1, t2⟩, hif⟩ := ck_uni R8.out R6.out (bchS HB6.out L8.out)
        have TT1 := hid t1
        have TT2 := hid t2
        have HIF := hid hif
        have HX8 := hid ((L8.out.block _ HFL.out).trans HX6.out)
        clear t1 t2 hif o0 o1 y7
        generalize w6.heap.size = fb at *
        go_wp2_with (first
          | (go_at_call 13; refine (HST.out _ _ m ty _ TT1.out TT2.out (by omega)).mono ?_; rintro e w9 ⟨rfl, l9⟩; have L9 := hid l9; clear l9; have ⟨⟨z0, z1, z2⟩, _⟩ := rc3 ((L9.out.block _ (lt_blk HX8.out)).trans HX8.out))
          | (go_at_call 14; refine (HIF.out _ L9.out).mono ?_; rintro e w10 ⟨rfl, l10⟩; have L10 := hid l10; clear l10))
        refine ⟨⟨k + 1, HK1.out, by go_num, hid (bchS (bchS (bchS B7.out L8.out) L9.out) L10.out)⟩, ?_⟩
        have h3 := HK1.out
        simp [intOf]
        omega
    · obtain rfl : k = n := by omega
      go_wp2_with fail
      go_ret
      exact ⟨rfl, HB.out⟩
end Go.Proofs.YtiddnjjaidiohaaGreatDoor.L
namespace Go.Proofs.YtiddnjjaidiohaaGreatDoor.L.Kp
open Go.RowKit Go.Shelf
set_option linter.unusedVariables false
abbrev Ty2 : Type := Int × Int
def mk9 (j i : Nat) : Ty2 := (100 + (j : Int), (i : Int))
def mk8 (j i : Nat) : Ty2 := (91, 0)
def mk7 (j : Nat) : Ty2 := (200 + (j : Int), 0)
def w9 (j m : Nat) : List Ty2 := (List.range m).map (mk9 j)
def w8 (j m : Nat) : List Ty2 := (List.range m).map (mk8 j)
theorem w9_len (j m : Nat) : (w9 j m).length = m := by simp [w9]
theorem w8_len (j m : Nat) : (w8 j m).length = m := by simp [w8]
theorem w9_succ (j m : Nat) : w9 j (m + 1) = w9 j m ++ [mk9 j m] := by simp [w9, List.range_succ]
theorem w8_succ (j m : Nat) : w8 j (m + 1) = w8 j m ++ [mk8 j m] := by simp [w8, List.range_succ]
def tk (l : List Ty2) (i : Nat) : Ty2 := l.getD i (0, 0)
theorem w9_get (j m i : Nat) (h : i < m) : tk (w9 j m) i = mk9 j i := by
  unfold tk w9
  rw [List.getD_eq_getElem?_getD, List.getElem?_map, List.getElem?_range h]
  rfl
/-- The list while it is written over. -/
def mix (T : List Ty2) (j i : Nat) : List Ty2 := w9 j i ++ T.drop i
theorem mix_len (T : List Ty2) (j i : Nat) (h : i ≤ T.length) : (mix T j i).length = T.length := by
  unfold mix
  rw [List.length_append, w9_len, List.length_drop]
  omega
theorem mix_zero (T : List Ty2) (j : Nat) : mix T j 0 = T := rfl
theorem mix_all (T : List Ty2) (j : Nat) : mix T j T.length = w9 j T.length := by
  unfold mix
  rw [List.drop_length, List.append_nil]
theorem mix_set (T : List Ty2) (j i : Nat) (h : i < T.length) : (mix T j i).set i (mk9 j i) = mix T j (i + 1) := by
  unfold mix
  rw [w9_succ, List.set_append_right _ _ (by rw [w9_len]; exact Nat.le_refl _), w9_len, Nat.sub_self, List.drop_eq_getElem_cons h, List.append_assoc]
  rfl
/-- Two cells written into a row. -/
def putT (W : World) (g o : Nat) (t : Ty2) : World := (W.setCell ⟨g, o, none⟩ (.int .i64 t.1)).setCell ⟨g, o + 1, none⟩ (.int .i64 t.2)
theorem grown_trans {A B C : World} {g : Option Nat} (h : A.grownBy B g) (k : B.grownBy C g) : A.grownBy C g := ⟨k.os.trans h.os, k.tape.trans h.tape, k.output.trans h.output, Nat.le_trans h.size k.size, fun j hj hn => (k.block j (Nat.lt_of_lt_of_le hj h.size) hn).trans (h.block j hj hn)⟩
theorem putT_grown (W : World) (g o : Nat) (t : Ty2) : W.grownBy (putT W g o t) (some g) :=
  grown_trans (Ap.grown_set W g o _) (Ap.grown_set _ g (o + 1) _)
theorem putT_block (W : World) (g o : Nat) (t : Ty2) (cur : Array Value) (ty : TypeId) (h : W.heap[g]? = some (.cells cur ty (0, 0))) :
    (putT W g o t).heap[g]? = some (.cells ((cur.setIfInBounds o (.int .i64 t.1)).setIfInBounds (o + 1) (.int .i64 t.2)) ty (0, 0)) :=
  Ap.set_block _ (Ap.set_block _ h)
theorem cellsT_set : ∀ (l : List Ty2) (i : Nat) (t : Ty2), i < l.length → cellsT2 (l.set i t) = (((cellsT2 l).set (i * 2) (.int .i64 t.1)).set (i * 2 + 1) (.int .i64 t.2))
  | [], i, t, h => by simp at h
  | x :: r, 0, t, h => rfl
  | x :: r, i + 1, t, h => by
    have ih := cellsT_set r i t (by simpa using h)
    have e1 : cellsT2 (x :: r) = [Value.int .i64 x.1, .int .i64 x.2] ++ cellsT2 r := rfl
    have e2 : cellsT2 ((x :: r).set (i + 1) t) = [Value.int .i64 x.1, .int .i64 x.2] ++ cellsT2 (r.set i t) := rfl
    rw [e2, ih, e1]
    have sh : ∀ (m : List Value) (j : Nat) (v : Value), ([Value.int .i64 x.1, .int .i64 x.2] ++ m).set ((i + 1) * 2 + j) v = [Value.int .i64 x.1, .int .i64 x.2] ++ m.set (i * 2 + j) v := by
      intro m j v
      rw [List.set_append_right _ _ (by simp; omega)]
      congr 2
      simp
      omega
    have s0 := sh (cellsT2 r) 0 (.int .i64 t.1)
    rw [Nat.add_zero, Nat.add_zero] at s0
    rw [s0, sh]
    rfl
theorem OwT.put {W : World} {base g cap i : Nat} {l : List Ty2} (t : Ty2) (h : OwT W base (.slice (some ⟨g, 0, none⟩) l.length cap) l) (hi : i < l.length) : OwT (putT W g (i * 2) t) base (.slice (some ⟨g, 0, none⟩) l.length cap) (l.set i t) := by
  obtain ⟨h1, h2⟩ := h
  rcases h2 with ⟨e, _⟩ | ⟨g', cap', cur, e, hb, hg, h3, h4, h5, h6⟩
  · cases e
  · cases e
    refine ⟨by rw [cT_len], .inr ⟨g, cap, _, by rw [List.length_set], hb, putT_block W g (i * 2) t cur _ hg, by rw [List.length_set]; exact h3, h4, by simp; exact h5, ?_⟩⟩
    rw [List.length_set, cellsT_set l i t hi, ← h6]
    simp only [Array.toList_setIfInBounds]
    have tk : ∀ (m : List Value) (j : Nat) (v : Value), (m.set j v).take (l.length * 2) = (m.take (l.length * 2)).set j v := fun m j v => List.take_set ..
    rw [tk, tk]
theorem row_lt {W : World} {b s n : Nat} {e : TypeId} {v : Value} {xs : List Value} (h : W.ownsRow b e s v n xs) {k : Nat} (hk : v.ownBlock = some k) : b ≤ k ∧ k < W.heap.size := by
  rcases h.2 with ⟨rfl, _⟩ | ⟨g, cap, cur, rfl, hb, hg, _⟩
  · cases hk
  · cases hk
    exact ⟨hb, lt_blk hg⟩
theorem grown_below {W W' : World} {row : Option Nat} {B : Nat} (h : W.grownBy W' row) (hB : B ≤ W.heap.size) (hr : ∀ k, row = some k → B ≤ k) : Below B W W' :=
  ⟨h.os, h.tape, h.output, h.size, fun k hk => h.block k (by omega) (fun e => by have := hr k e.symm; omega)⟩
theorem row_low {W W' : World} {b s n : Nat} {e : TypeId} {v : Value} {xs : List Value} (h : W.ownsRow b e s v n xs) (hk : Below W.heap.size W W') : W'.ownsRow b e s v n xs :=
  World.ownsRow.kept (row := none) h ⟨hk.os, hk.tape, hk.output, hk.size, fun k hkl _ => hk.block k hkl⟩ (by cases v.ownBlock <;> simp)
theorem OwT.lst {W : World} {base : Nat} {v : Value} {l : List Ty2} (h : OwT W base v l) : ∃ a cap, v = .slice a l.length cap ∧ (l.length = 0 ∨ ∃ b, a = some ⟨b, 0, none⟩ ∧ b < W.heap.size ∧ ∀ k, k < l.length → W.cell? ⟨b, k * 2, none⟩ = some (.int .i64 (tk l k).1) ∧ W.cell? ⟨b, k * 2 + 1, none⟩ = some (.int .i64 (tk l k).2)) := by
  rcases h.2 with ⟨e, n0⟩ | ⟨g, cap, cur, e, hb, hg, h3, h4, h5, h6⟩
  · exact ⟨none, 0, by rw [e, n0], .inl n0⟩
  · refine ⟨_, _, e, .inr ⟨g, rfl, lt_blk hg, fun k hk => ?_⟩⟩
    have ⟨c1, c2⟩ := cT_at l k hk
    have one : ∀ j u, j < l.length * 2 → (cellsT2 l)[j]? = some u → W.cell? ⟨g, j, none⟩ = some u := by
      intro j u hj hu
      rw [← h6, List.getElem?_take_of_lt hj] at hu
      rw [cell_of_row W g j _ _ _ hg]
      simpa using hu
    exact ⟨one _ _ (by omega) c1, one _ _ (by omega) c2⟩
end Go.Proofs.YtiddnjjaidiohaaGreatDoor.L.Kp
