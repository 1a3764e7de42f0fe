import Derived.Test.YtfbagkajbnomoaaQ23
namespace Go.Proofs.Ytfbagkajbnomoaa.L
open Go.RowKit Rg Qu
set_option linter.unusedVariables false
set_option linter.unusedSimpArgs false
/-! The document's queue. -/
theorem rd_no {W : World} {B n : Nat} {e : TypeId} {a : Option Addr} {q c : Nat} {xs : List Value} (h : W.ownsRow B e 6 (.slice a q c) n xs) : a = none → c = 0 ∧ q = 0 := by
  intro ha
  subst ha
  rcases h.2 with ⟨e, _⟩ | ⟨g, cap, cur, e, _⟩
  · injection e with _ e1 e2
    exact ⟨e2, e1⟩
  · injection e with e
    cases e
set_option maxHeartbeats 2000000 in
/-- A copy. -/
theorem rows_any (l : List Wt) (a : Option Addr) (c : Nat) (w : World) (h : RdG wtV 6 w a l) (hno : a = none → c = 0 ∧ l.length = 0) (hl : l.length * 56 ≤ 140737488355328) :
    Calls Try.prog 28 #[.slice a l.length c] w fun e w' => ∃ v', e = .returned v' ∧ w'.ownsRow w.heap.size 40 6 v' l.length (rowX wtV l) ∧ Below w.heap.size w w' := by
  obtain ⟨i4, hi, hz0, hz1, hz2⟩ := info_parts infoW
  have HB1 := hid (belowA w (.cells #[] 40))
  have HO := hid (World.ownsRow_made (base := w.heap.size) (e := 40) (size := 6) w #[] 0 (Nat.le_refl _) (by unfold maxLen; omega) rfl)
  have HR := hid (h.low HB1.out)
  have HNO := hid hno
  have HN := hid (rowW_len l)
  obtain ⟨n, hn⟩ : ∃ n, n = l.length := ⟨_, rfl⟩
  rw [← hn] at hl HNO HN ⊢
  clear h hno hn
  go_enter Try.func28, Try.ntmps28
  go_wp2_with (refine wpl_app rfl _ _ 27 rfl w.heap.size 40 i4 _ 6 56 Try.underlying27 hi hz0 hz1 hz2 rfl (by decide) _ 0 [] rfl HO.out a n c (rowX wtV l) rfl HNO.out HN.out (rdg_news wtV_size (by decide) HR.out) (rowW_one l) (by unfold maxLen; omega) (by omega) HB1.out.size ?_)
  intro v' w' h2 h3
  have HB2 := hid (show Below w.heap.size w w' from ⟨h3.os, h3.tape, h3.output, Nat.le_trans HB1.out.size h3.size, fun j hj => (h3.block j (Nat.lt_of_lt_of_le hj HB1.out.size) (fun e => by
    have : j = w.heap.size := by injection e
    omega)).trans (HB1.out.block j hj)⟩)
  have H2 := hid h2
  clear h2 h3
  go_wp2_with fail
  go_ret
  exact ⟨v', by first | rfl | simp, H2.out, HB2.out⟩
set_option maxHeartbeats 2000000 in
/-- The place of a name, by the document. -/
theorem dfind_any (l : List Wt) (a : Option Addr) (c : Nat) (s : ByteArray) (w : World) (h : RdG wtV 6 w a l) (hl : l.length ≤ 140737488355328) :
    Calls Try.prog 53 #[.slice a l.length c, .string s] w fun e w' => e = .returned (.int .i64 (fndI s l)) ∧ w' = w := by
  have HR := hid h
  obtain ⟨n, hn⟩ : ∃ n, n = l.length := ⟨_, rfl⟩
  have HN := hid hn
  rw [← hn] at hl ⊢
  have hmax : n ≤ 9223372036854775807 := by omega
  clear h hn
  go_enter Try.func53, Try.ntmps53
  go_wp2_with fail
  go_loopw [5] (fun s8 wr => ∃ k : Nat, k ≤ n ∧ s8 = .int .i64 (k : Int) ∧ Hid (wr = w) ∧ Hid (∀ (j : Nat) (h : j < l.length), j < k → l[j].name.toList ≠ s.toList)) (fun i _ => n - (intOf i).toNat)
  case atStart => exact ⟨0, Nat.zero_le _, rfl, hid (by first | rfl | trivial), hid (fun j h hj => absurd hj (Nat.not_lt_zero j))⟩
  case round =>
    obtain ⟨k, hk, rfl, HW, HA⟩ := hrel
    have hW := HW.out.symm
    subst hW
    clear HW
    by_cases hlt : k < n
    · have g1 : (k : Int) < (n : Int) := by omega
      have g2 : (0 : Int) ≤ (k : Int) := by omega
      have hlt' : k < l.length := by rw [← HN.out]; exact hlt
      obtain ⟨b, off, hae, hbb, c0, _⟩ := cell_w HR.out hlt'
      subst hae
      obtain ⟨nm, hnm⟩ : ∃ s, s = (l[k]'hlt').name := ⟨_, rfl⟩
      rw [← hnm] at c0
      clear hbb
      by_cases hq : nm.toList = s.toList
      · have HF := hid (show fndI s l = (k : Int) from by
          have e : fnd s l = k := fnd_eq (Nat.le_of_lt hlt') (fun j hj => HA.out j (by omega) hj) (fun _ => by rw [← hnm]; exact hq)
          unfold fndI
          rw [e, if_pos hlt'])
        have hqb : (nm.toList == s.toList) = true := by simpa using hq
        clear hq hnm
        go_wp2_with fail
        go_ret
        exact ⟨by rw [HF.out]; rfl, by first | rfl | trivial⟩
      · have HF := hid (show ∀ (j : Nat) (h : j < l.length), j < k + 1 → l[j].name.toList ≠ s.toList from fun j h hj => by
          by_cases e : j = k
          · subst e; rw [← hnm]; exact hq
          · exact HA.out j h (by omega))
        have hqb : (nm.toList == s.toList) = false := by simpa using hq
        clear hq hnm
        go_wp2_with fail
        exact ⟨⟨k + 1, by omega, by go_num, hid (by first | rfl | trivial), HF⟩, by simp [intOf]; omega⟩
    · have g1 : ¬ (k : Int) < (n : Int) := by omega
      have HF := hid (show fndI s l = -1 from by
        have e : fnd s l = l.length := fnd_eq (Nat.le_refl _) (fun j hj => HA.out j hj (by have := HN.out; omega)) (fun h => absurd h (Nat.lt_irrefl _))
        unfold fndI
        rw [e, if_neg (Nat.lt_irrefl _)])
      go_wp2_with fail
      go_ret
      exact ⟨by rw [HF.out]; rfl, by first | rfl | trivial⟩
theorem dahead_any (a b : Wt) (w : World) : Calls Try.prog 52 #[.agg (wtV a), .agg (wtV b)] w fun e w' => e = .returned (.bool (decide (ahd a b))) ∧ Below w.heap.size w w' := by
  unfold wtV
  by_cases h0 : b.pr < a.pr
  · rw [show decide (ahd a b) = true by unfold ahd; simp [h0]]
    go_enter Try.func52, Try.ntmps52
    go_wp2
    go_ret
    exact ⟨by first | rfl | simp, bch (belowA _ _) (belowA _ _)⟩
  · by_cases h1 : a.pr = b.pr
    · rw [show decide (ahd a b) = decide (a.seq < b.seq) by unfold ahd; simp [h1]]
      go_enter Try.func52, Try.ntmps52
      go_wp2
      go_ret
      exact ⟨by first | rfl | simp, bch (belowA _ _) (belowA _ _)⟩
    · rw [show decide (ahd a b) = false by unfold ahd; simp [h0, h1]]
      go_enter Try.func52, Try.ntmps52
      go_wp2
      go_ret
      exact ⟨by first | rfl | simp, bch (belowA _ _) (belowA _ _)⟩
set_option maxHeartbeats 2000000 in
/-- The wait, doubled step by step. -/
theorem dwait_any (t : Int) (h0 : 1 ≤ t) (h1 : t ≤ 1099511627776) (w : World) : Calls Try.prog 54 #[.int .i64 t] w fun e w' => e = .returned (.int .i64 (wts t)) ∧ w' = w := by
  go_enter Try.func54, Try.ntmps54
  go_wp2_with fail
  go_loopw [3, 4] (fun s7 s8 wr => ∃ i x : Nat, 1 ≤ i ∧ s8 = .int .i64 (i : Int) ∧ s7 = .int .i64 (x : Int) ∧ x ≤ 64 ∧ Hid (x = 2 ^ (i - 1)) ∧ ((i : Int) ≤ t ∨ i = 1) ∧ Hid (wr = w)) (fun s _ _ => 64 - (intOf s).toNat)
  case atStart => exact ⟨1, 1, by omega, rfl, rfl, by omega, hid rfl, Or.inr rfl, hid (by first | rfl | trivial)⟩
  case round =>
    obtain ⟨i, x, hi, rfl, rfl, hx, HX, hm, HW⟩ := hrel
    have hW := HW.out.symm
    subst hW
    clear HW
    by_cases h : (i : Int) < t ∧ x < 64
    · obtain ⟨ha, hb⟩ := h
      have hb' : (x : Int) < 64 := by omega
      have hx32 : x ≤ 32 := by
        have e := HX.out
        have hi6 : i ≤ 6 := by
          apply Classical.byContradiction
          intro hn
          have : 2 ^ 6 ≤ 2 ^ (i - 1) := Nat.pow_le_pow_right (by decide) (by omega)
          omega
        have hc : i = 1 ∨ i = 2 ∨ i = 3 ∨ i = 4 ∨ i = 5 ∨ i = 6 := by omega
        rcases hc with rfl | rfl | rfl | rfl | rfl | rfl <;> (rw [e]; decide)
      have hx1 : 1 ≤ x := by rw [HX.out]; exact Nat.one_le_two_pow
      have gm : IntKind.i64.wrap (2 * (x : Int)) = ((2 * x : Nat) : Int) := by rw [IntKind.wrap_i64]; omega
      have ga : IntKind.i64.wrap ((i : Int) + 1) = ((i + 1 : Nat) : Int) := by rw [IntKind.wrap_i64]; omega
      have HX2 := hid (show 2 * x = 2 ^ (i + 1 - 1) from by rw [HX.out, Nat.add_sub_cancel, ← Nat.pow_succ', Nat.succ_eq_add_one, Nat.sub_add_cancel hi])
      go_wp2_with fail
      exact ⟨⟨i + 1, 2 * x, by omega, by go_num, by go_num, by omega, HX2, by omega, hid (by first | rfl | trivial)⟩, by simp [intOf]; omega⟩
    · have HF := hid (show ((x : Nat) : Int) = wts t from wts_loop t i x hi HX.out hx (by omega) hm)
      by_cases ha : (i : Int) < t
      · have hb' : ¬ (x : Int) < 64 := by omega
        go_wp2_with fail
        go_ret
        exact ⟨by rw [← HF.out]; rfl, by first | rfl | trivial⟩
      · go_wp2_with fail
        go_ret
        exact ⟨by rw [← HF.out]; rfl, by first | rfl | trivial⟩
end Go.Proofs.Ytfbagkajbnomoaa.L
