import Derived.Test.YtkagdmhijjfnnabDoorLeaf
import Derived.RegionTactic
import Derived.BigRegion
namespace Go.Proofs.YtkagdmhijjfnnabDoor
open Go.RowKit Bs
set_option maxHeartbeats 400000 in
theorem has_no (p n : Nat) (i : Int) (w : World) (hc : w.cell? ⟨p, 0, none⟩ = some (.int .i64 n)) (h : ¬ (0 ≤ i ∧ i < n)) : Calls Tryd.prog 9 #[.pointer (some ⟨p, 0, none⟩), .int .i64 i] w fun e w' => e = .returned (.bool false) ∧ ∃ k, w' = w.drewN k := by
  have H : Hid (¬ (0 ≤ i ∧ i < n)) := h
  clear h
  go_enter Tryd.func9, Tryd.ntmps9
  go_wp2_with fail
  go_quiet ((go_at_call 44; exact Calls.quiet_of_same (inside_no p n i _ (by simpa using hc) H.out)))
  go_wp2
  go_ret
  exact ⟨rfl, _, rfl⟩
set_option maxHeartbeats 400000 in
theorem has_core (p q n k j r x L : Nat) (w : World) (hc0 : w.cell? ⟨p, 0, none⟩ = some (.int .i64 n)) (hc1 : w.cell? ⟨p, 1, none⟩ = some (.slice (some ⟨q, 0, none⟩) L L))
    (hw : w.cell? ⟨q, j, none⟩ = some (.int .u64 x)) (hk : (k : Int) < n) (hj : (j : Int) < L) (e1 : IntKind.i64.wrap ((k : Int) / 64) = j) (e2 : (k : Int).tmod 64 = r) :
    Calls Tryd.prog 9 #[.pointer (some ⟨p, 0, none⟩), .int .i64 k] w fun e w' => e = .returned (.bool (bits .and .u64 x (IntKind.u64.wrap (2 ^ min r 64)) != 0)) ∧ ∃ k, w' = w.drewN k := by
  go_enter Tryd.func9, Tryd.ntmps9
  go_wp2_with fail
  go_quiet ((go_at_call 44; exact Calls.quiet_of_same (inside_yes p n k _ (by simpa using hc0) (by omega) (by omega))))
  go_wp2
  go_ret
  exact ⟨rfl, _, rfl⟩
theorem idx_div (k : Nat) (h : k ≤ 65536) : IntKind.i64.wrap ((k : Int) / 64) = ((k / 64 : Nat) : Int) := by rw [IntKind.wrap_i64]; omega
theorem idx_mod (k : Nat) : (k : Int).tmod 64 = ((k % 64 : Nat) : Int) := by rw [Int.tmod_eq_emod_of_nonneg (by omega)]; omega
theorem wrap_pow (r : Nat) (h : r < 64) : IntKind.u64.wrap (2 ^ r) = ((2 ^ r : Nat) : Int) := by
  have := pow_lt64 r h
  rw [IntKind.wrap_u64, pow_cast]; omega
theorem test_bit (x r : Nat) (hx : x < 18446744073709551616) (hr : r < 64) : (bits .and .u64 (x : Int) (IntKind.u64.wrap (2 ^ r)) != 0) = x.testBit r := by
  have := pow_lt64 r hr
  rw [wrap_pow r hr, u64_and_nat x (2 ^ r) hx (by omega)]
  rw [Bool.eq_iff_iff, bne_iff_ne, nat_bit, Nat.testBit_eq_decide_div_mod_eq]
  have h2 : x / 2 ^ r % 2 < 2 := Nat.mod_lt _ (by decide)
  rcases Nat.lt_or_ge (x / 2 ^ r % 2) 1 with h | h
  · have e : x / 2 ^ r % 2 = 0 := by omega
    simp [e]
  · have e : x / 2 ^ r % 2 = 1 := by omega
    simp [e]
    exact_mod_cast Nat.pos_iff_ne_zero.1 (Nat.two_pow_pos r)
theorem has_yes (p q n k : Nat) (ws : List Nat) (w : World) (h : IsSet w p q n ws) (hk : k < n) : Calls Tryd.prog 9 #[.pointer (some ⟨p, 0, none⟩), .int .i64 k] w fun e w' => e = .returned (.bool (mem ws k)) ∧ ∃ k, w' = w.drewN k := by
  have hl := h.hl
  have hn := h.hn
  unfold nw at hl
  have hj : k / 64 < ws.length := by omega
  refine (has_core p q n k (k / 64) (k % 64) (ws.getD (k / 64) 0) ws.length w h.c0 h.c1 (h.cw _ hj) (by omega) (by omega) (idx_div k (by omega)) (idx_mod k)).mono ?_
  rintro e w' ⟨rfl, hw⟩
  refine ⟨ret_bool ?_, hw⟩
  rw [show min (k % 64) 64 = k % 64 by omega, test_bit _ _ (h.wd.getD _) (by omega)]; rfl
theorem Chg.drewSet {a : Nat} {w : World} (m o : Nat) (v : Value) : Chg a w ((w.drewN m).setCell ⟨a, o, none⟩ v) :=
  ⟨rfl, rfl, rfl, by simp, fun k _ hk => heap_setCell_other _ _ _ _ hk⟩
set_option maxHeartbeats 1000000 in
theorem add_core (p q n k j r x L : Nat) (w : World) (hc0 : w.cell? ⟨p, 0, none⟩ = some (.int .i64 n)) (hc1 : w.cell? ⟨p, 1, none⟩ = some (.slice (some ⟨q, 0, none⟩) L L))
    (hw : w.cell? ⟨q, j, none⟩ = some (.int .u64 x)) (hf : w.frozen? ⟨q, j, none⟩ = false) (hk : (k : Int) < n) (hj : (j : Int) < L) (e1 : IntKind.i64.wrap ((k : Int) / 64) = j) (_e1' : wrap64 ((k : Int) / 64) = j) (e2 : (k : Int).tmod 64 = r)
    (hh : ∀ W, W.cell? ⟨p, 0, none⟩ = some (.int .i64 n) → W.cell? ⟨p, 1, none⟩ = some (.slice (some ⟨q, 0, none⟩) L L) → W.cell? ⟨q, j, none⟩ = some (.int .u64 x) → Calls Tryd.prog 9 #[.pointer (some ⟨p, 0, none⟩), .int .i64 k] W fun e w' => e = .returned (.bool false) ∧ ∃ k, w' = W.drewN k) :
    Calls Tryd.prog 14 #[.pointer (some ⟨p, 0, none⟩), .int .i64 k] w fun e w' => e = .returned (.bool true) ∧ Chg q w w' ∧ w'.heap[q]? = (w.setCell ⟨q, j, none⟩ (.int .u64 (bits .or .u64 x (IntKind.u64.wrap (2 ^ min r 64))))).heap[q]? := by
  have HH : Hid (∀ W, W.cell? ⟨p, 0, none⟩ = some (.int .i64 n) → W.cell? ⟨p, 1, none⟩ = some (.slice (some ⟨q, 0, none⟩) L L) → W.cell? ⟨q, j, none⟩ = some (.int .u64 x) → Calls Tryd.prog 9 #[.pointer (some ⟨p, 0, none⟩), .int .i64 k] W fun e w' => e = .returned (.bool false) ∧ ∃ k, w' = W.drewN k) := hh
  clear hh
  go_enter Tryd.func14, Tryd.ntmps14
  go_wp2_with (first | (go_at_call 44; refine (inside_yes p n k _ hc0 (by omega) (by omega)).mono ?_; rintro e w' ⟨rfl, rfl⟩) | (go_at_call 9; refine (HH.out _ hc0 hc1 hw).mono ?_; rintro e w' ⟨rfl, kk, rfl⟩))
  go_region
  go_wp2
  go_ret
  exact ⟨rfl, Chg.drewSet _ _ _, rfl⟩
theorem wrap64_eq (z : Int) : wrap64 z = IntKind.i64.wrap z := by rw [IntKind.wrap_i64]; unfold wrap64; omega
theorem or_num (x r : Nat) (hx : x < 18446744073709551616) (hr : r < 64) : bits .or .u64 (x : Int) (IntKind.u64.wrap (2 ^ min r 64)) = ((x ||| 2 ^ r : Nat) : Int) := by
  have := pow_lt64 r hr
  rw [show min r 64 = r by omega, wrap_pow r hr, u64_or_nat x (2 ^ r) hx (by omega)]
/-- The words with k put in. -/
def addW (ws : List Nat) (k : Nat) : List Nat := ws.set (k / 64) (ws.getD (k / 64) 0 ||| 2 ^ (k % 64))
theorem mem_addW (ws : List Nat) (k : Nat) (hk : k / 64 < ws.length) (i : Nat) : mem (addW ws k) i = (mem ws i || decide (i = k)) := by
  unfold addW
  rw [mem_set _ _ _ _ hk]
  split
  · rename_i h
    rw [Nat.testBit_or, Nat.testBit_two_pow]
    unfold mem
    rw [h]
    congr 1
    rw [decide_eq_decide]; omega
  · rename_i h
    have : i ≠ k := by intro e; subst e; exact h rfl
    simp [this]
theorem add_yes (p q n k : Nat) (ws : List Nat) (w : World) (h : IsSet w p q n ws) (hk : k < n) (hm : mem ws k = false) : Calls Tryd.prog 14 #[.pointer (some ⟨p, 0, none⟩), .int .i64 k] w fun e w' => e = .returned (.bool true) ∧ IsSet w' p q n (addW ws k) ∧ Chg q w w' := by
  have hl := h.hl
  have hn := h.hn
  unfold nw at hl
  have hj : k / 64 < ws.length := by omega
  have hp := pow_lt64 (k % 64) (by omega)
  refine (add_core p q n k (k / 64) (k % 64) (ws.getD (k / 64) 0) ws.length w h.c0 h.c1 (h.cw _ hj) (h.fz _) (by omega) (by omega) (idx_div k (by omega)) (by rw [wrap64_eq]; exact idx_div k (by omega)) (idx_mod k) ?_).mono ?_
  · intro W a b c
    refine (has_core p q n k (k / 64) (k % 64) (ws.getD (k / 64) 0) ws.length W a b c (by omega) (by omega) (idx_div k (by omega)) (idx_mod k)).mono ?_
    rintro e w' ⟨rfl, hw⟩
    refine ⟨ret_bool ?_, hw⟩
    rw [show min (k % 64) 64 = k % 64 by omega, test_bit _ _ (h.wd.getD _) (by omega)]; exact hm
  · rintro e w' ⟨rfl, hg, hb⟩
    rw [or_num _ _ (h.wd.getD _) (by omega), heap_setCell_same w q _ _ _ _ h.hq, row_set] at hb
    refine ⟨rfl, h.put hg hb (by simp [addW]) (h.wd.set _ _ (or_lt _ _ (h.wd.getD _) (by omega))) ?_, hg⟩
    intro i hi
    show mem (addW ws k) i = false
    rw [mem_addW ws k hj, h.cl i hi]
    simp; omega
set_option maxHeartbeats 400000 in
theorem add_had (p q n k : Nat) (ws : List Nat) (w : World) (h : IsSet w p q n ws) (hk : k < n) (hm : mem ws k = true) : Calls Tryd.prog 14 #[.pointer (some ⟨p, 0, none⟩), .int .i64 k] w fun e w' => e = .returned (.bool false) ∧ ∃ m, w' = w.drewN m := by
  have hc0 := h.c0
  have HI : Hid (IsSet w p q n ws) := h
  have HM : Hid (mem ws k = true) := hm
  clear h hm
  go_enter Tryd.func14, Tryd.ntmps14
  go_wp2_with (first | (go_at_call 44; refine (inside_yes p n k _ hc0 (by omega) (by omega)).mono ?_; rintro e w' ⟨rfl, rfl⟩) | (go_at_call 9; refine (has_yes p q n k ws _ HI.out hk).mono ?_; rw [HM.out]; rintro e w' ⟨rfl, kk, rfl⟩))
  go_ret
  exact ⟨rfl, _, rfl⟩
/-- Add, of a place within the universe. -/
theorem add_in (p q n k : Nat) (ws : List Nat) (w : World) (h : IsSet w p q n ws) (hk : k < n) : Calls Tryd.prog 14 #[.pointer (some ⟨p, 0, none⟩), .int .i64 k] w fun e w' => e = .returned (.bool (!mem ws k)) ∧ (∃ ws', IsSet w' p q n ws' ∧ ∀ i, mem ws' i = (mem ws i || decide (i = k))) ∧ Chg q w w' := by
  cases hm : mem ws k
  · refine (add_yes p q n k ws w h hk hm).mono ?_
    rintro e w' ⟨rfl, hs, hg⟩
    have hl := h.hl
    unfold nw at hl
    exact ⟨rfl, ⟨_, hs, mem_addW ws k (by omega)⟩, hg⟩
  · refine (add_had p q n k ws w h hk hm).mono ?_
    rintro e w' ⟨rfl, m, rfl⟩
    refine ⟨rfl, ⟨ws, h.low (belowDrewN m), fun i => ?_⟩, Chg.of (belowDrewN m)⟩
    by_cases e : i = k
    · subst e; simp [hm]
    · simp [e]
end Go.Proofs.YtkagdmhijjfnnabDoor
