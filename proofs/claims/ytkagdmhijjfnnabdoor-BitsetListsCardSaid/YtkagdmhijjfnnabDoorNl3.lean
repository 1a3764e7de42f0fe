import Derived.Test.YtkagdmhijjfnnabDoorNl2
import Derived.Test.YtkagdmhijjfnnabDoorMsOf
namespace Go.Proofs.YtkagdmhijjfnnabDoor
open Go.RowKit Bs
set_option linter.unusedVariables false
/-- The words with k taken out. -/
def remW (ws : List Nat) (k : Nat) : List Nat := ws.set (k / 64) (anot (ws.getD (k / 64) 0) (2 ^ (k % 64)))
theorem mem_remW (ws : List Nat) (wd : Wd ws) (k : Nat) (hk : k / 64 < ws.length) (i : Nat) : mem (remW ws k) i = (mem ws i && !decide (i = k)) := by
  unfold remW
  rw [mem_set _ _ _ _ hk]
  have hp := pow_lt64 (k % 64) (by omega)
  split
  · rename_i h
    rw [testBit_anot _ _ _ (by omega) (wd.getD _), Nat.testBit_two_pow]
    unfold mem
    rw [h]
    congr 2
    rw [decide_eq_decide]; omega
  · rename_i h
    have : i ≠ k := by intro e; subst e; exact h rfl
    simp [this]
set_option maxHeartbeats 1000000 in
theorem rem_core (p q n k j r x L : Nat) (w : World) (hc0 : w.cell? ⟨p, 0, none⟩ = some (.int .i64 n)) (hc1 : w.cell? ⟨p, 1, none⟩ = some (.slice (some ⟨q, 0, none⟩) L L))
    (hw : w.cell? ⟨q, j, none⟩ = some (.int .u64 x)) (hf : w.frozen? ⟨q, j, none⟩ = false) (hk : (k : Int) < n) (hj : (j : Int) < L) (e1 : IntKind.i64.wrap ((k : Int) / 64) = j) (_e1' : wrap64 ((k : Int) / 64) = j) (e2 : (k : Int).tmod 64 = r)
    (hh : ∀ W, W.cell? ⟨p, 0, none⟩ = some (.int .i64 n) → W.cell? ⟨p, 1, none⟩ = some (.slice (some ⟨q, 0, none⟩) L L) → W.cell? ⟨q, j, none⟩ = some (.int .u64 x) → Calls Tryd.prog 9 #[.pointer (some ⟨p, 0, none⟩), .int .i64 k] W fun e w' => e = .returned (.bool true) ∧ ∃ k, w' = W.drewN k) :
    Calls Tryd.prog 15 #[.pointer (some ⟨p, 0, none⟩), .int .i64 k] w fun e w' => e = .returned (.bool true) ∧ Chg q w w' ∧ w'.heap[q]? = (w.setCell ⟨q, j, none⟩ (.int .u64 (bits .andNot .u64 x (IntKind.u64.wrap (2 ^ min r 64))))).heap[q]? := by
  have HH := hid hh
  clear hh
  go_enter Tryd.func15, Tryd.ntmps15
  go_wp2_with (go_at_call 9; refine (HH.out _ hc0 hc1 hw).mono ?_; rintro e w' ⟨rfl, kk, rfl⟩)
  go_region
  go_wp2
  go_ret
  exact ⟨rfl, Chg.drewSet _ _ _, rfl⟩
theorem rem_num (x r : Nat) (hx : x < 18446744073709551616) (hr : r < 64) : bits .andNot .u64 (x : Int) (IntKind.u64.wrap (2 ^ min r 64)) = ((anot x (2 ^ r) : Nat) : Int) := by
  have := pow_lt64 r hr
  rw [show min r 64 = r by omega, wrap_pow r hr, anot_num x (2 ^ r) hx (by omega)]
theorem rem_yes (p q n k : Nat) (ws : List Nat) (w : World) (h : IsSet w p q n ws) (hk : k < n) (hm : mem ws k = true) : Calls Tryd.prog 15 #[.pointer (some ⟨p, 0, none⟩), .int .i64 k] w fun e w' => e = .returned (.bool true) ∧ IsSet w' p q n (remW ws k) ∧ Chg q w w' := by
  have hl := h.hl
  have hn := h.hn
  unfold nw at hl
  have hj : k / 64 < ws.length := by omega
  have hp := pow_lt64 (k % 64) (by omega)
  refine (rem_core p q n k (k / 64) (k % 64) (ws.getD (k / 64) 0) ws.length w h.c0 h.c1 (h.cw _ hj) (h.fz _) (by omega) (by omega) (idx_div k (by omega)) (by rw [wrap64_eq]; exact idx_div k (by omega)) (idx_mod k) ?_).mono ?_
  · intro W a b c
    refine (has_core p q n k (k / 64) (k % 64) (ws.getD (k / 64) 0) ws.length W a b c (by omega) (by omega) (idx_div k (by omega)) (idx_mod k)).mono ?_
    rintro e w' ⟨rfl, hw⟩
    refine ⟨ret_bool ?_, hw⟩
    rw [show min (k % 64) 64 = k % 64 by omega, test_bit _ _ (h.wd.getD _) (by omega)]; exact hm
  · rintro e w' ⟨rfl, hg, hb⟩
    rw [rem_num _ _ (h.wd.getD _) (by omega), heap_setCell_same w q _ _ _ _ h.hq, row_set] at hb
    refine ⟨rfl, h.put hg hb (by simp [remW]) (h.wd.set _ _ (anot_lt _ _ (h.wd.getD _))) ?_, hg⟩
    intro i hi
    show mem (remW ws k) i = false
    rw [mem_remW ws h.wd k hj, h.cl i hi]
    rfl
set_option maxHeartbeats 400000 in
/-- Remove where the place is not in it. -/
theorem rem_no (p q n : Nat) (i : Int) (ws : List Nat) (w : World) (h : IsSet w p q n ws) (hno : ∀ a : Nat, i = a → mem ws a = false) : Calls Tryd.prog 15 #[.pointer (some ⟨p, 0, none⟩), .int .i64 i] w fun e w' => e = .returned (.bool false) ∧ ∃ m, w' = w.drewN m := by
  have HH : Hid (Calls Tryd.prog 9 #[.pointer (some ⟨p, 0, none⟩), .int .i64 i] w fun e w' => e = .returned (.bool false) ∧ ∃ k, w' = w.drewN k) := by
    by_cases hi : 0 ≤ i ∧ i < n
    · obtain ⟨k, rfl⟩ : ∃ k : Nat, i = k := ⟨i.toNat, by omega⟩
      refine (has_yes p q n k ws w h (by omega)).mono ?_
      rintro e w' ⟨rfl, hw⟩
      exact ⟨by rw [hno k rfl], hw⟩
    · exact has_no p n i w h.c0 hi
  clear h hno
  go_enter Tryd.func15, Tryd.ntmps15
  go_wp2_with (go_at_call 9; refine HH.out.mono ?_; rintro e w' ⟨rfl, k, rfl⟩)
  go_ret
  exact ⟨rfl, _, rfl⟩
set_option maxHeartbeats 400000 in
/-- Add of a place beyond the universe. -/
theorem add_out (p n : Nat) (i : Int) (w : World) (hc : w.cell? ⟨p, 0, none⟩ = some (.int .i64 n)) (h : ¬ (0 ≤ i ∧ i < n)) : Calls Tryd.prog 14 #[.pointer (some ⟨p, 0, none⟩), .int .i64 i] w fun e w' => e = .returned (.bool false) ∧ w' = w := by
  have H := hid h
  clear h
  go_enter Tryd.func14, Tryd.ntmps14
  go_wp2_with (go_at_call 44; refine (inside_no p n i _ hc H.out).mono ?_; rintro e w' ⟨rfl, rfl⟩)
  go_ret
  exact ⟨rfl, rfl⟩
/-- S with the place i put in, if it lies in the universe. -/
def putS (n : Nat) (S : Nat → Bool) (i : Int) : Nat → Bool := fun j => S j || (decide ((j : Int) = i) && decide (j < n))
/-- S without the place i. -/
def cutS (S : Nat → Bool) (i : Int) : Nat → Bool := fun j => S j && !decide ((j : Int) = i)
/-- Is i a place of the universe that is not in S? -/
def outB (n : Nat) (S : Nat → Bool) (i : Int) : Bool := decide (0 ≤ i ∧ i < n) && !S i.toNat
theorem add_all {p q n : Nat} {S : Nat → Bool} (i : Int) (w : World) (h : SetAt w p q n S) :
    Calls Tryd.prog 14 #[.pointer (some ⟨p, 0, none⟩), .int .i64 i] w fun e w' => e = .returned (.bool (outB n S i)) ∧ SetAt w' p q n (putS n S i) ∧ Chg q w w' := by
  by_cases hi : 0 ≤ i ∧ i < n
  · obtain ⟨k, rfl⟩ : ∃ k : Nat, i = k := ⟨i.toNat, by omega⟩
    refine (add_set k w h (by omega)).mono ?_
    rintro e w' ⟨rfl, hs, hg⟩
    refine ⟨ret_bool ?_, hs.turn fun j => ?_, hg⟩
    · simp [outB, hi.2]
    · unfold putS
      by_cases e : j = k
      · subst e; have : j < n := by omega
        simp [this]
      · have : ¬ ((j : Int) = (k : Int)) := by omega
        simp [e, this]
  · refine (add_out p n i w h.c0 hi).mono ?_
    rintro e w' ⟨rfl, rfl⟩
    refine ⟨ret_bool ?_, h.turn fun j => ?_, Chg.refl _ _⟩
    · simp [outB, hi]
    · unfold putS
      by_cases e : (j : Int) = i
      · have : ¬ j < n := by omega
        simp [e, this]
      · simp [e]
theorem rem_all {p q n : Nat} {S : Nat → Bool} (i : Int) (w : World) (h : SetAt w p q n S) :
    Calls Tryd.prog 15 #[.pointer (some ⟨p, 0, none⟩), .int .i64 i] w fun e w' => (∃ b, e = .returned (.bool b)) ∧ SetAt w' p q n (cutS S i) ∧ Chg q w w' := by
  have hbd := h.bound
  by_cases hi : 0 ≤ i ∧ S i.toNat = true
  · obtain ⟨k, rfl⟩ : ∃ k : Nat, i = k := ⟨i.toNat, by omega⟩
    have hs : S k = true := by simpa using hi.2
    have hkn := hbd k hs
    obtain ⟨ws, x, hx⟩ := h
    refine (rem_yes p q n k ws w x hkn (by rw [hx]; exact hs)).mono ?_
    rintro e w' ⟨rfl, hset, hg⟩
    have hl := x.hl
    unfold nw at hl
    refine ⟨⟨_, rfl⟩, ⟨_, hset, fun j => ?_⟩, hg⟩
    rw [mem_remW ws x.wd k (by omega), hx]
    unfold cutS
    by_cases e : j = k
    · subst e; simp
    · have : ¬ ((j : Int) = (k : Int)) := by omega
      simp [e, this]
  · obtain ⟨ws, x, hx⟩ := h
    have hno : ∀ a : Nat, i = a → S a = false := by
      rintro a rfl
      cases e : S a
      · rfl
      · exact absurd ⟨by omega, by simpa using e⟩ hi
    refine (rem_no p q n i ws w x (fun a ha => by rw [hx]; exact hno a ha)).mono ?_
    rintro e w' ⟨rfl, m, rfl⟩
    refine ⟨⟨_, rfl⟩, (show SetAt w p q n (cutS S i) from ⟨ws, x, fun j => ?_⟩).low (belowDrewN m), Chg.of (belowDrewN m)⟩
    rw [hx]
    unfold cutS
    by_cases e : (j : Int) = i
    · rw [hno j e.symm]; rfl
    · simp [e]
end Go.Proofs.YtkagdmhijjfnnabDoor
