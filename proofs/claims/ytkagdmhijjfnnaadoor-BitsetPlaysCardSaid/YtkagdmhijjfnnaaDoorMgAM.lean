import Derived.Test.YtkagdmhijjfnnaaDoorMgAL
import Derived.Test.YtkagdmhijjfnnaaDoorMgAH
import Derived.Test.YtkagdmhijjfnnaaDoorMgAI
namespace Go.Proofs.YtkagdmhijjfnnaaDoor
open Go.RowKit Bs
/-- The members of S, in order. -/
structure MsOf (n : Nat) (S : Nat → Bool) (ms : List Int) : Prop where
  len : ms.length = card n S
  get : ∀ t, t < ms.length → ∃ i : Nat, ms.getD t 0 = (i : Int) ∧ i < n ∧ S i = true ∧ card i S = t
theorem members_set {p q n : Nat} {S : Nat → Bool} (w : World) (h : SetAt w p q n S) (ht : Tab w) :
    Calls Tryd.prog 27 #[.pointer (some ⟨p, 0, none⟩)] w fun e w' => ∃ v ms, e = .returned v ∧ Holds w' v ms ∧ MsOf n S ms ∧ Below w.heap.size w w' := by
  have hb := h.bound
  obtain ⟨ws, x, hx⟩ := h
  have e : mem ws = S := funext hx
  subst e
  refine (members_words p q n ws w x ht).mono ?_
  rintro e w' ⟨v, rfl, own, hbl⟩
  refine ⟨v, _, rfl, holds_of_owns own, ⟨?_, ?_⟩, hbl⟩
  · rw [length_msL ws _ (Nat.le_refl _), isSet_card x]
  · intro t ht
    rw [length_msL ws _ (Nat.le_refl _)] at ht
    obtain ⟨i, h1, h2, h3⟩ := msL_get ws x.wd ws.length (Nat.le_refl _) t ht
    exact ⟨i, h1, hb i h2, h2, h3⟩
theorem nth_lt {S : Nat → Bool} {a b : Nat} (h : card a S < card b S) : a < b := by
  apply Classical.byContradiction
  intro c
  have := card_mono S (show b ≤ a by omega)
  omega
theorem nth_next {n : Nat} {S : Nat → Bool} {a b k : Nat} (hb : b < n) (sa : S a = true) (sb : S b = true) (ca : card a S = k) (cb : card b S = k + 1) : IsNext n S ((a : Int) + 1) b := by
  have hab : a < b := nth_lt (S := S) (by omega)
  refine Or.inl ⟨b, rfl, hb, sb, by omega, fun t h1 h2 => ?_⟩
  cases e : S t
  · rfl
  · have := card_step S h2 e
    have := card_mono S (show a + 1 ≤ t by omega)
    have := card_next S a sa
    omega
theorem nth_last {n : Nat} {S : Nat → Bool} {a k : Nat} (hc : ∀ t, n ≤ t → S t = false) (sa : S a = true) (ca : card a S = k) (cn : card n S = k + 1) : IsNext n S ((a : Int) + 1) (-1) := by
  refine Or.inr ⟨rfl, fun t h1 => ?_⟩
  cases e : S t
  · rfl
  · have hn : t < n := by
      apply Classical.byContradiction
      intro c
      rw [hc t (by omega)] at e; cases e
    have := card_step S hn e
    have := card_mono S (show a + 1 ≤ t by omega)
    have := card_next S a sa
    omega
theorem sOf_hit (n : Nat) (zs : List Int) (j a : Nat) (hj : j < zs.length) (h : zs.getD j 0 = (a : Int)) (ha : a < n) : sOf n zs a = true := by
  unfold sOf
  rw [decide_eq_true_iff, inU_of n zs _ _ (by omega) (by omega), List.take_of_length_le (Nat.le_refl _), ← h]
  exact getD_mem zs j hj
theorem rank_at {n : Nat} {S : Nat → Bool} (a : Nat) (h : a ≤ n) : rank n S (a : Int) = card a S := by
  unfold rank
  rw [Int.toNat_natCast, Nat.min_eq_left h]
end Go.Proofs.YtkagdmhijjfnnaaDoor
namespace Go.Proofs.YtkagdmhijjfnnaaDoor
open Go.RowKit Bs
set_option linter.unusedVariables false
/-- The words with k taken out. -/
def remW (ws : List Nat) (k : Nat) : List Nat := ws.set (k / 64) (anot (ws.getD (k / 64) 0) (2 ^ (k % 64)))
theorem mem_remW (ws : List Nat) (wd : Wd ws) (k : Nat) (hk : k / 64 < ws.length) (i : Nat) : mem (remW ws k) i = (mem ws i && !decide (i = k)) := by
  unfold remW
  rw [mem_set _ _ _ _ hk]
  have hp := pow_lt64 (k % 64) (by omega)
  split
  · rename_i h
    rw [testBit_anot _ _ _ (by omega) (wd.getD _), Nat.testBit_two_pow]
    unfold mem
    rw [h]
    congr 2
    rw [decide_eq_decide]; omega
  · rename_i h
    have : i ≠ k := by intro e; subst e; exact h rfl
    simp [this]
set_option maxHeartbeats 1000000 in
theorem rem_core (p q n k j r x L : Nat) (w : World) (hc0 : w.cell? ⟨p, 0, none⟩ = some (.int .i64 n)) (hc1 : w.cell? ⟨p, 1, none⟩ = some (.slice (some ⟨q, 0, none⟩) L L))
    (hw : w.cell? ⟨q, j, none⟩ = some (.int .u64 x)) (hf : w.frozen? ⟨q, j, none⟩ = false) (hk : (k : Int) < n) (hj : (j : Int) < L) (e1 : IntKind.i64.wrap ((k : Int) / 64) = j) (_e1' : wrap64 ((k : Int) / 64) = j) (e2 : (k : Int).tmod 64 = r)
    (hh : ∀ W, W.cell? ⟨p, 0, none⟩ = some (.int .i64 n) → W.cell? ⟨p, 1, none⟩ = some (.slice (some ⟨q, 0, none⟩) L L) → W.cell? ⟨q, j, none⟩ = some (.int .u64 x) → Calls Tryd.prog 30 #[.pointer (some ⟨p, 0, none⟩), .int .i64 k] W fun e w' => e = .returned (.bool true) ∧ ∃ k, w' = W.drewN k) :
    Calls Tryd.prog 40 #[.pointer (some ⟨p, 0, none⟩), .int .i64 k] w fun e w' => e = .returned (.bool true) ∧ Chg q w w' ∧ w'.heap[q]? = (w.setCell ⟨q, j, none⟩ (.int .u64 (bits .andNot .u64 x (IntKind.u64.wrap (2 ^ min r 64))))).heap[q]? := by
  have HH := hid hh
  clear hh
  go_enter Tryd.func40, Tryd.ntmps40
  go_wp2_with (go_at_call 30; refine (HH.out _ hc0 hc1 hw).mono ?_; rintro e w' ⟨rfl, kk, rfl⟩)
  go_region
  go_wp2
  go_ret
  exact ⟨rfl, Chg.drewSet _ _ _, rfl⟩
theorem rem_num (x r : Nat) (hx : x < 18446744073709551616) (hr : r < 64) : bits .andNot .u64 (x : Int) (IntKind.u64.wrap (2 ^ min r 64)) = ((anot x (2 ^ r) : Nat) : Int) := by
  have := pow_lt64 r hr
  rw [show min r 64 = r by omega, wrap_pow r hr, anot_num x (2 ^ r) hx (by omega)]
theorem rem_yes (p q n k : Nat) (ws : List Nat) (w : World) (h : IsSet w p q n ws) (hk : k < n) (hm : mem ws k = true) : Calls Tryd.prog 40 #[.pointer (some ⟨p, 0, none⟩), .int .i64 k] w fun e w' => e = .returned (.bool true) ∧ IsSet w' p q n (remW ws k) ∧ Chg q w w' := by
  have hl := h.hl
  have hn := h.hn
  unfold nw at hl
  have hj : k / 64 < ws.length := by omega
  have hp := pow_lt64 (k % 64) (by omega)
  refine (rem_core p q n k (k / 64) (k % 64) (ws.getD (k / 64) 0) ws.length w h.c0 h.c1 (h.cw _ hj) (h.fz _) (by omega) (by omega) (idx_div k (by omega)) (by rw [wrap64_eq]; exact idx_div k (by omega)) (idx_mod k) ?_).mono ?_
  · intro W a b c
    refine (has_core p q n k (k / 64) (k % 64) (ws.getD (k / 64) 0) ws.length W a b c (by omega) (by omega) (idx_div k (by omega)) (idx_mod k)).mono ?_
    rintro e w' ⟨rfl, hw⟩
    refine ⟨ret_bool ?_, hw⟩
    rw [show min (k % 64) 64 = k % 64 by omega, test_bit _ _ (h.wd.getD _) (by omega)]; exact hm
  · rintro e w' ⟨rfl, hg, hb⟩
    rw [rem_num _ _ (h.wd.getD _) (by omega), heap_setCell_same w q _ _ _ _ h.hq, row_set] at hb
    refine ⟨rfl, h.put hg hb (by simp [remW]) (h.wd.set _ _ (anot_lt _ _ (h.wd.getD _))) ?_, hg⟩
    intro i hi
    show mem (remW ws k) i = false
    rw [mem_remW ws h.wd k hj, h.cl i hi]
    rfl
set_option maxHeartbeats 400000 in
/-- Remove where the place is not in it. -/
theorem rem_no (p q n : Nat) (i : Int) (ws : List Nat) (w : World) (h : IsSet w p q n ws) (hno : ∀ a : Nat, i = a → mem ws a = false) : Calls Tryd.prog 40 #[.pointer (some ⟨p, 0, none⟩), .int .i64 i] w fun e w' => e = .returned (.bool false) ∧ ∃ m, w' = w.drewN m := by
  have HH : Hid (Calls Tryd.prog 30 #[.pointer (some ⟨p, 0, none⟩), .int .i64 i] w fun e w' => e = .returned (.bool false) ∧ ∃ k, w' = w.drewN k) := by
    by_cases hi : 0 ≤ i ∧ i < n
    · obtain ⟨k, rfl⟩ : ∃ k : Nat, i = k := ⟨i.toNat, by omega⟩
      refine (has_yes p q n k ws w h (by omega)).mono ?_
      rintro e w' ⟨rfl, hw⟩
      exact ⟨by rw [hno k rfl], hw⟩
    · exact has_no p n i w h.c0 hi
  clear h hno
  go_enter Tryd.func40, Tryd.ntmps40
  go_wp2_with (go_at_call 30; refine HH.out.mono ?_; rintro e w' ⟨rfl, k, rfl⟩)
  go_ret
  exact ⟨rfl, _, rfl⟩
set_option maxHeartbeats 400000 in
/-- Add of a place beyond the universe. -/
theorem add_out (p n : Nat) (i : Int) (w : World) (hc : w.cell? ⟨p, 0, none⟩ = some (.int .i64 n)) (h : ¬ (0 ≤ i ∧ i < n)) : Calls Tryd.prog 39 #[.pointer (some ⟨p, 0, none⟩), .int .i64 i] w fun e w' => e = .returned (.bool false) ∧ w' = w := by
  have H := hid h
  clear h
  go_enter Tryd.func39, Tryd.ntmps39
  go_wp2_with (go_at_call 59; refine (inside_no p n i _ hc H.out).mono ?_; rintro e w' ⟨rfl, rfl⟩)
  go_ret
  exact ⟨rfl, rfl⟩
/-- S with the place i put in, if it lies in the universe. -/
def putS (n : Nat) (S : Nat → Bool) (i : Int) : Nat → Bool := fun j => S j || (decide ((j : Int) = i) && decide (j < n))
/-- S without the place i. -/
def cutS (S : Nat → Bool) (i : Int) : Nat → Bool := fun j => S j && !decide ((j : Int) = i)
/-- Is i a place of the universe that is not in S? -/
def outB (n : Nat) (S : Nat → Bool) (i : Int) : Bool := decide (0 ≤ i ∧ i < n) && !S i.toNat
theorem add_all {p q n : Nat} {S : Nat → Bool} (i : Int) (w : World) (h : SetAt w p q n S) :
    Calls Tryd.prog 39 #[.pointer (some ⟨p, 0, none⟩), .int .i64 i] w fun e w' => e = .returned (.bool (outB n S i)) ∧ SetAt w' p q n (putS n S i) ∧ Chg q w w' := by
  by_cases hi : 0 ≤ i ∧ i < n
  · obtain ⟨k, rfl⟩ : ∃ k : Nat, i = k := ⟨i.toNat, by omega⟩
    refine (add_set k w h (by omega)).mono ?_
    rintro e w' ⟨rfl, hs, hg⟩
    refine ⟨ret_bool ?_, hs.turn fun j => ?_, hg⟩
    · simp [outB, hi.2]
    · unfold putS
      by_cases e : j = k
      · subst e; have : j < n := by omega
        simp [this]
      · have : ¬ ((j : Int) = (k : Int)) := by omega
        simp [e, this]
  · refine (add_out p n i w h.c0 hi).mono ?_
    rintro e w' ⟨rfl, rfl⟩
    refine ⟨ret_bool ?_, h.turn fun j => ?_, Chg.refl _ _⟩
    · simp [outB, hi]
    · unfold putS
      by_cases e : (j : Int) = i
      · have : ¬ j < n := by omega
        simp [e, this]
      · simp [e]
theorem rem_all {p q n : Nat} {S : Nat → Bool} (i : Int) (w : World) (h : SetAt w p q n S) :
    Calls Tryd.prog 40 #[.pointer (some ⟨p, 0, none⟩), .int .i64 i] w fun e w' => (∃ b, e = .returned (.bool b)) ∧ SetAt w' p q n (cutS S i) ∧ Chg q w w' := by
  have hbd := h.bound
  by_cases hi : 0 ≤ i ∧ S i.toNat = true
  · obtain ⟨k, rfl⟩ : ∃ k : Nat, i = k := ⟨i.toNat, by omega⟩
    have hs : S k = true := by simpa using hi.2
    have hkn := hbd k hs
    obtain ⟨ws, x, hx⟩ := h
    refine (rem_yes p q n k ws w x hkn (by rw [hx]; exact hs)).mono ?_
    rintro e w' ⟨rfl, hset, hg⟩
    have hl := x.hl
    unfold nw at hl
    refine ⟨⟨_, rfl⟩, ⟨_, hset, fun j => ?_⟩, hg⟩
    rw [mem_remW ws x.wd k (by omega), hx]
    unfold cutS
    by_cases e : j = k
    · subst e; simp
    · have : ¬ ((j : Int) = (k : Int)) := by omega
      simp [e, this]
  · obtain ⟨ws, x, hx⟩ := h
    have hno : ∀ a : Nat, i = a → S a = false := by
      rintro a rfl
      cases e : S a
      · rfl
      · exact absurd ⟨by omega, by simpa using e⟩ hi
    refine (rem_no p q n i ws w x (fun a ha => by rw [hx]; exact hno a ha)).mono ?_
    rintro e w' ⟨rfl, m, rfl⟩
    refine ⟨⟨_, rfl⟩, (show SetAt w p q n (cutS S i) from ⟨ws, x, fun j => ?_⟩).low (belowDrewN m), Chg.of (belowDrewN m)⟩
    rw [hx]
    unfold cutS
    by_cases e : (j : Int) = i
    · rw [hno j e.symm]; rfl
    · simp [e]
end Go.Proofs.YtkagdmhijjfnnaaDoor
namespace Go.Proofs.YtkagdmhijjfnnaaDoor
open Go.RowKit Bs
theorem subset_is {p q n p' q' n' : Nat} {S T : Nat → Bool} (b : Bool) (w : World) (h : SetAt w p q n S) (h' : SetAt w p' q' n' T) (hb : b = true ↔ ∀ i, S i = true → T i = true) :
    Calls Tryd.prog 24 #[.pointer (some ⟨p, 0, none⟩), .pointer (some ⟨p', 0, none⟩)] w fun e w' => e = .returned (.bool b) ∧ w' = w := by
  cases b
  · refine subset_no w h h' ?_
    apply Classical.byContradiction
    intro c
    have := hb.2 (fun i hi => by
      cases e : T i
      · exact absurd ⟨i, hi, e⟩ c
      · rfl)
    cases this
  · exact subset_yes w h h' (hb.1 rfl)
theorem equal_is {p q n p' q' n' : Nat} {S T : Nat → Bool} (b : Bool) (w : World) (h : SetAt w p q n S) (h' : SetAt w p' q' n' T) (hb : b = true ↔ ∀ i, S i = T i) :
    Calls Tryd.prog 18 #[.pointer (some ⟨p, 0, none⟩), .pointer (some ⟨p', 0, none⟩)] w fun e w' => e = .returned (.bool b) ∧ w' = w := by
  cases b
  · refine equal_no w h h' ?_
    apply Classical.byContradiction
    intro c
    have := hb.2 (fun i => by
      apply Classical.byContradiction
      intro d
      exact c ⟨i, d⟩)
    cases this
  · exact equal_yes w h h' (hb.1 rfl)
theorem meets_is {p q n p' q' n' : Nat} {S T : Nat → Bool} (b : Bool) (w : World) (h : SetAt w p q n S) (h' : SetAt w p' q' n' T) (hb : b = true ↔ ∃ i, S i = true ∧ T i = true) :
    Calls Tryd.prog 22 #[.pointer (some ⟨p, 0, none⟩), .pointer (some ⟨p', 0, none⟩)] w fun e w' => e = .returned (.bool b) ∧ Below w.heap.size w w' := by
  cases b
  · refine meets_no w h h' ?_
    intro i hi
    cases e : T i
    · rfl
    · cases hb.2 ⟨i, hi, e⟩
  · exact meets_yes w h h' (hb.1 rfl)
end Go.Proofs.YtkagdmhijjfnnaaDoor
namespace Go.Proofs.YtkagdmhijjfnnaaDoor
open Go.RowKit Bs
set_option linter.unusedVariables false
/-- A set over the row q, or none. -/
def SO (w : World) (v : Value) (q n : Nat) (S : Nat → Bool) : Prop := (v = .pointer none ∧ n = 0 ∧ ∀ i, S i = false) ∨ ∃ p, v = .pointer (some ⟨p, 0, none⟩) ∧ SetAt w p q n S
theorem SetAt.so {w : World} {p q n : Nat} {S : Nat → Bool} (h : SetAt w p q n S) : SO w (.pointer (some ⟨p, 0, none⟩)) q n S := Or.inr ⟨p, rfl, h⟩
theorem SO.hn {w : World} {v : Value} {q n : Nat} {S : Nat → Bool} (h : SO w v q n S) : n ≤ 65536 := by
  rcases h with ⟨_, rfl, _⟩ | ⟨p, _, h⟩
  · omega
  · exact h.hn
theorem SO.low {w w' : World} {v : Value} {q n : Nat} {S : Nat → Bool} (h : SO w v q n S) (k : Below w.heap.size w w') : SO w' v q n S := by
  rcases h with h | ⟨p, e, h⟩
  · exact Or.inl h
  · exact Or.inr ⟨p, e, h.low k⟩
theorem SO.bound {w : World} {v : Value} {q n : Nat} {S : Nat → Bool} (h : SO w v q n S) (i : Nat) (hi : S i = true) : i < n := by
  rcases h with ⟨_, _, h⟩ | ⟨p, _, h⟩
  · rw [h] at hi; cases hi
  · exact h.bound i hi
theorem SO.turn {w : World} {v : Value} {q n : Nat} {S T : Nat → Bool} (h : SO w v q n S) (k : ∀ i, S i = T i) : SO w v q n T := by
  rcases h with ⟨a, b, h⟩ | ⟨p, e, h⟩
  · exact Or.inl ⟨a, b, fun i => by rw [← k, h]⟩
  · exact Or.inr ⟨p, e, h.turn k⟩
/-- A struct's block is no row's. -/
theorem SetAt.pne {w : World} {p q n p' q' n' : Nat} {S T : Nat → Bool} (h : SetAt w p q n S) (h' : SetAt w p' q' n' T) : p ≠ q' := by
  obtain ⟨ws, x, _⟩ := h
  obtain ⟨vs, y, _⟩ := h'
  intro e
  have a := x.hp
  rw [e, y.hq] at a
  injection a with a
  injection a with a b
  exact absurd b (by decide)
theorem SO.keep {w w' : World} {v : Value} {q n p' q' n' : Nat} {S T : Nat → Bool} (h : SO w v q n S) (h' : SetAt w p' q' n' T) (k : Chg q' w w') (hq : q ≠ q') : SO w' v q n S := by
  rcases h with h | ⟨p, e, h⟩
  · exact Or.inl h
  · exact Or.inr ⟨p, e, h.keep k (h.pne h') hq⟩
theorem size_o {v : Value} {q n : Nat} {S : Nat → Bool} (w : World) (h : SO w v q n S) : Calls Tryd.prog 26 #[v] w fun e w' => e = .returned (.int .i64 n) ∧ w' = w := by
  rcases h with ⟨rfl, rfl, _⟩ | ⟨p, rfl, h⟩
  · exact size_nil w
  · exact size_any w h
theorem widened_o {v : Value} {q n : Nat} {S : Nat → Bool} (m : Nat) (w : World) (h : SO w v q n S) (hm : m ≤ 65536) :
    Calls Tryd.prog 54 #[v, .int .i64 m] w fun e w' => e = .returned (.pointer (some ⟨w.heap.size + 1, 0, none⟩)) ∧ SetAt w' (w.heap.size + 1) w.heap.size (max n m) S ∧ Below w.heap.size w w' := by
  rcases h with ⟨rfl, rfl, hS⟩ | ⟨p, rfl, h⟩
  · refine (widened_nil m w hm).mono ?_
    rintro e w' ⟨rfl, a, b⟩
    refine ⟨rfl, ?_, b⟩
    rw [Nat.zero_max]
    exact ⟨_, a, fun i => by rw [hS i]; simp [mem, List.getD_eq_getElem?_getD, List.getElem?_replicate]; split <;> simp⟩
  · exact widened_set m w h hm
set_option maxHeartbeats 400000 in
theorem clone_o {v : Value} {q n : Nat} {S : Nat → Bool} (w : World) (h : SO w v q n S) :
    Calls Tryd.prog 42 #[v] w fun e w' => ∃ p q, e = .returned (.pointer (some ⟨p, 0, none⟩)) ∧ Fresh w w' p q n S := by
  have HI := hid h
  clear h
  go_enter Tryd.func42, Tryd.ntmps42
  go_wp2_with fail
  refine (widened_o 0 _ HI.out (by omega)).mono ?_
  rintro e w1 ⟨rfl, hs, hb⟩
  rw [Nat.max_zero] at hs
  go_wp2_with fail
  go_ret
  exact ⟨_, _, rfl, by omega, Nat.le_refl _, hs, hb⟩
theorem opW_nil_and (ws : List Nat) (i : Nat) : mem (opW (· &&& ·) ws []) i = false := by
  rw [mem_and]
  simp [mem]
theorem andwith_o {p q n : Nat} {v : Value} {q' n' : Nat} {S T : Nat → Bool} (w : World) (h : SetAt w p q n S) (h' : SO w v q' n' T) (ha : q ≠ q' ∨ v = .pointer (some ⟨p, 0, none⟩)) :
    Calls Tryd.prog 46 #[.pointer (some ⟨p, 0, none⟩), v] w fun e w' => e = .returned (.tuple #[]) ∧ SetAt w' p q n (fun i => S i && T i) ∧ Chg q w w' := by
  rcases h' with ⟨rfl, rfl, hT⟩ | ⟨p', rfl, h'⟩
  · obtain ⟨ws, x, hx⟩ := h
    refine (andwith_nilr p q n ws w x).mono ?_
    rintro e w' ⟨rfl, hg, hr⟩
    refine ⟨rfl, ⟨_, x.put hg hr (length_opW _ _ _) (x.wd.opW (fun a ha => by cases ha) (fun a b ha _ => and_lt a b ha)) (fun i hi => opW_nil_and ws i), fun i => ?_⟩, hg⟩
    rw [opW_nil_and]; simp [hT]
  · refine andwith_any w h h' ?_
    rcases ha with ha | ha
    · exact Or.inr ha
    · injection ha with ha; injection ha with ha; injection ha with ha
      exact Or.inl ha.symm
theorem andnotwith_o {p q n : Nat} {v : Value} {q' n' : Nat} {S T : Nat → Bool} (w : World) (h : SetAt w p q n S) (h' : SO w v q' n' T) (ha : q ≠ q' ∨ v = .pointer (some ⟨p, 0, none⟩)) :
    Calls Tryd.prog 41 #[.pointer (some ⟨p, 0, none⟩), v] w fun e w' => e = .returned (.tuple #[]) ∧ SetAt w' p q n (fun i => S i && !T i) ∧ Chg q w w' := by
  rcases h' with ⟨rfl, rfl, hT⟩ | ⟨p', rfl, h'⟩
  · obtain ⟨ws, x, hx⟩ := h
    refine (andnotwith_nilr p q n ws w x).mono ?_
    rintro e w' ⟨rfl, rfl⟩
    exact ⟨rfl, ⟨ws, x, fun i => by rw [hx]; simp [hT]⟩, Chg.refl _ _⟩
  · refine andnotwith_any w h h' ?_
    rcases ha with ha | ha
    · exact Or.inr ha
    · injection ha with ha; injection ha with ha; injection ha with ha
      exact Or.inl ha.symm
theorem orwith_o {p q n : Nat} {v : Value} {q' n' : Nat} {S T : Nat → Bool} (w : World) (h : SetAt w p q n S) (h' : SO w v q' n' T) (ha : q ≠ q' ∨ v = .pointer (some ⟨p, 0, none⟩)) :
    Calls Tryd.prog 45 #[.pointer (some ⟨p, 0, none⟩), v] w fun e w' => e = .returned (.tuple #[]) ∧ SetAt w' p q n (fun i => (S i || T i) && decide (i < n)) ∧ Chg q w w' := by
  rcases h' with ⟨rfl, rfl, hT⟩ | ⟨p', rfl, h'⟩
  · have hbd := h.bound
    obtain ⟨ws, x, hx⟩ := h
    refine (orwith_nilr p q n ws w x).mono ?_
    rintro e w' ⟨rfl, hg, hr⟩
    have hm : ∀ i, mem (cutW n ws) i = ((S i || T i) && decide (i < n)) := fun i => by
      rw [mem_cutW n _ x.hl, hx, hT]; simp
    refine ⟨rfl, ⟨_, x.put hg hr (length_cutW _ _) (x.wd.cutW n) (fun i hi => ?_), hm⟩, hg⟩
    rw [hm]
    simp; omega
  · refine orwith_any w h h' ?_
    rcases ha with ha | ha
    · exact Or.inr ha
    · injection ha with ha; injection ha with ha; injection ha with ha
      exact Or.inl ha.symm
end Go.Proofs.YtkagdmhijjfnnaaDoor
