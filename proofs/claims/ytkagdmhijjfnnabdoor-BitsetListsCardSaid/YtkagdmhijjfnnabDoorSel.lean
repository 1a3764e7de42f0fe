import Derived.Test.YtkagdmhijjfnnabDoorMsMem
namespace Bs
open Go.Lib (ctz)
theorem ctz_form (y : Nat) (h0 : y ≠ 0) (hy : y < 2 ^ 64) : ∃ m, y = 2 ^ ctz 64 y * (2 * m + 1) ∧ ctz 64 y < 64 := by
  have hc : ctz 64 y = Go.Lib.ctzFrom 64 y := by unfold ctz; rw [if_neg h0]
  rw [hc]
  exact Go.Lib.ctzFrom_spec 64 y (by omega) hy
theorem lo_form (c m b : Nat) : ((2 ^ c * (2 * m + 1)) &&& (2 ^ c * (2 * m + 1) - 1)).testBit b = ((2 ^ c * (2 * m + 1)).testBit b && decide (b ≠ c)) := by
  have hp : 0 < 2 ^ c := Nat.two_pow_pos c
  have e : 2 ^ c * (2 * m + 1) - 1 = 2 ^ c * (2 * m) + (2 ^ c - 1) := by rw [Nat.mul_add, Nat.mul_one]; omega
  rw [Nat.testBit_and, e, Nat.testBit_two_pow_mul_add _ (by omega), Nat.testBit_two_pow_mul]
  by_cases h : b < c
  · have h' : ¬ c ≤ b := by omega
    simp [h, h']
  · have h' : c ≤ b := by omega
    by_cases e : b = c
    · subst e; simp
    · obtain ⟨d, hd⟩ : ∃ d, b - c = d + 1 := ⟨b - c - 1, by omega⟩
      simp only [h, h', hd, if_false]
      rw [Nat.testBit_succ, Nat.testBit_succ, show (2 * m + 1) / 2 = m by omega, show 2 * m / 2 = m by omega]
      simp [e]
theorem lo_bits (y b : Nat) (h0 : y ≠ 0) (hy : y < 2 ^ 64) : (y &&& (y - 1)).testBit b = (y.testBit b && decide (b ≠ ctz 64 y)) := by
  obtain ⟨m, e, _⟩ := ctz_form y h0 hy
  generalize ctz 64 y = c at e ⊢
  subst e
  exact lo_form c m b
theorem ctz_low (y b : Nat) (h0 : y ≠ 0) (hy : y < 2 ^ 64) (hb : b < ctz 64 y) : y.testBit b = false := by
  obtain ⟨m, e, _⟩ := ctz_form y h0 hy
  generalize ctz 64 y = c at e hb
  subst e
  rw [Nat.testBit_two_pow_mul]
  simp; omega
theorem card_mono (S : Nat → Bool) {a b : Nat} (h : a ≤ b) : card a S ≤ card b S := by
  obtain ⟨k, rfl⟩ : ∃ k, b = a + k := ⟨b - a, by omega⟩
  rw [card_shift]; omega
theorem card_step (S : Nat → Bool) {a b : Nat} (h : a < b) (ha : S a = true) : card a S < card b S := by
  have := card_mono S (show a + 1 ≤ b by omega)
  rw [card, ha] at this
  simp at this; omega
theorem exists_nth (S : Nat → Bool) (j : Nat) : ∀ n, j < card n S → ∃ b, b < n ∧ S b = true ∧ card b S = j
  | 0, h => by simp [card] at h
  | n + 1, h => by
    rw [card] at h
    by_cases hj : j < card n S
    · obtain ⟨b, h1, h2, h3⟩ := exists_nth S j n hj
      exact ⟨b, by omega, h2, h3⟩
    · cases e : S n
      · rw [e] at h; simp at h; omega
      · rw [e] at h; simp at h
        exact ⟨n, by omega, e, by omega⟩
/-- The same place. -/
theorem nth_unique (S : Nat → Bool) {a b : Nat} (ha : S a = true) (hb : S b = true) (h : card a S = card b S) : a = b := by
  rcases Nat.lt_trichotomy a b with c | c | c
  · have := card_step S c ha; omega
  · exact c
  · have := card_step S c hb; omega
end Bs
namespace Go.Proofs.YtkagdmhijjfnnabDoor
open Bs
theorem loN_inv (x : Nat) (hx : x < 18446744073709551616) : ∀ j, j ≤ pop 64 x → ∀ b, (loN j x).testBit b = (x.testBit b && decide (j ≤ card b (fun i => x.testBit i)))
  | 0, _, b => by simp [loN]
  | j + 1, h, b => by
    have ih := loN_inv x hx j (by omega)
    have hne := loN_ne x hx j (by omega)
    have hl := loN_lt x hx j
    have hc := ctz_bit (loN j x) hne hl
    have hlow := fun b => ctz_low (loN j x) b hne hl
    rw [loN, lo_eq _ hne hl, lo_bits _ b hne hl]
    have hcc := ih (Lib.ctz 64 (loN j x))
    rw [hc.1] at hcc
    simp only [Bool.true_eq, Bool.and_eq_true, decide_eq_true_eq] at hcc
    generalize Lib.ctz 64 (loN j x) = c at hc hlow hcc ⊢
    have hcj : card c (fun i => x.testBit i) = j := by
      apply Classical.byContradiction
      intro d
      obtain ⟨t, t1, t2, t3⟩ := exists_nth (fun i => x.testBit i) j c (by omega)
      have := hlow t t1
      rw [ih t] at this
      simp [t2, t3] at this
    rw [ih b, Bool.eq_iff_iff]
    simp only [Bool.and_eq_true, decide_eq_true_eq]
    constructor
    · rintro ⟨⟨a1, a2⟩, a3⟩
      refine ⟨a1, ?_⟩
      have : c < b := by
        apply Classical.byContradiction
        intro d
        have hb : b < c := by omega
        have := hlow b hb
        rw [ih b, a1] at this
        simp at this
        omega
      have := card_step (fun i => x.testBit i) this hcc.1
      omega
    · rintro ⟨a1, a2⟩
      exact ⟨⟨a1, by omega⟩, fun d => by subst d; omega⟩
/-- Below the lowest bit of what is left there are just j bits. -/
theorem ctz_rank (x : Nat) (hx : x < 18446744073709551616) (j : Nat) (h : j < pop 64 x) : x.testBit (Lib.ctz 64 (loN j x)) = true ∧ Lib.ctz 64 (loN j x) < 64 ∧ card (Lib.ctz 64 (loN j x)) (fun i => x.testBit i) = j := by
  have inv := loN_inv x hx j (by omega)
  have hne := loN_ne x hx j h
  have hl := loN_lt x hx j
  have hc := ctz_bit (loN j x) hne hl
  have hlow := fun b => ctz_low (loN j x) b hne hl
  have hcc := inv (Lib.ctz 64 (loN j x))
  rw [hc.1] at hcc
  simp only [Bool.true_eq, Bool.and_eq_true, decide_eq_true_eq] at hcc
  generalize Lib.ctz 64 (loN j x) = c at hc hlow hcc ⊢
  refine ⟨hcc.1, hc.2, ?_⟩
  apply Classical.byContradiction
  intro d
  obtain ⟨t, t1, t2, t3⟩ := exists_nth (fun i => x.testBit i) j c (by omega)
  have := hlow t t1
  rw [inv t] at this
  simp [t2, t3] at this
theorem card_at (ws : List Nat) (k c : Nat) (hc : c ≤ 64) (hk : k ≤ ws.length) : card (64 * k + c) (mem ws) = cnt k ws + card c (fun b => (ws.getD k 0).testBit b) := by
  rw [card_shift, cnt_card ws k hk]
  congr 1
  apply card_congr
  intro b hb
  rw [mem_at ws k b (by omega)]
theorem lows_get (k x : Nat) : ∀ j t, t < j → (lows k j x).getD t 0 = ((64 * k + Lib.ctz 64 (loN t x) : Nat) : Int)
  | 0, t, h => by omega
  | j + 1, t, h => by
    rw [lows, List.getD_eq_getElem?_getD, List.getElem?_append, length_lows]
    by_cases hj : t < j
    · rw [if_pos hj, ← List.getD_eq_getElem?_getD, lows_get k x j t hj]
    · have e : t = j := by omega
      subst e
      rw [if_neg hj]
      simp
      omega
/-- The members, each with as many below it as stand ahead of it. -/
theorem msL_get (ws : List Nat) (wd : Wd ws) : ∀ k, k ≤ ws.length → ∀ t, t < cnt k ws → ∃ i : Nat, (msL k ws).getD t 0 = (i : Int) ∧ mem ws i = true ∧ card i (mem ws) = t
  | 0, _, t, h => by rw [cnt_zero] at h; omega
  | k + 1, hk, t, h => by
    rw [cnt_succ k ws (by omega)] at h
    rw [msL, List.getD_eq_getElem?_getD, List.getElem?_append, length_msL ws k (by omega)]
    by_cases ht : t < cnt k ws
    · rw [if_pos ht, ← List.getD_eq_getElem?_getD]
      exact msL_get ws wd k (by omega) t ht
    · rw [if_neg ht, ← List.getD_eq_getElem?_getD, lows_get k _ _ _ (by omega)]
      have hx := wd.getD k
      have hr := ctz_rank (ws.getD k 0) hx (t - cnt k ws) (by rw [ones_pop] at h; omega)
      refine ⟨_, rfl, ?_, ?_⟩
      · rw [mem_at ws k _ hr.2.1]; exact hr.1
      · rw [card_at ws k _ (by omega) (by omega), hr.2.2]; omega
end Go.Proofs.YtkagdmhijjfnnabDoor
