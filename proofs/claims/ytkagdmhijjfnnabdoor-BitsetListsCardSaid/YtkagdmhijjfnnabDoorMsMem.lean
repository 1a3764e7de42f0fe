import Derived.Test.YtkagdmhijjfnnabDoorFromW
namespace Go.Proofs.YtkagdmhijjfnnabDoor
open Go.RowKit Bs
theorem lo_eq (x : Nat) (h0 : x ≠ 0) (hx : x < 18446744073709551616) : lo x = x &&& (x - 1) := by
  unfold lo
  rw [show (x + 18446744073709551615) % 18446744073709551616 = x - 1 by omega]
theorem pop_loF (F : Nat) (hF : 2 ^ F = 18446744073709551616) (x : Nat) (hx : x < 18446744073709551616) : ∀ j, j ≤ pop F x → pop F (loN j x) + j = pop F x
  | 0, _ => by rw [loN, Nat.add_zero]
  | j + 1, h => by
    have ih := pop_loF F hF x hx j (by omega)
    have hn : loN j x ≠ 0 := by intro c; rw [c, pop_zero] at ih; omega
    have hl := loN_lt x hx j
    rw [loN, lo_eq _ hn hl]
    have := pop_lo F (loN j x) hn (by rw [hF]; exact hl)
    omega
theorem pop_loN (x : Nat) (hx : x < 18446744073709551616) (j : Nat) (h : j ≤ pop 64 x) : pop 64 (loN j x) + j = pop 64 x := pop_loF 64 (by decide) x hx j h
theorem loN_ne (x : Nat) (hx : x < 18446744073709551616) (j : Nat) (hj : j < pop 64 x) : loN j x ≠ 0 := by
  intro c
  have := pop_loN x hx j (by omega)
  rw [c, pop_zero] at this
  omega
theorem loN_bit (x b : Nat) : ∀ j, (loN j x).testBit b = true → x.testBit b = true
  | 0, h => h
  | j + 1, h => by
    rw [loN] at h
    unfold lo at h
    rw [Nat.testBit_and, Bool.and_eq_true] at h
    exact loN_bit x b j h.1
theorem lows_mem (k x : Nat) (hx : x < 18446744073709551616) : ∀ j, j ≤ pop 64 x → ∀ z ∈ lows k j x, ∃ b, b < 64 ∧ z = ((64 * k + b : Nat) : Int) ∧ x.testBit b = true
  | 0, _, z, hz => by cases hz
  | j + 1, h, z, hz => by
    rw [lows, List.mem_append] at hz
    rcases hz with hz | hz
    · exact lows_mem k x hx j (by omega) z hz
    · simp only [List.mem_singleton] at hz
      have hb := ctz_bit (loN j x) (loN_ne x hx j (by omega)) (loN_lt x hx j)
      exact ⟨_, hb.2, by rw [hz]; omega, loN_bit x _ j hb.1⟩
theorem msL_mem (ws : List Nat) (wd : Wd ws) : ∀ k, ∀ z ∈ msL k ws, ∃ i : Nat, z = (i : Int) ∧ mem ws i = true
  | 0, z, hz => by cases hz
  | k + 1, z, hz => by
    rw [msL, List.mem_append] at hz
    rcases hz with hz | hz
    · exact msL_mem ws wd k z hz
    · rw [ones_pop] at hz
      obtain ⟨b, hb, e, ht⟩ := lows_mem k _ (wd.getD k) _ (Nat.le_refl _) z hz
      exact ⟨64 * k + b, e, by rw [mem_at ws k b hb]; exact ht⟩
theorem shr_bit (x r : Nat) (hx : x < 18446744073709551616) (ht : x.testBit r = true) : bits .and .u64 (((x / 2 ^ r : Nat) : Nat) : Int) 1 = 1 := by
  have hle : x / 2 ^ r ≤ x := Nat.div_le_self _ _
  have := u64_and_nat (x / 2 ^ r) 1 (by omega) (by decide)
  rw [nat_mask1] at this
  rw [Nat.testBit_eq_decide_div_mod_eq, decide_eq_true_iff] at ht
  rw [ht] at this
  exact this
end Go.Proofs.YtkagdmhijjfnnabDoor
