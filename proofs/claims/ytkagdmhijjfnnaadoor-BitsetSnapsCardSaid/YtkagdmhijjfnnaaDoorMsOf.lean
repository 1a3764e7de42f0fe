import Derived.Test.YtkagdmhijjfnnaaDoorBetween
namespace Go.Proofs.YtkagdmhijjfnnaaDoor
open Go.RowKit Bs
/-- The members of S, in order. -/
structure MsOf (n : Nat) (S : Nat → Bool) (ms : List Int) : Prop where
  len : ms.length = card n S
  get : ∀ t, t < ms.length → ∃ i : Nat, ms.getD t 0 = (i : Int) ∧ i < n ∧ S i = true ∧ card i S = t
theorem members_set {p q n : Nat} {S : Nat → Bool} (w : World) (h : SetAt w p q n S) (ht : Tab w) :
    Calls Tryd.prog 27 #[.pointer (some ⟨p, 0, none⟩)] w fun e w' => ∃ v ms, e = .returned v ∧ Holds w' v ms ∧ MsOf n S ms ∧ Below w.heap.size w w' := by
  have hb := h.bound
  obtain ⟨ws, x, hx⟩ := h
  have e : mem ws = S := funext hx
  subst e
  refine (members_words p q n ws w x ht).mono ?_
  rintro e w' ⟨v, rfl, own, hbl⟩
  refine ⟨v, _, rfl, holds_of_owns own, ⟨?_, ?_⟩, hbl⟩
  · rw [length_msL ws _ (Nat.le_refl _), isSet_card x]
  · intro t ht
    rw [length_msL ws _ (Nat.le_refl _)] at ht
    obtain ⟨i, h1, h2, h3⟩ := msL_get ws x.wd ws.length (Nat.le_refl _) t ht
    exact ⟨i, h1, hb i h2, h2, h3⟩
theorem nth_lt {S : Nat → Bool} {a b : Nat} (h : card a S < card b S) : a < b := by
  apply Classical.byContradiction
  intro c
  have := card_mono S (show b ≤ a by omega)
  omega
theorem nth_next {n : Nat} {S : Nat → Bool} {a b k : Nat} (hb : b < n) (sa : S a = true) (sb : S b = true) (ca : card a S = k) (cb : card b S = k + 1) : IsNext n S ((a : Int) + 1) b := by
  have hab : a < b := nth_lt (S := S) (by omega)
  refine Or.inl ⟨b, rfl, hb, sb, by omega, fun t h1 h2 => ?_⟩
  cases e : S t
  · rfl
  · have := card_step S h2 e
    have := card_mono S (show a + 1 ≤ t by omega)
    have := card_next S a sa
    omega
theorem nth_last {n : Nat} {S : Nat → Bool} {a k : Nat} (hc : ∀ t, n ≤ t → S t = false) (sa : S a = true) (ca : card a S = k) (cn : card n S = k + 1) : IsNext n S ((a : Int) + 1) (-1) := by
  refine Or.inr ⟨rfl, fun t h1 => ?_⟩
  cases e : S t
  · rfl
  · have hn : t < n := by
      apply Classical.byContradiction
      intro c
      rw [hc t (by omega)] at e; cases e
    have := card_step S hn e
    have := card_mono S (show a + 1 ≤ t by omega)
    have := card_next S a sa
    omega
theorem sOf_hit (n : Nat) (zs : List Int) (j a : Nat) (hj : j < zs.length) (h : zs.getD j 0 = (a : Int)) (ha : a < n) : sOf n zs a = true := by
  unfold sOf
  rw [decide_eq_true_iff, inU_of n zs _ _ (by omega) (by omega), List.take_of_length_le (Nat.le_refl _), ← h]
  exact getD_mem zs j hj
theorem rank_at {n : Nat} {S : Nat → Bool} (a : Nat) (h : a ≤ n) : rank n S (a : Int) = card a S := by
  unfold rank
  rw [Int.toNat_natCast, Nat.min_eq_left h]
end Go.Proofs.YtkagdmhijjfnnaaDoor
