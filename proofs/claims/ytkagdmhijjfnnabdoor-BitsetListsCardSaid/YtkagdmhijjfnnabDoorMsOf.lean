import Derived.Test.YtkagdmhijjfnnabDoorSelc
namespace Go.Proofs.YtkagdmhijjfnnabDoor
open Go.RowKit Bs
/-- The members of S, in order. -/
structure MsOf (n : Nat) (S : Nat → Bool) (ms : List Int) : Prop where
  len : ms.length = card n S
  get : ∀ t, t < ms.length → ∃ i : Nat, ms.getD t 0 = (i : Int) ∧ i < n ∧ S i = true ∧ card i S = t
theorem members_set {p q n : Nat} {S : Nat → Bool} (w : World) (h : SetAt w p q n S) (ht : Tab w) :
    Calls Tryd.prog 23 #[.pointer (some ⟨p, 0, none⟩)] w fun e w' => ∃ v ms, e = .returned v ∧ Holds w' v ms ∧ MsOf n S ms ∧ Below w.heap.size w w' := by
  have hb := h.bound
  obtain ⟨ws, x, hx⟩ := h
  have e : mem ws = S := funext hx
  subst e
  refine (members_words p q n ws w x ht).mono ?_
  rintro e w' ⟨v, rfl, own, hbl⟩
  refine ⟨v, _, rfl, holds_of_owns own, ⟨?_, ?_⟩, hbl⟩
  · rw [length_msL ws _ (Nat.le_refl _), isSet_card x]
  · intro t ht
    rw [length_msL ws _ (Nat.le_refl _)] at ht
    obtain ⟨i, h1, h2, h3⟩ := msL_get ws x.wd ws.length (Nat.le_refl _) t ht
    exact ⟨i, h1, hb i h2, h2, h3⟩
theorem nth_lt {S : Nat → Bool} {a b : Nat} (h : card a S < card b S) : a < b := by
  apply Classical.byContradiction
  intro c
  have := card_mono S (show b ≤ a by omega)
  omega
end Go.Proofs.YtkagdmhijjfnnabDoor
