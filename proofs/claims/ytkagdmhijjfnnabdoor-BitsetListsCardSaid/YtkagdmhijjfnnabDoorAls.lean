import Derived.Test.YtkagdmhijjfnnabDoorCted
namespace Go.Proofs.YtkagdmhijjfnnabDoor
open Go.RowKit Bs
theorem subset_is {p q n p' q' n' : Nat} {S T : Nat → Bool} (b : Bool) (w : World) (h : SetAt w p q n S) (h' : SetAt w p' q' n' T) (hb : b = true ↔ ∀ i, S i = true → T i = true) :
    Calls Tryd.prog 34 #[.pointer (some ⟨p, 0, none⟩), .pointer (some ⟨p', 0, none⟩)] w fun e w' => e = .returned (.bool b) ∧ w' = w := by
  cases b
  · refine subset_no w h h' ?_
    apply Classical.byContradiction
    intro c
    have := hb.2 (fun i hi => by
      cases e : T i
      · exact absurd ⟨i, hi, e⟩ c
      · rfl)
    cases this
  · exact subset_yes w h h' (hb.1 rfl)
theorem equal_is {p q n p' q' n' : Nat} {S T : Nat → Bool} (b : Bool) (w : World) (h : SetAt w p q n S) (h' : SetAt w p' q' n' T) (hb : b = true ↔ ∀ i, S i = T i) :
    Calls Tryd.prog 33 #[.pointer (some ⟨p, 0, none⟩), .pointer (some ⟨p', 0, none⟩)] w fun e w' => e = .returned (.bool b) ∧ w' = w := by
  cases b
  · refine equal_no w h h' ?_
    apply Classical.byContradiction
    intro c
    have := hb.2 (fun i => by
      apply Classical.byContradiction
      intro d
      exact c ⟨i, d⟩)
    cases this
  · exact equal_yes w h h' (hb.1 rfl)
theorem meets_is {p q n p' q' n' : Nat} {S T : Nat → Bool} (b : Bool) (w : World) (h : SetAt w p q n S) (h' : SetAt w p' q' n' T) (hb : b = true ↔ ∃ i, S i = true ∧ T i = true) :
    Calls Tryd.prog 35 #[.pointer (some ⟨p, 0, none⟩), .pointer (some ⟨p', 0, none⟩)] w fun e w' => e = .returned (.bool b) ∧ Below w.heap.size w w' := by
  cases b
  · refine meets_no w h h' ?_
    intro i hi
    cases e : T i
    · rfl
    · cases hb.2 ⟨i, hi, e⟩
  · exact meets_yes w h h' (hb.1 rfl)
end Go.Proofs.YtkagdmhijjfnnabDoor
