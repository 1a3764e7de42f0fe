import Derived.Test.YtdnoagebcolgbabDoorHO
namespace Go.Proofs.YtdnoagebcolgbabDoor.L
open Go.RowKit Go.Shelf
set_option linter.unusedVariables false
theorem refusal_any {T : List Pt} {B c i : Nat} {W : World} {ev : Value} (h : ErrR T B W ev) (k : Res T c i) :
    Calls Tryd.prog 10 #[ev, .int .i64 (c : Int), .int .i64 (i : Int)] W fun e w' => e = .returned (.bool true) ∧ Below W.heap.size W w' := by
  rcases h with ⟨rfl, h⟩ | ⟨N, c', i', rfl, hf, _, h, h0⟩
  · obtain ⟨rfl, rfl⟩ := res_one h k
    refine (refusal_nil 0 W).mono ?_
    rintro e w' ⟨rfl, rfl⟩
    exact ⟨rfl, Below.refl _ _⟩
  · obtain ⟨rfl, rfl⟩ := res_one h k
    exact refusal_yes N _ _ W hf h0
end Go.Proofs.YtdnoagebcolgbabDoor.L
