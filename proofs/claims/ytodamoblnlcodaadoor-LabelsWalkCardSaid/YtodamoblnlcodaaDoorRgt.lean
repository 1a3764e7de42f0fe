import Derived.Test.YtodamoblnlcodaaDoorRri
import Derived.Test.YtodamoblnlcodaaDoorRck
import Derived.Test.YtodamoblnlcodaaDoorCkk
namespace Go.Proofs.YtodamoblnlcodaaDoor.L
open Go.RowKit
set_option linter.unusedVariables false
set_option maxHeartbeats 4000000 in
theorem rget_any (v : Value) (l : List Lb) (s : ByteArray) (w : World) (hi : Items w v l) (hl : l.length ≤ maxLen) : Calls Tryd.prog 27 #[v, .string s] w fun e w' => e = .returned (.tuple #[.string (getN l s).1, .bool (getN l s).2]) ∧ w' = w := by
  have F := hid (rfind_any v l s w hi hl)
  rcases find_cases l s with ⟨h1, h2, _⟩ | ⟨j, hj, h1, h2, _⟩
  · rw [h1] at F
    rw [h2]
    clear h1 h2
    go_enter Tryd.func27, Tryd.ntmps27
    go_wp2_with fail
    refine F.out.mono ?_
    rintro e w1 ⟨rfl, hw⟩; subst hw
    go_wp2_with fail
    go_ret2
    exact ⟨rfl, rfl⟩
  · rw [h1] at F
    rw [h2]
    clear h1 h2
    obtain ⟨a, cap, rfl, hi⟩ := hi
    rcases hi with h0 | ⟨b, off, rfl, hbl, hc⟩
    · omega
    obtain ⟨-, c1⟩ := hc j hj
    have g0 : (0 : Int) ≤ (j : Int) := by omega
    generalize vl l j = x at *
    generalize l.length = len at *
    clear hc
    go_enter Tryd.func27, Tryd.ntmps27
    go_wp2_with fail
    refine F.out.mono ?_
    rintro e w1 ⟨rfl, hw⟩; subst hw
    go_wp2_with fail
    go_ret2
    exact ⟨rfl, rfl⟩
end Go.Proofs.YtodamoblnlcodaaDoor.L
