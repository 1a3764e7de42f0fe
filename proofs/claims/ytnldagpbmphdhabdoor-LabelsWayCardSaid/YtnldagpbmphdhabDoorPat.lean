import Derived.Test.YtnldagpbmphdhabDoorDfp
namespace Go.Proofs.YtnldagpbmphdhabDoor.L
open Go.RowKit
set_option linter.unusedVariables false
/-- A difference that says something. -/
structure Fine (d : Df) : Prop where
  noOld : d.had = false → d.o = ByteArray.empty
  noNew : d.has = false → d.n = ByteArray.empty
  differ : d.had = d.has → d.o ≠ d.n
theorem fine_of {L : List Df} {a b : List Lb} (h : Says L a b) {d : Df} (hd : d ∈ L) : Fine d := by
  refine ⟨fun e => ?_, fun e => ?_, h.differ d hd⟩
  · have := h.old d hd
    rw [e] at this
    have k := (get_no (l := a) (s := d.k) (by rw [this])).1
    rw [this] at k
    exact (Prod.mk.inj k).1
  · have := h.new d hd
    rw [e] at this
    have k := (get_no (l := b) (s := d.k) (by rw [this])).1
    rw [this] at k
    exact (Prod.mk.inj k).1
set_option maxHeartbeats 4000000 in
set_option maxRecDepth 100000 in
theorem something_any (d : Df) (w : World) (hf : Fine d) : Calls Tryd.prog 58 #[dv d] w fun e w' => e = .returned (.bool true) ∧ Below w.heap.size w w' := by
  obtain ⟨k, o, n, had, has⟩ := d
  obtain ⟨h1, h2, h3⟩ := hf
  simp only at h1 h2 h3
  unfold dv
  simp only
  cases had with
  | false =>
    obtain rfl := h1 rfl
    cases has with
    | false =>
      obtain rfl := h2 rfl
      exact absurd rfl (h3 rfl)
    | true =>
      clear h1 h2 h3
      go_enter Tryd.func58, Tryd.ntmps58
      go_wp2
      go_ret
      exact ⟨rfl, belowA _ _⟩
  | true =>
    cases has with
    | false =>
      obtain rfl := h2 rfl
      clear h1 h2 h3
      go_enter Tryd.func58, Tryd.ntmps58
      go_wp2
      go_ret
      exact ⟨rfl, belowA _ _⟩
    | true =>
      have n2 : (o.toList == n.toList) = false := by simp; exact fun h => h3 rfl (bytes_ext h)
      clear h1 h2 h3
      go_enter Tryd.func58, Tryd.ntmps58
      go_wp2
      go_ret
      exact ⟨rfl, belowA _ _⟩
end Go.Proofs.YtnldagpbmphdhabDoor.L
