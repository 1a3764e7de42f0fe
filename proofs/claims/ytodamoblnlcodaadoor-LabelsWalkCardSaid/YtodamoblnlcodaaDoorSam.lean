import Derived.Test.YtodamoblnlcodaaDoorLab
namespace Go.Proofs.YtodamoblnlcodaaDoor.L
open Go.RowKit
set_option linter.unusedVariables false
set_option maxHeartbeats 4000000 in
set_option maxRecDepth 100000 in
theorem same_any (v1 v2 : Value) (l : List Lb) (w : World) (i1 : Items w v1 l) (i2 : Items w v2 l) (hl : l.length ≤ 64) :
    Calls Tryd.prog 20 #[v1, v2] w fun e w' => e = .returned (.bool true) ∧ Below w.heap.size w w' := by
  obtain ⟨a1, c1, rfl, h1⟩ := i1
  obtain ⟨a2, c2, rfl, h2⟩ := i2
  generalize l.length = len at *
  go_enter Tryd.func20, Tryd.ntmps20
  go_wp2
  go_loopw [5] (fun i wr => ∃ k : Nat, k ≤ len ∧ i = .int .i64 k ∧ Hid (Below w.heap.size w wr)) (fun i _ => len - (intOf i).toNat)
  case atStart => exact ⟨0, Nat.zero_le _, rfl, hid (Below.refl _ _)⟩
  case round =>
    obtain ⟨k, hk, rfl, HB⟩ := hrel
    by_cases hlt : k < len
    · rcases h1 with h0 | ⟨b1, o1, rfl, hb1, hc1⟩
      · omega
      rcases h2 with h0 | ⟨b2, o2, rfl, hb2, hc2⟩
      · omega
      obtain ⟨p0, p1⟩ := hc1 k hlt
      obtain ⟨q0, q1⟩ := hc2 k hlt
      rw [← HB.out.cell (p := ⟨b1, o1 + k * 2, none⟩) hb1] at p0
      rw [← HB.out.cell (p := ⟨b1, o1 + k * 2 + 1, none⟩) hb1] at p1
      rw [← HB.out.cell (p := ⟨b2, o2 + k * 2, none⟩) hb2] at q0
      rw [← HB.out.cell (p := ⟨b2, o2 + k * 2 + 1, none⟩) hb2] at q1
      generalize ky l k = s1 at *
      generalize vl l k = s2 at *
      clear hc1 hc2
      have g1 : (k : Int) < (len : Int) := by omega
      have g2 : (0 : Int) ≤ (k : Int) := by omega
      go_wp2_with fail
      go_quiet (fail)
      go_wp2_with fail
      exact ⟨⟨k + 1, by omega, by go_num, hid (below_drewN HB.out nq)⟩, by simp [intOf]; omega⟩
    · obtain rfl : k = len := by omega
      go_wp2
      go_ret
      exact ⟨rfl, HB.out⟩
end Go.Proofs.YtodamoblnlcodaaDoor.L
