import Derived.Test.YtnlohjcjboelgaaSum
namespace Go.Proofs.Ytnlohjcjboelgaa.L
open Go.RowKit
set_option linter.unusedVariables false
/-- The same, element by element. -/
def sameB (l c : List It) : Bool := decide (l.length = c.length ∧ ∀ j, j < l.length → (nm l j).toList = (nm c j).toList ∧ am l j = am c j)
set_option maxHeartbeats 4000000 in
set_option maxRecDepth 100000 in
theorem same_yes (v1 v2 : Value) (l c : List It) (w : World) (i1 : Items w v1 l) (i2 : Items w v2 c) (hl : l.length ≤ 40) (he : l.length = c.length) (hs : ∀ j, j < l.length → (nm l j).toList = (nm c j).toList ∧ am l j = am c j) :
    Calls Try.prog 11 #[v1, v2] w fun e w' => e = .returned (.bool true) ∧ Below w.heap.size w w' := by
  obtain ⟨a1, c1, rfl, h1⟩ := i1
  obtain ⟨a2, c2, rfl, h2⟩ := i2
  rw [← he] at h2 ⊢
  clear he
  generalize l.length = len at *
  have HS := hid hs
  clear hs
  go_enter Try.func11, Try.ntmps11
  go_wp2
  go_loopw [13] (fun i wr => ∃ k : Nat, k ≤ len ∧ i = .int .i64 k ∧ Hid (Below w.heap.size w wr)) (fun i _ => len - (intOf i).toNat)
  case atStart => exact ⟨0, Nat.zero_le _, rfl, hid (Below.refl _ _)⟩
  case round =>
    obtain ⟨k, hk, rfl, HB⟩ := hrel
    by_cases hlt : k < len
    · rcases h1 with h0 | ⟨b1, o1, rfl, hb1, hc1⟩
      · omega
      rcases h2 with h0 | ⟨b2, o2, rfl, hb2, hc2⟩
      · omega
      obtain ⟨p0, p1⟩ := hc1 k hlt
      obtain ⟨q0, q1⟩ := hc2 k hlt
      rw [← HB.out.cell (p := ⟨b1, o1 + k * 2, none⟩) hb1] at p0
      rw [← HB.out.cell (p := ⟨b1, o1 + k * 2 + 1, none⟩) hb1] at p1
      rw [← HB.out.cell (p := ⟨b2, o2 + k * 2, none⟩) hb2] at q0
      rw [← HB.out.cell (p := ⟨b2, o2 + k * 2 + 1, none⟩) hb2] at q1
      obtain ⟨e1, e2⟩ := HS.out k hlt
      rw [← e2] at q1
      generalize nm l k = s1 at *
      generalize nm c k = s2 at *
      generalize am l k = n at *
      clear hc1 hc2 e2
      have E1 := hid e1
      go_wp2_with fail
      go_quiet (fail)
      go_wp2_with fail
      exact ⟨⟨k + 1, by omega, by go_num, hid (below_drewN HB.out nq)⟩, by simp [intOf]; omega⟩
    · obtain rfl : k = len := by omega
      go_wp2
      go_ret
      exact ⟨rfl, HB.out⟩
end Go.Proofs.Ytnlohjcjboelgaa.L
