import Derived.Test.YtodamoblnlcodaaDoorDme
namespace Go.Proofs.YtodamoblnlcodaaDoor.L
open Go.RowKit
set_option linter.unusedVariables false
set_option maxHeartbeats 4000000 in
set_option maxRecDepth 100000 in
theorem samediffs_any (v1 v2 : Value) (L : List Df) (w : World) (i1 : ItemsD w v1 L) (i2 : ItemsD w v2 L) (hl : L.length ≤ 64) :
    Calls Tryd.prog 11 #[v1, v2] w fun e w' => e = .returned (.bool true) ∧ Below w.heap.size w w' := by
  obtain ⟨a1, c1, rfl, h1⟩ := i1
  obtain ⟨a2, c2, rfl, h2⟩ := i2
  have H1 := hid h1
  have H2 := hid h2
  obtain ⟨len, hlen⟩ : ∃ n, n = L.length := ⟨_, rfl⟩
  have HLEN := hid hlen
  rw [← hlen] at hl ⊢
  clear hlen h1 h2
  go_enter Tryd.func11, Tryd.ntmps11
  go_wp2
  go_loopw [5] (fun i wr => ∃ k : Nat, k ≤ len ∧ i = .int .i64 k ∧ Hid (Below w.heap.size w wr)) (fun i _ => len - (intOf i).toNat)
  case atStart => exact ⟨0, Nat.zero_le _, rfl, hid (Below.refl _ _)⟩
  case round =>
    obtain ⟨k, hk, rfl, HB⟩ := hrel
    by_cases hlt : k < len
    · rcases H1.out with h0 | ⟨b1, o1, rfl, hb1, hc1⟩
      · have := HLEN.out
        omega
      rcases H2.out with h0 | ⟨b2, o2, rfl, hb2, hc2⟩
      · have := HLEN.out
        omega
      have hkl : k < L.length := by rw [← HLEN.out]; exact hlt
      obtain ⟨p0, p1, p2, p3, p4⟩ := hc1 k hkl
      obtain ⟨q0, q1, q2, q3, q4⟩ := hc2 k hkl
      rw [← HB.out.cell (p := ⟨b1, o1 + k * 5, none⟩) hb1] at p0
      rw [← HB.out.cell (p := ⟨b1, o1 + k * 5 + 1, none⟩) hb1] at p1
      rw [← HB.out.cell (p := ⟨b1, o1 + k * 5 + 2, none⟩) hb1] at p2
      rw [← HB.out.cell (p := ⟨b1, o1 + k * 5 + 3, none⟩) hb1] at p3
      rw [← HB.out.cell (p := ⟨b1, o1 + k * 5 + 4, none⟩) hb1] at p4
      rw [← HB.out.cell (p := ⟨b2, o2 + k * 5, none⟩) hb2] at q0
      rw [← HB.out.cell (p := ⟨b2, o2 + k * 5 + 1, none⟩) hb2] at q1
      rw [← HB.out.cell (p := ⟨b2, o2 + k * 5 + 2, none⟩) hb2] at q2
      rw [← HB.out.cell (p := ⟨b2, o2 + k * 5 + 3, none⟩) hb2] at q3
      rw [← HB.out.cell (p := ⟨b2, o2 + k * 5 + 4, none⟩) hb2] at q4
      generalize L[k] = d at *
      obtain ⟨dk, dO, dn, dh, ds⟩ := d
      simp only at p0 p1 p2 p3 p4 q0 q1 q2 q3 q4
      clear hc1 hc2
      have g1 : (k : Int) < (len : Int) := by omega
      have g2 : (0 : Int) ≤ (k : Int) := by omega
      go_wp2_with fail
      go_quiet (fail)
      go_wp2_with fail
      exact ⟨⟨k + 1, by omega, by go_num, hid (below_drewN HB.out nq)⟩, by simp [intOf]; omega⟩
    · obtain rfl : k = len := by omega
      go_wp2
      go_ret
      exact ⟨rfl, HB.out⟩
end Go.Proofs.YtodamoblnlcodaaDoor.L
