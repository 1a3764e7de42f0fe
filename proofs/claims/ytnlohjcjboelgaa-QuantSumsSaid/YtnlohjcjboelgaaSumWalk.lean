import Derived.Test.YtnlohjcjboelgaaSumLaw
namespace Go.Proofs.Ytnlohjcjboelgaa.L
open Go.RowKit
set_option linter.unusedVariables false
/-- One call of the script. -/
def OpAt (W : World) (b o : Nat) : Prop := ∃ (k : Int) (s : ByteArray) (vA vB vC : Value) (l c u : List It), W.cell? ⟨b, o, none⟩ = some (.int .i64 k) ∧ W.cell? ⟨b, o + 1, none⟩ = some (.string s) ∧ W.cell? ⟨b, o + 2, none⟩ = some vA ∧ W.cell? ⟨b, o + 3, none⟩ = some vB ∧ W.cell? ⟨b, o + 4, none⟩ = some vC ∧
    Came W vA l ∧ Came W vB c ∧ Came W vC u ∧ Good l ∧ Good c ∧ Good u
/-- The script that came in. -/
def List5 (W : World) (a : Option Addr) (len : Nat) : Prop := len ≤ maxLen ∧ (len = 0 ∨ ∃ b off, a = some ⟨b, off, none⟩ ∧ b < W.heap.size ∧ ∀ j, j < len → OpAt W b (off + j * 5))
theorem came_slice {W : World} {v : Value} {l : List It} (h : Came W v l) : ∃ a n cap, v = .slice a n cap := by
  rcases h with ⟨rfl, _⟩ | ⟨a, cap, rfl, _⟩
  · exact ⟨_, _, _, rfl⟩
  · exact ⟨_, _, _, rfl⟩
set_option maxHeartbeats 4000000 in
theorem sums_walk (a : Option Addr) (len cap : Nat) (w : World) (hl : List5 w a len) :
    Calls Try.prog 3 #[.slice a len cap] w fun e w' => e = .returned (.bool true) ∧ Below w.heap.size w w' := by
  have HS := hid (fun W => fixedSum_any W)
  have HL := hid hl
  have hlen : len ≤ maxLen := hl.1
  unfold maxLen at hlen
  clear hl
  go_enter Try.func3, Try.ntmps3
  go_wp2_with fail
  refine (HS.out _).mono ?_
  rintro e w1 ⟨rfl, hb1⟩
  have HB1 := hid hb1
  clear hb1
  go_wp2_with fail
  go_loopw [9] (fun i wr => ∃ j : Nat, j ≤ len ∧ i = .int .i64 j ∧ Hid (Below w.heap.size w wr)) (fun i _ => len - (intOf i).toNat)
  case atStart => exact ⟨0, Nat.zero_le _, rfl, HB1⟩
  case round =>
    obtain ⟨j, hj, rfl, HB⟩ := hrel
    by_cases hlt : j < len
    · rcases HL.out.2 with h0 | ⟨b, off, rfl, hbl, hc⟩
      · omega
      obtain ⟨k, s, vA, vB, vC, l, c, u, c0, c1, c2, c3, c4, mA, mB, mC, gA, gB, gC⟩ := hc j hlt
      rw [← HB.out.cell (p := ⟨b, off + j * 5, none⟩) hbl] at c0
      rw [← HB.out.cell (p := ⟨b, off + j * 5 + 1, none⟩) hbl] at c1
      rw [← HB.out.cell (p := ⟨b, off + j * 5 + 2, none⟩) hbl] at c2
      rw [← HB.out.cell (p := ⟨b, off + j * 5 + 3, none⟩) hbl] at c3
      rw [← HB.out.cell (p := ⟨b, off + j * 5 + 4, none⟩) hbl] at c4
      have LAW := hid (fun W (hB : Below w.heap.size w W) => sums_any k s vA vB vC l c u W (mA.low hB) (mB.low hB) (mC.low hB) gA gB gC)
      obtain ⟨aA, nA, pA, rfl⟩ := came_slice mA
      obtain ⟨aB, nB, pB, rfl⟩ := came_slice mB
      obtain ⟨aC, nC, pC, rfl⟩ := came_slice mC
      have hsz : b < wr.heap.size := Nat.lt_of_lt_of_le hbl HB.out.size
      clear hc mA mB mC gA gB gC hbl
      go_wp2_with fail
      refine (LAW.out _ (HB.out.alloc HB.out.size _)).mono ?_
      rintro e w2 ⟨rfl, hb2⟩
      have HB2 := hid ((HB.out.alloc HB.out.size _).trans (hb2.mono (by have := HB.out.size; simp; omega)))
      clear hb2
      go_wp2_with fail
      exact ⟨⟨j + 1, by omega, by go_num, HB2⟩, by simp [intOf]; omega⟩
    · obtain rfl : j = len := by omega
      go_wp2_with fail
      go_ret
      exact ⟨rfl, HB.out⟩
end Go.Proofs.Ytnlohjcjboelgaa.L
