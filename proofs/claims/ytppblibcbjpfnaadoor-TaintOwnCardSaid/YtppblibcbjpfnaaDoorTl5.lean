import Derived.Test.YtppblibcbjpfnaaDoorTl4
namespace Go.Proofs.YtppblibcbjpfnaaDoor.L
open Go.RowKit Go.Sort
set_option linter.unusedVariables false
set_option maxHeartbeats 4000000 in
set_option maxRecDepth 100000 in
theorem same_any (v1 v2 : Value) (l : List Tn) (w : World) (i1 : ItemsG 3 tf w v1 l) (i2 : ItemsG 3 tf w v2 l) (hl : l.length ≤ maxLen) :
    Calls Tryd.prog 19 #[v1, v2] w fun e w' => e = .returned (.bool true) ∧ RowKit.Below w.heap.size w w' := by
  unfold maxLen at hl
  obtain ⟨a1, c1, rfl, h1⟩ := i1
  obtain ⟨a2, c2, rfl, h2⟩ := i2
  have HA := hid h1
  have HC := hid h2
  clear h1 h2
  obtain ⟨len, hlen⟩ : ∃ n, n = l.length := ⟨_, rfl⟩
  have HLEN := hid hlen
  rw [← hlen] at hl ⊢
  clear hlen
  go_enter Tryd.func19, Tryd.ntmps19
  go_wp2
  go_loopw [5] (fun i wr => ∃ k : Nat, k ≤ len ∧ i = .int .i64 k ∧ Hid (RowKit.Below w.heap.size w wr)) (fun i _ => len - (intOf i).toNat)
  case atStart => exact ⟨0, Nat.zero_le _, rfl, hid (RowKit.Below.refl _ _)⟩
  case round =>
    obtain ⟨k, hk, rfl, HB⟩ := hrel
    by_cases hlt : k < len
    · have hkl : k < l.length := by rw [← HLEN.out]; exact hlt
      rcases HA.out with h0 | ⟨b1, o1, rfl, h1⟩
      · omega
      rcases HC.out with h0 | ⟨b2, o2, rfl, h2⟩
      · omega
      have p0 : wr.cell? ⟨b1, o1 + k * 3, none⟩ = some (.string l[k].1) := (HB.out.cell (p := ⟨b1, o1 + k * 3, none⟩) h1.1).trans (h1.2 k hkl 0 (by decide))
      have p1 : wr.cell? ⟨b1, o1 + k * 3 + 1, none⟩ = some (.string l[k].2.1) := (HB.out.cell (p := ⟨b1, o1 + k * 3 + 1, none⟩) h1.1).trans (h1.2 k hkl 1 (by decide))
      have p2 : wr.cell? ⟨b1, o1 + k * 3 + 2, none⟩ = some (.string l[k].2.2) := (HB.out.cell (p := ⟨b1, o1 + k * 3 + 2, none⟩) h1.1).trans (h1.2 k hkl 2 (by decide))
      have q0 : wr.cell? ⟨b2, o2 + k * 3, none⟩ = some (.string l[k].1) := (HB.out.cell (p := ⟨b2, o2 + k * 3, none⟩) h2.1).trans (h2.2 k hkl 0 (by decide))
      have q1 : wr.cell? ⟨b2, o2 + k * 3 + 1, none⟩ = some (.string l[k].2.1) := (HB.out.cell (p := ⟨b2, o2 + k * 3 + 1, none⟩) h2.1).trans (h2.2 k hkl 1 (by decide))
      have q2 : wr.cell? ⟨b2, o2 + k * 3 + 2, none⟩ = some (.string l[k].2.2) := (HB.out.cell (p := ⟨b2, o2 + k * 3 + 2, none⟩) h2.1).trans (h2.2 k hkl 2 (by decide))
      generalize l[k] = t at *
      obtain ⟨x, y, z⟩ := t
      simp only at p0 p1 p2 q0 q1 q2
      clear h1 h2
      have g1 : (k : Int) < (len : Int) := by omega
      have g2 : (0 : Int) ≤ (k : Int) := by omega
      go_wp2_with fail
      go_quiet (fail)
      go_wp2_with fail
      exact ⟨⟨k + 1, by omega, by go_num, hid (below_drewN HB.out nq)⟩, by simp [intOf]; omega⟩
    · obtain rfl : k = len := by omega
      go_wp2
      go_ret
      exact ⟨rfl, HB.out⟩
end Go.Proofs.YtppblibcbjpfnaaDoor.L
