import Derived.Test.YtppblibcbjpfnaaDoorTl4
namespace Go.Proofs.YtppblibcbjpfnaaDoor.L
open Go.RowKit Go.Sort
set_option linter.unusedVariables false
set_option maxHeartbeats 4000000 in
set_option maxRecDepth 100000 in
theorem rises_any (v : Value) (l : List Tn) (w : World) (hc : ItemsG 3 tf w v l) (hl : l.length ≤ maxLen) (hu : l.Pairwise fun x y => tltB x y = true) : Calls Tryd.prog 18 #[v] w fun e w' => e = .returned (.bool true) ∧ RowKit.Below w.heap.size w w' := by
  unfold maxLen at hl
  obtain ⟨a, cap, rfl, hc⟩ := hc
  have HA := hid hc
  have HU := hid hu
  clear hc hu
  obtain ⟨len, hlen⟩ : ∃ n, n = l.length := ⟨_, rfl⟩
  have HLEN := hid hlen
  rw [← hlen] at hl ⊢
  clear hlen
  go_enter Tryd.func18, Tryd.ntmps18
  go_wp2_with fail
  go_loopw [3] (fun i wr => ∃ k : Nat, i = .int .i64 (k + 1 : Nat) ∧ (k + 1 ≤ len ∨ (k = 0 ∧ len = 0)) ∧ Hid (RowKit.Below w.heap.size w wr)) (fun i _ => len + 1 - (intOf i).toNat)
  case atStart => exact ⟨0, rfl, by omega, hid (RowKit.Below.refl _ _)⟩
  case round =>
    obtain ⟨k, rfl, hk, HB⟩ := hrel
    by_cases hlt : k + 1 < len
    · have hkl : k + 1 < l.length := by rw [← HLEN.out]; exact hlt
      rcases HA.out with h0 | ⟨b, off, rfl, hat⟩
      · omega
      have hbl := hat.1
      have c0 : wr.cell? ⟨b, off + k * 3, none⟩ = some (.string l[k].1) := (HB.out.cell (p := ⟨b, off + k * 3, none⟩) hbl).trans (hat.2 k (by omega) 0 (by decide))
      have c2 : wr.cell? ⟨b, off + k * 3 + 2, none⟩ = some (.string l[k].2.2) := (HB.out.cell (p := ⟨b, off + k * 3 + 2, none⟩) hbl).trans (hat.2 k (by omega) 2 (by decide))
      have d0 : wr.cell? ⟨b, off + (k + 1) * 3, none⟩ = some (.string l[k + 1].1) := (HB.out.cell (p := ⟨b, off + (k + 1) * 3, none⟩) hbl).trans (hat.2 (k + 1) hkl 0 (by decide))
      have d2 : wr.cell? ⟨b, off + (k + 1) * 3 + 2, none⟩ = some (.string l[k + 1].2.2) := (HB.out.cell (p := ⟨b, off + (k + 1) * 3 + 2, none⟩) hbl).trans (hat.2 (k + 1) hkl 2 (by decide))
      have s2 : b < wr.heap.size := Nat.lt_of_lt_of_le hbl HB.out.size
      have ht := List.pairwise_iff_getElem.1 HU.out k (k + 1) (by omega) hkl (by omega)
      generalize l[k] = x at *
      generalize l[k + 1] = y at *
      obtain ⟨x0, x1, x2⟩ := x
      obtain ⟨y0, y1, y2⟩ := y
      simp only at c0 c2 d0 d2
      unfold tltB at ht
      simp only [Bool.or_eq_true, Bool.and_eq_true, eqS_iff] at ht
      clear hat
      have g0 : (0 : Int) ≤ (k : Int) := by omega
      have g1 : (k : Int) + 1 < (len : Int) := by omega
      have g2 : (0 : Int) ≤ (k : Int) + 1 := by omega
      have g3 : (k : Int) < (len : Int) := by omega
      have hwr : IntKind.i64.wrap (k : Int) = (k : Int) := by rw [IntKind.wrap_i64]; omega
      rcases ht with h | ⟨h, h'⟩
      · obtain ⟨a1, a2, a3⟩ := less_asymm _ _ h
        clear h
        go_wp2_with fail
        go_quiet (fail)
        go_wp2_with fail
        exact ⟨⟨k + 1, by go_num, by omega, hid (below_drewN HB.out nq)⟩, by simp [intOf]; omega⟩
      · subst h
        obtain ⟨a1, a2, a3⟩ := less_asymm _ _ h'
        have a4 := less_irrefl x0.toList
        have a5 : (x0.toList == x0.toList) = true := by simp
        clear h'
        go_wp2_with fail
        go_quiet (fail)
        go_wp2_with fail
        exact ⟨⟨k + 1, by go_num, by omega, hid (below_drewN HB.out nq)⟩, by simp [intOf]; omega⟩
    · have g1 : ¬ (k : Int) + 1 < (len : Int) := by omega
      go_wp2
      go_ret
      exact ⟨rfl, HB.out⟩
end Go.Proofs.YtppblibcbjpfnaaDoor.L
