import Derived.Test.YtodamoblnlcodaaDoorLw1
namespace Go.Proofs.YtodamoblnlcodaaDoor.L
open Go.RowKit
set_option linter.unusedVariables false
set_option maxHeartbeats 4000000 in
set_option maxRecDepth 100000 in
theorem same_long (v1 v2 : Value) (l : List Lb) (w : World) (i1 : Items w v1 l) (i2 : Items w v2 l) (hl : l.length ≤ 4398046512000) :
    Calls Tryd.prog 20 #[v1, v2] w fun e w' => e = .returned (.bool true) ∧ Below w.heap.size w w' := by
  obtain ⟨a1, c1, rfl, h1⟩ := i1
  obtain ⟨a2, c2, rfl, h2⟩ := i2
  generalize l.length = len at *
  go_enter Tryd.func20, Tryd.ntmps20
  go_wp2
  go_loopw [5] (fun i wr => ∃ k : Nat, k ≤ len ∧ i = .int .i64 k ∧ Hid (Below w.heap.size w wr)) (fun i _ => len - (intOf i).toNat)
  case atStart => exact ⟨0, Nat.zero_le _, rfl, hid (Below.refl _ _)⟩
  case round =>
    obtain ⟨k, hk, rfl, HB⟩ := hrel
    by_cases hlt : k < len
    · rcases h1 with h0 | ⟨b1, o1, rfl, hb1, hc1⟩
      · omega
      rcases h2 with h0 | ⟨b2, o2, rfl, hb2, hc2⟩
      · omega
      obtain ⟨p0, p1⟩ := hc1 k hlt
      obtain ⟨q0, q1⟩ := hc2 k hlt
      rw [← HB.out.cell (p := ⟨b1, o1 + k * 2, none⟩) hb1] at p0
      rw [← HB.out.cell (p := ⟨b1, o1 + k * 2 + 1, none⟩) hb1] at p1
      rw [← HB.out.cell (p := ⟨b2, o2 + k * 2, none⟩) hb2] at q0
      rw [← HB.out.cell (p := ⟨b2, o2 + k * 2 + 1, none⟩) hb2] at q1
      generalize ky l k = s1 at *
      generalize vl l k = s2 at *
      clear hc1 hc2
      have g1 : (k : Int) < (len : Int) := by omega
      have g2 : (0 : Int) ≤ (k : Int) := by omega
      go_wp2_with fail
      go_quiet (fail)
      go_wp2_with fail
      exact ⟨⟨k + 1, by omega, by go_num, hid (below_drewN HB.out nq)⟩, by simp [intOf]; omega⟩
    · obtain rfl : k = len := by omega
      go_wp2
      go_ret
      exact ⟨rfl, HB.out⟩
theorem own_part {w : World} {base g N cap : Nat} {l c : List Lb} (h : Own w base (.slice (some ⟨g, 0, none⟩) N cap) (l ++ c)) (L : Nat) (hL : L = l.length) : Items w (.slice (some ⟨g, 0, none⟩) L cap) l := by
  subst hL
  obtain ⟨a', c', e, hr⟩ := own_items h
  injection e with e1 _ _
  refine ⟨_, cap, rfl, ?_⟩
  rcases hr with h0 | ⟨b, off, ea, hb, hc⟩
  · rw [List.length_append] at h0
    exact Or.inl (by omega)
  · rw [ea] at e1
    refine Or.inr ⟨b, off, e1, hb, fun j hj => ?_⟩
    have := hc j (by rw [List.length_append]; omega)
    simp only [ky, vl, List.getD_eq_getElem?_getD, List.getElem?_append_left hj] at this ⊢
    exact this
theorem own_last {w : World} {base g N cap : Nat} {l : List Lb} {k : Nat} (h : Own w base (.slice (some ⟨g, 0, none⟩) N cap) (l ++ spr 80)) (hk : l.length ≤ k) (hk2 : k < l.length + 80) : w.cell? ⟨g, k * 2, none⟩ = some (.string sBang) ∧ w.cell? ⟨g, k * 2 + 1, none⟩ = some (.string sSpare) := by
  obtain ⟨a', c', e, hr⟩ := own_items h
  injection e with e1 _ _
  rcases hr with h0 | ⟨b, off, ea, hb, hc⟩
  · rw [List.length_append, spr_len] at h0
    omega
  · rw [ea] at e1
    injection e1 with e1
    injection e1 with e1 e2 _
    subst e1 e2
    have := hc k (by rw [List.length_append, spr_len]; omega)
    rw [Nat.zero_add] at this
    have e3 : (l ++ spr 80)[k]? = some (sBang, sSpare) := by
      rw [List.getElem?_append_right hk]
      unfold spr
      rw [List.getElem?_replicate, if_pos (by omega)]
    simp only [ky, vl, List.getD_eq_getElem?_getD, e3, Option.getD] at this
    exact this
set_option maxHeartbeats 4000000 in
set_option maxRecDepth 100000 in
/-- untouched: the whole of it, and the list. -/
theorem untouched_any (base g cap L : Nat) (v : Value) (l : List Lb) (w : World) (h : Own w base (.slice (some ⟨g, 0, none⟩) (L + 80) cap) (l ++ spr 80)) (hL : L = l.length) (hi : Items w v l) (hl : L ≤ 4398046511000) : Calls Tryd.prog 9 #[.slice (some ⟨g, 0, none⟩) (L + 80) cap, v] w fun e w' => e = .returned (.bool true) ∧ Below w.heap.size w w' := by
  have SA := hid (same_long _ v l w (own_part h L hL) hi (by omega))
  obtain ⟨av, cv, hv, _⟩ := hi
  rw [← hL] at hv
  subst hv
  have hcap : L ≤ cap := by
    rcases h.2 with ⟨e, _⟩ | ⟨g', cp', cur, e, _, _, hc, _⟩
    · cases e
    · injection e with _ e2 e3
      rw [List.length_append, spr_len] at hc
      omega
  have HO := hid h
  have HL := hid hL
  clear h hL
  go_enter Tryd.func9, Tryd.ntmps9
  go_wp2_with fail
  refine SA.out.mono ?_
  rintro e w1 ⟨rfl, b1⟩
  have HB := hid b1
  have HO1 := hid (own_low HO.out b1)
  clear b1 HO
  go_wp2_with fail
  go_loopw [5] (fun i wr => ∃ k : Nat, L ≤ k ∧ k ≤ L + 80 ∧ i = .int .i64 k ∧ Hid (Below w1.heap.size w1 wr)) (fun i _ => L + 80 - (intOf i).toNat)
  case atStart => exact ⟨L, Nat.le_refl _, by omega, rfl, hid (Below.refl _ _)⟩
  case round =>
    obtain ⟨k, hk1, hk2, rfl, HW⟩ := hrel
    by_cases hlt : k < L + 80
    · have g1 : (k : Int) < (L : Int) + 80 := by omega
      have g2 : (k : Int) < ((L + 80 : Nat) : Int) := by omega
      have g0 : (0 : Int) ≤ (k : Int) := by omega
      have c := own_last (own_low HO1.out HW.out) (by rw [← HL.out]; exact hk1) (by rw [← HL.out]; exact hlt)
      have c0 := c.1
      have c1 := c.2
      unfold sBang at c0
      unfold sSpare at c1
      clear c
      go_wp2_with fail
      exact ⟨⟨k + 1, by omega, by omega, by go_num, HW⟩, by simp [intOf]; omega⟩
    · obtain rfl : k = L + 80 := by omega
      have g1 : ¬ ((L + 80 : Nat) : Int) < ((L + 80 : Nat) : Int) := by omega
      have R := hid (HB.out.trans (HW.out.mono HB.out.size))
      go_wp2_with fail
      go_ret
      exact ⟨rfl, R.out⟩
end Go.Proofs.YtodamoblnlcodaaDoor.L
