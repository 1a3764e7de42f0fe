import Derived.Test.YtnlohjcjboelgaaMerge3
import Derived.Test.YtnlohjcjboelgaaSame
namespace Go.Proofs.Ytnlohjcjboelgaa.L
set_option linter.unusedVariables false
/-- All that the law needs of a right list. -/
theorem right_mem {l : List It} (h : checkN l = 0) (g : Good l) : ∀ x ∈ l, nameB x.1 = true ∧ 0 < x.2 ∧ x.2 ≤ 9223372036854775807 ∧ x.1.size ≤ maxLen := by
  intro x hx
  obtain ⟨j, hj, rfl⟩ := List.mem_iff_getElem.1 hx
  obtain ⟨a, b, _⟩ := flt_parts (check_flt h j hj)
  obtain ⟨d, _, e⟩ := g.2 j hj
  unfold nm am at *
  simp [hj] at a b d e
  exact ⟨a, b, e, d⟩
theorem check_of {l : List It} (hlen : l.length ≤ 16) (hn : ∀ x ∈ l, nameB x.1 = true ∧ 0 < x.2) (hu : Up l) : checkN l = 0 := by
  have f0 : ∀ j, j < l.length → flt l j = 0 := by
    intro j hj
    have hx := hn l[j] (List.getElem_mem hj)
    have e1 : nm l j = l[j].1 := by unfold nm; simp [hj]
    have e2 : am l j = l[j].2 := by unfold am; simp [hj]
    unfold flt
    rw [e1, e2, if_neg (by rw [hx.1]; decide), if_neg (by omega), if_neg]
    rintro ⟨h0, hle⟩
    have e3 : nm l (j - 1) = (l[j - 1]'(by omega)).1 := by unfold nm; simp [show j - 1 < l.length by omega]
    rw [e3] at hle
    have := (List.pairwise_iff_getElem.1 hu) (j - 1) j (by omega) hj (by omega)
    obtain ⟨q1, q2, q3⟩ := less_asymm _ _ this
    unfold leS at hle
    rw [q1, q3] at hle
    cases hle
  have gen : ∀ n k, k + n = l.length → chk l n k = 0 := by
    intro n
    induction n with
    | zero => intro k _; rfl
    | succ n ih =>
      intro k hk
      unfold chk
      rw [if_pos (f0 k (by omega))]
      exact ih (k + 1) (by omega)
  unfold checkN
  rw [if_neg (by omega)]
  exact gen l.length 0 (by omega)
theorem good_of' {l : List It} (hlen : l.length ≤ 32) (hn : ∀ x ∈ l, 0 ≤ x.2 ∧ x.2 ≤ 9223372036854775807 ∧ x.1.size ≤ maxLen) : Good l := by
  refine ⟨⟨by unfold maxLen; omega, by omega⟩, fun j hj => ?_⟩
  have := hn l[j] (List.getElem_mem hj)
  have e : l.getD j (ByteArray.empty, 0) = l[j] := by simp [hj]
  unfold nm am
  rw [e]
  exact ⟨this.2.2, by omega, this.2.1⟩
theorem bounds_of {M : List Pr} (h : ∀ z ∈ M, 0 ≤ z.2.1 ∧ z.2.1 ≤ 9223372036854775807 ∧ 0 ≤ z.2.2 ∧ z.2.2 ≤ 9223372036854775807) : ∀ j, j < M.length → 0 ≤ px M j ∧ px M j ≤ 9223372036854775807 ∧ 0 ≤ py M j ∧ py M j ≤ 9223372036854775807 := by
  intro j hj
  have := h M[j] (List.getElem_mem hj)
  unfold px py
  rw [getD_pr M j hj]
  exact this
/-- The pairs of two right lists. -/
theorem mrg_right {l c : List It} (h1 : checkN l = 0) (h2 : checkN c = 0) (g1 : Good l) (g2 : Good c) (n : Nat) : ∀ z ∈ mrg n l c, nameB z.1 = true ∧ z.1.size ≤ maxLen ∧ 0 ≤ z.2.1 ∧ z.2.1 ≤ 9223372036854775807 ∧ 0 ≤ z.2.2 ∧ z.2.2 ≤ 9223372036854775807 ∧ 0 < z.2.1 + z.2.2 := by
  intro z hz
  rcases mrg_from n l c z hz with ⟨x, hx, a, b, d⟩ | ⟨y, hy, a, b, d⟩
  · obtain ⟨p, q, r, s⟩ := right_mem h1 g1 x hx
    rcases d with d | ⟨y, hy, d⟩
    · rw [a]
      exact ⟨p, s, by omega, by omega, by omega, by omega, by omega⟩
    · obtain ⟨p', q', r', s'⟩ := right_mem h2 g2 y hy
      rw [a]
      exact ⟨p, s, by omega, by omega, by omega, by omega, by omega⟩
  · obtain ⟨p', q', r', s'⟩ := right_mem h2 g2 y hy
    rw [a]
    exact ⟨p', s', by omega, by omega, by omega, by omega, by omega⟩
theorem sums_right {l c : List It} (h1 : checkN l = 0) (h2 : checkN c = 0) (g1 : Good l) (g2 : Good c) (hlen : (mrg 40 l c).length ≤ 16) (hov : overAt (mrg 40 l c) (mrg 40 l c).length 0 = none) : checkN (sums (mrg 40 l c)) = 0 ∧ Good (sums (mrg 40 l c)) := by
  have mem : ∀ x ∈ sums (mrg 40 l c), ∃ z ∈ mrg 40 l c, x = (z.1, z.2.1 + z.2.2) := by
    intro x hx
    unfold sums at hx
    obtain ⟨z, hz, rfl⟩ := List.mem_map.1 hx
    exact ⟨z, hz, rfl⟩
  have len : (sums (mrg 40 l c)).length = (mrg 40 l c).length := by unfold sums; rw [List.length_map]
  have ov := (overAt_none _).1 hov
  constructor
  · refine check_of (by omega) (fun x hx => ?_) ?_
    · obtain ⟨z, hz, rfl⟩ := mem x hx
      have := mrg_right h1 h2 g1 g2 40 z hz
      exact ⟨this.1, this.2.2.2.2.2.2⟩
    · unfold Up sums
      rw [List.pairwise_map]
      exact mrg_up 40 l c (up_of h1) (up_of h2)
  · refine good_of' (by omega) (fun x hx => ?_)
    obtain ⟨z, hz, rfl⟩ := mem x hx
    have := mrg_right h1 h2 g1 g2 40 z hz
    have o := ov z hz
    exact ⟨by show 0 ≤ z.2.1 + z.2.2; omega, by show z.2.1 + z.2.2 ≤ _; omega, this.2.1⟩
/-- Same by keys. -/
theorem keys_same {l c : List It} (h : l.map key = c.map key) : l.length = c.length ∧ ∀ j, j < l.length → (nm l j).toList = (nm c j).toList ∧ am l j = am c j := by
  have hl : l.length = c.length := by simpa using congrArg List.length h
  refine ⟨hl, fun j hj => ?_⟩
  have := congrArg (fun x => x[j]?) h
  simp [hj, show j < c.length by omega, key] at this
  unfold nm am
  simp [hj, show j < c.length by omega]
  exact this
theorem swap_sums (n : Nat) (l c : List It) : (sums (mrg n c l)).map key = (sums (mrg n l c)).map key := by
  have h := congrArg (List.map fun t : List UInt8 × Int × Int => (t.1, t.2.1 + t.2.2)) (mrg_swap n l c)
  simp only [List.map_map] at h
  unfold sums
  rw [List.map_map, List.map_map]
  refine Eq.trans ?_ (h.trans ?_)
  · apply List.map_congr_left
    intro z _
    simp [key, Int.add_comm]
  · apply List.map_congr_left
    intro z _
    simp [key]
theorem swap_len (n : Nat) (l c : List It) : (mrg n c l).length = (mrg n l c).length := by
  simpa using congrArg List.length (mrg_swap n l c)
theorem swap_over (n : Nat) (l c : List It) : overAt (mrg n c l) (mrg n c l).length 0 = none ↔ overAt (mrg n l c) (mrg n l c).length 0 = none := by
  have h : ∀ (a b : List Pr), a.map (fun z => (z.1.toList, z.2.2, z.2.1)) = b.map (fun z => (z.1.toList, z.2.1, z.2.2)) → (∀ z ∈ b, z.2.1 ≤ 9223372036854775807 - z.2.2) → ∀ z ∈ a, z.2.1 ≤ 9223372036854775807 - z.2.2 := by
    intro a b e hb z hz
    have : (z.1.toList, z.2.2, z.2.1) ∈ b.map (fun z => (z.1.toList, z.2.1, z.2.2)) := by rw [← e]; exact List.mem_map.2 ⟨z, hz, rfl⟩
    obtain ⟨y, hy, ey⟩ := List.mem_map.1 this
    simp at ey
    have := hb y hy
    omega
  rw [overAt_none, overAt_none]
  exact ⟨h _ _ (mrg_swap n c l), h _ _ (mrg_swap n l c)⟩
end Go.Proofs.Ytnlohjcjboelgaa.L
