import Derived.Test.YtnlohjcjboelgaaUni
import Derived.Laws.Closers25b
namespace Go.Proofs.Ytnlohjcjboelgaa.L
set_option linter.unusedVariables false
/-- The elements that 'both' answers. -/
def bothL (l c : List It) : List It := zeros l ++ restB l c
theorem both_len {l c : List It} (hn : l.length + c.length ≤ 40) (hl : Up l) (hc : Up c) : (bothL l c).length = (mrg 40 l c).length := by
  rw [mrg_count 40 l c hn hl hc]
  unfold bothL zeros
  rw [List.length_append, List.length_map]
theorem nm_mem {l : List It} {i : Nat} (h : i < l.length) : ∃ x ∈ l, nm l i = x.1 ∧ am l i = x.2 := ⟨l[i], List.getElem_mem h, by unfold nm; simp [h], by unfold am; simp [h]⟩
theorem mem_nm {l : List It} {x : It} (h : x ∈ l) : ∃ i, i < l.length ∧ nm l i = x.1 ∧ am l i = x.2 := by
  obtain ⟨i, hi, rfl⟩ := List.mem_iff_getElem.1 h
  exact ⟨i, hi, by unfold nm; simp [hi], by unfold am; simp [hi]⟩
theorem getS_pos {l : List It} (hp : ∀ x ∈ l, 0 < x.2) {s : List UInt8} (h : getS l s = 0) : ∀ x ∈ l, x.1.toList ≠ s := by
  induction l with
  | nil => simp
  | cons y l ih =>
    unfold getS at h
    intro x hx e
    by_cases c : y.1.toList = s
    · rw [if_pos c] at h
      have := hp y (by simp)
      omega
    · rw [if_neg c] at h
      rcases List.mem_cons.1 hx with rfl | hx
      · exact c e
      · exact ih (fun z hz => hp z (by simp [hz])) h x hx e
theorem both_of_mrg {l c : List It} (hn : l.length + c.length ≤ 40) (hl : Up l) (hc : Up c) (hp : ∀ x ∈ l, 0 < x.2) : ∀ z ∈ mrg 40 l c, ∃ i, i < (bothL l c).length ∧ nm (bothL l c) i = z.1 := by
  intro z hz
  have gg := mrg_get 40 l c hn hl hc z hz
  rcases mrg_from 40 l c z hz with ⟨x, hx, e, _⟩ | ⟨y, hy, e, e2, e3⟩
  · obtain ⟨i, a, b, _⟩ := mem_nm (l := bothL l c) (x := (x.1, 0)) (List.mem_append_left _ (List.mem_map.2 ⟨x, hx, rfl⟩))
    exact ⟨i, a, by rw [b, e]⟩
  · have ne := getS_pos hp (gg.1.trans e3)
    obtain ⟨i, a, b, _⟩ := mem_nm (l := bothL l c) (x := (y.1, 0)) (List.mem_append_right _ (List.mem_map.2 ⟨y, List.mem_filter.2 ⟨hy, by simpa using (place_neg l y.1).2 (fun x hx => by rw [← e]; exact ne x hx)⟩, rfl⟩))
    exact ⟨i, a, by rw [b, e]⟩
theorem mrg_of_both {l c : List It} (hn : l.length + c.length ≤ 40) : ∀ i, i < (bothL l c).length → ∃ z ∈ mrg 40 l c, z.1 = nm (bothL l c) i := by
  intro i hi
  obtain ⟨x, hx, e, _⟩ := nm_mem hi
  obtain ⟨f1, f2⟩ := mrg_full 40 l c hn
  rw [e]
  rcases List.mem_append.1 hx with hx | hx
  · obtain ⟨y, hy, rfl⟩ := List.mem_map.1 hx
    exact f1 y hy
  · obtain ⟨y, hy, rfl⟩ := List.mem_map.1 hx
    obtain ⟨hy, hp⟩ := List.mem_filter.1 hy
    exact f2 y hy ((place_neg l y.1).1 (by simpa using hp))
theorem both_distinct {l c : List It} (hl : Up l) (hc : Up c) : ∀ i j, i < (bothL l c).length → j < (bothL l c).length → (nm (bothL l c) i).toList = (nm (bothL l c) j).toList → i = j := by
  have pw : (bothL l c).Pairwise fun x y => x.1.toList ≠ y.1.toList := by
    unfold bothL
    rw [List.pairwise_append]
    have ne : ∀ {x y : It}, Op.bytesLess x.1.toList y.1.toList = true → x.1.toList ≠ y.1.toList := by
      intro x y h e
      rw [e, less_irrefl] at h
      cases h
    refine ⟨?_, ?_, ?_⟩
    · unfold zeros
      rw [List.pairwise_map]
      exact hl.imp (fun h => ne h)
    · unfold restB
      rw [List.pairwise_map]
      exact (List.Pairwise.filter _ hc).imp (fun h => ne h)
    · intro x hx y hy
      obtain ⟨x', hx', rfl⟩ := List.mem_map.1 hx
      obtain ⟨y', hy', rfl⟩ := List.mem_map.1 hy
      exact (place_neg l y'.1).1 (by simpa using (List.mem_filter.1 hy').2) x' hx'
  rw [List.pairwise_iff_getElem] at pw
  intro i j hi hj e
  have e1 : ∀ k (h : k < (bothL l c).length), nm (bothL l c) k = (bothL l c)[k].1 := fun k h => by unfold nm; simp [h]
  rw [e1 i hi, e1 j hj] at e
  rcases Nat.lt_trichotomy i j with h | h | h
  · exact absurd e (pw i j hi hj h)
  · exact h
  · exact absurd e.symm (pw j i hj hi h)
theorem less_nil {s : ByteArray} (h : nameB s = true) : Op.bytesLess (⟨#[]⟩ : ByteArray).toList s.toList = true := by
  have e : (⟨#[]⟩ : ByteArray).toList = [] := (toList_nil_iff_emptyBytes _).2 rfl
  rw [e]
  cases hs : s.toList with
  | nil =>
    have := (toList_nil_iff_emptyBytes s).1 hs
    subst this
    unfold nameB at h
    simp at h
  | cons a x => rfl
/-- What both lists' elements come to, in their order. -/
theorem sorts_of {l c A : List It} (g : Pr → Int) (hn : l.length + c.length ≤ 40) (hl : Up l) (hc : Up c) (hp : ∀ x ∈ l, 0 < x.2) (hnm : ∀ z ∈ mrg 40 l c, nameB z.1 = true)
    (ha : A.length = (bothL l c).length) (hA : ∀ i, i < A.length → nm A i = nm (bothL l c) i) (hg : ∀ i, i < A.length → ∀ z ∈ mrg 40 l c, z.1 = nm (bothL l c) i → am A i = g z) :
    Sorts A ((mrg 40 l c).map fun z => (z.1, g z)) := by
  have bl := both_len hn hl hc
  have up := mrg_up 40 l c hl hc
  unfold UpP at up
  rw [List.pairwise_iff_getElem] at up
  have di := both_distinct hl hc
  have nT : ∀ k (h : k < (mrg 40 l c).length), nm ((mrg 40 l c).map fun z => (z.1, g z)) k = ((mrg 40 l c)[k]).1 := fun k h => by unfold nm; simp [h]
  have aT : ∀ k (h : k < (mrg 40 l c).length), am ((mrg 40 l c).map fun z => (z.1, g z)) k = g ((mrg 40 l c)[k]) := fun k h => by unfold am; simp [h]
  refine ⟨by rw [List.length_map]; omega, fun i j hi hj e => ?_, fun k hk => ?_⟩
  · rw [hA i hi, hA j hj] at e
    exact di i j (by omega) (by omega) e
  · rw [List.length_map] at hk
    obtain ⟨q, hq, eq⟩ := both_of_mrg hn hl hc hp _ (List.getElem_mem hk)
    have hqA : q < A.length := by omega
    have prvE : ∀ j (hj : j < (mrg 40 l c).length), Op.bytesLess (prv ((mrg 40 l c).map fun z => (z.1, g z)) k).toList ((mrg 40 l c)[j]).1.toList = true ↔ k ≤ j := by
      intro j hj
      unfold prv
      by_cases k0 : k = 0
      · rw [if_pos k0]
        exact ⟨fun _ => by omega, fun _ => less_nil (hnm _ (List.getElem_mem hj))⟩
      · rw [if_neg k0, nT (k - 1) (by omega)]
        refine ⟨fun h => ?_, fun h => up (k - 1) j (by omega) hj (by omega)⟩
        apply Classical.byContradiction
        intro n
        by_cases e : j = k - 1
        · subst e
          rw [less_irrefl] at h
          cases h
        · have := up j (k - 1) hj (by omega) (by omega)
          rw [(less_asymm _ _ this).1] at h
          cases h
    refine ⟨q, hqA, by rw [hA q hqA, eq, nT k hk], by rw [hg q hqA _ (List.getElem_mem hk) eq.symm, aT k hk], ?_, fun i hi hpr => ?_⟩
    · rw [hA q hqA, eq]
      exact (prvE k hk).2 (Nat.le_refl _)
    · rw [hA i hi] at hpr ⊢
      rw [hA q hqA, eq]
      obtain ⟨z, hz, ez⟩ := mrg_of_both hn i (by omega)
      obtain ⟨j, hj, rfl⟩ := List.mem_iff_getElem.1 hz
      rw [← ez] at hpr ⊢
      have kj := (prvE j hj).1 hpr
      by_cases e : j = k
      · subst e
        left
        exact di i q (by omega) hq (by rw [eq, ez])
      · exact Or.inr (up k j hk hj (by omega))
end Go.Proofs.Ytnlohjcjboelgaa.L
