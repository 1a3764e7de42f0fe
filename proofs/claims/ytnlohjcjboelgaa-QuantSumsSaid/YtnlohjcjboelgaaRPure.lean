import Derived.Test.YtnlohjcjboelgaaRSub
namespace Go.Proofs.Ytnlohjcjboelgaa.L
set_option linter.unusedVariables false
theorem overAt_some {M : List Pr} {n k K : Nat} (h : overAt M n k = some K) : k ≤ K ∧ K < k + n ∧ px M K > 9223372036854775807 - py M K ∧ ∀ j, k ≤ j → j < K → ¬ px M j > 9223372036854775807 - py M j := by
  induction n generalizing k with
  | zero => cases h
  | succ n ih =>
    unfold overAt at h
    split at h
    · rename_i c
      cases h
      exact ⟨Nat.le_refl _, by omega, c, fun j h1 h2 => by omega⟩
    · rename_i c
      obtain ⟨a, b, d, e⟩ := ih h
      refine ⟨by omega, by omega, d, fun j h1 h2 => ?_⟩
      by_cases g : j = k
      · rw [g]; exact c
      · exact e j (by omega) h2
theorem underAt_some {M : List Pr} {n k K : Nat} (h : underAt M n k = some K) : k ≤ K ∧ K < k + n ∧ px M K < py M K ∧ ∀ j, k ≤ j → j < K → ¬ px M j < py M j := by
  induction n generalizing k with
  | zero => cases h
  | succ n ih =>
    unfold underAt at h
    split at h
    · rename_i c
      cases h
      exact ⟨Nat.le_refl _, by omega, c, fun j h1 h2 => by omega⟩
    · rename_i c
      obtain ⟨a, b, d, e⟩ := ih h
      refine ⟨by omega, by omega, d, fun j h1 h2 => ?_⟩
      by_cases g : j = k
      · rw [g]; exact c
      · exact e j (by omega) h2
theorem underAt_no {M : List Pr} {n k : Nat} (h : underAt M n k = none) : ∀ j, k ≤ j → j < k + n → ¬ px M j < py M j := by
  induction n generalizing k with
  | zero => intro j h1 h2; omega
  | succ n ih =>
    unfold underAt at h
    split at h
    · cases h
    · rename_i c
      intro j h1 h2
      by_cases g : j = k
      · rw [g]; exact c
      · exact ih h j (by omega) (by omega)
theorem lackAt_some {l c : List It} {n k K : Nat} (h : lackAt l c n k = some K) : k ≤ K ∧ K < k + n ∧ getN l (nm c K) < am c K ∧ ∀ j, k ≤ j → j < K → ¬ getN l (nm c j) < am c j := by
  induction n generalizing k with
  | zero => cases h
  | succ n ih =>
    unfold lackAt at h
    split at h
    · rename_i c
      cases h
      exact ⟨Nat.le_refl _, by omega, c, fun j h1 h2 => by omega⟩
    · rename_i c
      obtain ⟨a, b, d, e⟩ := ih h
      refine ⟨by omega, by omega, d, fun j h1 h2 => ?_⟩
      by_cases g : j = k
      · rw [g]; exact c
      · exact e j (by omega) h2
theorem lackAt_no {l c : List It} {n k : Nat} (h : lackAt l c n k = none) : ∀ j, k ≤ j → j < k + n → ¬ getN l (nm c j) < am c j := by
  induction n generalizing k with
  | zero => intro j h1 h2; omega
  | succ n ih =>
    unfold lackAt at h
    split at h
    · cases h
    · rename_i c
      intro j h1 h2
      by_cases g : j = k
      · rw [g]; exact c
      · exact ih h j (by omega) (by omega)
theorem pr_at {M : List Pr} {j : Nat} (h : j < M.length) : M[j] ∈ M ∧ pn M j = M[j].1 ∧ px M j = M[j].2.1 ∧ py M j = M[j].2.2 := by
  refine ⟨List.getElem_mem h, ?_, ?_, ?_⟩
  · unfold pn; simp [h]
  · unfold px; simp [h]
  · unfold py; simp [h]
theorem up_lt {M : List Pr} (hu : UpP M) {i j : Nat} (h : i < j) (hj : j < M.length) : Op.bytesLess (pn M i).toList (pn M j).toList = true := by
  unfold UpP at hu
  rw [List.pairwise_iff_getElem] at hu
  rw [(pr_at (show i < M.length by omega)).2.1, (pr_at hj).2.1]
  exact hu i j (by omega) hj h
theorem up_at {l : List It} (hu : Up l) {i j : Nat} (h : i < j) (hj : j < l.length) : Op.bytesLess (nm l i).toList (nm l j).toList = true := by
  unfold Up at hu
  rw [List.pairwise_iff_getElem] at hu
  have e : ∀ k (hk : k < l.length), nm l k = l[k].1 := fun k hk => by unfold nm; simp [hk]
  rw [e i (by omega), e j hj]
  exact hu i j (by omega) hj h
/-- Two lists that check well. -/
structure Two (l c : List It) : Prop where
  o1 : checkN l = 0
  o2 : checkN c = 0
  g1 : Good l
  g2 : Good c
theorem Two.n {l c : List It} (t : Two l c) : l.length + c.length ≤ 40 := by have := check_len t.o1; have := check_len t.o2; omega
theorem Two.pos {l c : List It} (t : Two l c) : ∀ x ∈ l, 0 < x.2 := fun x hx => (right_mem t.o1 t.g1 x hx).2.1
theorem Two.over {l c : List It} (t : Two l c) {i : Nat} {z : Pr} (hz : z ∈ mrg 40 l c) (e : z.1 = nm (bothL l c) i) : overI l c (bothL l c) i ↔ 9223372036854775807 - z.2.2 < z.2.1 := by
  have gg := mrg_get 40 l c t.n (up_of t.o1) (up_of t.o2) z hz
  unfold overI
  rw [get_eq, get_eq, ← e, gg.1, gg.2]
theorem Two.over_none {l c : List It} (t : Two l c) (h : overAt (mrg 40 l c) (mrg 40 l c).length 0 = none) : ∀ i, i < (bothL l c).length → ¬ overI l c (bothL l c) i := by
  intro i hi ho
  obtain ⟨z, hz, e⟩ := mrg_of_both t.n i hi
  have := (overAt_none _).1 h z hz
  rw [t.over hz e] at ho
  omega
theorem Two.over_some {l c : List It} (t : Two l c) {K : Nat} (h : overAt (mrg 40 l c) (mrg 40 l c).length 0 = some K) : ∃ i, i < (bothL l c).length ∧ overI l c (bothL l c) i ∧ nm (bothL l c) i = pn (mrg 40 l c) K := by
  obtain ⟨_, a, b, _⟩ := overAt_some h
  obtain ⟨m, e1, e2, e3⟩ := pr_at (show K < (mrg 40 l c).length by omega)
  obtain ⟨i, hi, e⟩ := both_of_mrg t.n (up_of t.o1) (up_of t.o2) t.pos _ m
  refine ⟨i, hi, ?_, by rw [e, e1]⟩
  rw [t.over m e.symm, ← e2, ← e3]
  exact b
theorem Two.over_name {l c : List It} (t : Two l c) {K q : Nat} {s : ByteArray} (h : overAt (mrg 40 l c) (mrg 40 l c).length 0 = some K) (hq : q < (bothL l c).length) (oq : overI l c (bothL l c) q) (es : s = nm (bothL l c) q)
    (hl : ∀ i, i < (bothL l c).length → overI l c (bothL l c) i → (nm (bothL l c) i).toList = s.toList ∨ Op.bytesLess s.toList (nm (bothL l c) i).toList = true) : (pn (mrg 40 l c) K).toList = s.toList := by
  obtain ⟨i, hi, oi, ei⟩ := t.over_some h
  obtain ⟨_, a, b, d⟩ := overAt_some h
  obtain ⟨z, hz, e⟩ := mrg_of_both t.n q hq
  rw [t.over hz e] at oq
  obtain ⟨j, hj, rfl⟩ := List.mem_iff_getElem.1 hz
  obtain ⟨m, e1, e2, e3⟩ := pr_at hj
  have kj : K ≤ j := by
    apply Classical.byContradiction
    intro n
    refine d j (by omega) (by omega) ?_
    rw [e2, e3]
    exact oq
  have pj : pn (mrg 40 l c) j = s := by rw [e1, e, es]
  by_cases g : K = j
  · rw [g, pj]
  · have lt := up_lt (mrg_up 40 l c (up_of t.o1) (up_of t.o2)) (show K < j by omega) hj
    rw [pj] at lt
    rcases hl i hi oi with x | x
    · rw [ei] at x; exact x
    · rw [ei, (less_asymm _ _ lt).1] at x; cases x
theorem Two.nonz_sums {l c : List It} (t : Two l c) : nonz (sums (mrg 40 l c)) = sums (mrg 40 l c) := by
  unfold nonz sums
  rw [List.filter_eq_self]
  intro x hx
  obtain ⟨z, hz, rfl⟩ := List.mem_map.1 hx
  have := (mrg_right t.o1 t.o2 t.g1 t.g2 40 z hz).2.2.2.2.2.2
  simp
  omega
theorem getS_at {c : List It} (hu : Up c) : ∀ i, i < c.length → getS c (nm c i).toList = am c i := by
  induction c with
  | nil => intro i hi; simp at hi
  | cons y c ih =>
    obtain ⟨h1, h2⟩ := List.pairwise_cons.1 hu
    intro i hi
    cases i with
    | zero => unfold getS; rw [show nm (y :: c) 0 = y.1 from rfl, if_pos rfl]; rfl
    | succ i =>
      have := ih h2 i (by simp at hi; omega)
      rw [show nm (y :: c) (i + 1) = nm c i by simp [nm], show am (y :: c) (i + 1) = am c i by simp [am]]
      unfold getS
      rw [if_neg, this]
      intro e
      obtain ⟨x, hx, e2, _⟩ := nm_mem (l := c) (i := i) (by simp at hi; omega)
      have lt := h1 x hx
      rw [← e2, e, less_irrefl] at lt
      cases lt
theorem getS_from {c : List It} {s : List UInt8} (h : getS c s ≠ 0) : ∃ i, i < c.length ∧ (nm c i).toList = s ∧ am c i = getS c s := by
  induction c with
  | nil => exact absurd rfl h
  | cons y c ih =>
    unfold getS at h ⊢
    by_cases g : y.1.toList = s
    · rw [if_pos g] at h ⊢
      exact ⟨0, by simp, g, rfl⟩
    · rw [if_neg g] at h ⊢
      obtain ⟨i, a, b, d⟩ := ih h
      exact ⟨i + 1, by simp; omega, by rw [← b]; simp [nm], by rw [← d]; simp [am]⟩
theorem Two.under_lack {l c : List It} (t : Two l c) {j : Nat} (hj : j < (mrg 40 l c).length) (h : px (mrg 40 l c) j < py (mrg 40 l c) j) : ∃ i, i < c.length ∧ (nm c i).toList = (pn (mrg 40 l c) j).toList ∧ getN l (nm c i) < am c i := by
  obtain ⟨m, e1, e2, e3⟩ := pr_at hj
  have gg := mrg_get 40 l c t.n (up_of t.o1) (up_of t.o2) _ m
  have rr := mrg_right t.o1 t.o2 t.g1 t.g2 40 _ m
  obtain ⟨i, a, b, d⟩ := getS_from (c := c) (s := (mrg 40 l c)[j].1.toList) (by rw [gg.2]; omega)
  refine ⟨i, a, by rw [b, e1], ?_⟩
  rw [get_eq, b, gg.1, d, gg.2]
  omega
theorem Two.lack_under {l c : List It} (t : Two l c) {i : Nat} (hi : i < c.length) (h : getN l (nm c i) < am c i) : ∃ j, j < (mrg 40 l c).length ∧ (pn (mrg 40 l c) j).toList = (nm c i).toList ∧ px (mrg 40 l c) j < py (mrg 40 l c) j := by
  obtain ⟨y, hy, e1, e2⟩ := nm_mem hi
  obtain ⟨f1, f2⟩ := mrg_full 40 l c t.n
  have key : ∃ z ∈ mrg 40 l c, z.1.toList = (nm c i).toList := by
    by_cases g : ∀ x ∈ l, x.1.toList ≠ y.1.toList
    · obtain ⟨z, hz, e⟩ := f2 y hy g
      exact ⟨z, hz, by rw [e, e1]⟩
    · have : ∃ x ∈ l, x.1.toList = y.1.toList := by
        apply Classical.byContradiction
        intro n
        exact g (fun x hx e => n ⟨x, hx, e⟩)
      obtain ⟨x, hx, ex⟩ := this
      obtain ⟨z, hz, e⟩ := f1 x hx
      exact ⟨z, hz, by rw [e, ex, e1]⟩
  obtain ⟨z, hz, e⟩ := key
  have gg := mrg_get 40 l c t.n (up_of t.o1) (up_of t.o2) z hz
  obtain ⟨j, hj, rfl⟩ := List.mem_iff_getElem.1 hz
  obtain ⟨m, p1, p2, p3⟩ := pr_at hj
  refine ⟨j, hj, by rw [p1, e], ?_⟩
  rw [p2, p3, ← gg.1, ← gg.2, e, getS_at (up_of t.o2) i hi, ← get_eq]
  exact h
theorem Two.sub_none {l c : List It} (t : Two l c) : underAt (mrg 40 l c) (mrg 40 l c).length 0 = none ↔ lackAt l c c.length 0 = none := by
  constructor
  · intro h
    cases g : lackAt l c c.length 0 with
    | none => rfl
    | some k =>
      obtain ⟨_, a, b, _⟩ := lackAt_some g
      obtain ⟨j, hj, _, hu⟩ := t.lack_under (by omega) b
      exact absurd hu (underAt_no h j (by omega) (by omega))
  · intro h
    cases g : underAt (mrg 40 l c) (mrg 40 l c).length 0 with
    | none => rfl
    | some k =>
      obtain ⟨_, a, b, _⟩ := underAt_some g
      obtain ⟨j, hj, _, hu⟩ := t.under_lack (by omega) b
      exact absurd hu (lackAt_no h j (by omega) (by omega))
theorem Two.sub_name {l c : List It} (t : Two l c) {K k : Nat} (h : underAt (mrg 40 l c) (mrg 40 l c).length 0 = some K) (h' : lackAt l c c.length 0 = some k) : (pn (mrg 40 l c) K).toList = (nm c k).toList := by
  obtain ⟨_, a, b, d⟩ := underAt_some h
  obtain ⟨_, a', b', d'⟩ := lackAt_some h'
  obtain ⟨i, hi, ei, hu⟩ := t.under_lack (by omega) b
  obtain ⟨j, hj, ej, hv⟩ := t.lack_under (by omega) b'
  have ki : k ≤ i := by
    apply Classical.byContradiction
    intro n
    exact d' i (by omega) (by omega) hu
  have kj : K ≤ j := by
    apply Classical.byContradiction
    intro n
    exact d j (by omega) (by omega) hv
  by_cases g1 : k = i
  · rw [g1, ei]
  · have l1 := up_at (up_of t.o2) (show k < i by omega) hi
    by_cases g2 : K = j
    · rw [g2, ej]
    · have l2 := up_lt (mrg_up 40 l c (up_of t.o1) (up_of t.o2)) (show K < j by omega) hj
      rw [ei] at l1
      rw [ej] at l2
      rw [(less_asymm _ _ l1).1] at l2
      cases l2
theorem diffs_nonz (M : List Pr) (h : ∀ z ∈ M, z.2.2 ≤ z.2.1) : nonz (M.map fun z => (z.1, z.2.1 - z.2.2)) = diffs M := by
  induction M with
  | nil => rfl
  | cons z M ih =>
    have ih := ih (fun y hy => h y (by simp [hy]))
    have hz := h z (by simp)
    rw [diffs_cons, List.map_cons]
    unfold nonz at ih ⊢
    by_cases g : z.2.2 < z.2.1
    · rw [if_pos g, List.filter_cons_of_pos (by simp; omega), ih]
    · rw [if_neg g, List.filter_cons_of_neg (by simp; omega), ih]
theorem Two.diffs {l c : List It} (t : Two l c) (h : underAt (mrg 40 l c) (mrg 40 l c).length 0 = none) : nonz ((mrg 40 l c).map fun z => (z.1, z.2.1 - z.2.2)) = L.diffs (mrg 40 l c) := by
  refine diffs_nonz _ (fun z hz => ?_)
  obtain ⟨j, hj, rfl⟩ := List.mem_iff_getElem.1 hz
  obtain ⟨m, p1, p2, p3⟩ := pr_at hj
  have := underAt_no h j (by omega) (by omega)
  omega
end Go.Proofs.Ytnlohjcjboelgaa.L
