import Derived.Test.YtnlohjcjboelgaaMerge
namespace Go.Proofs.Ytnlohjcjboelgaa.L
set_option linter.unusedVariables false
def key (x : It) : List UInt8 × Int := (x.1.toList, x.2)
theorem diffs_cons (z : Pr) (M : List Pr) : diffs (z :: M) = if z.2.2 < z.2.1 then (z.1, z.2.1 - z.2.2) :: diffs M else diffs M := by
  unfold diffs
  by_cases h : z.2.2 < z.2.1
  · rw [List.filter_cons_of_pos (by simpa using h), if_pos h]; rfl
  · rw [List.filter_cons_of_neg (by simpa using h), if_neg h]
theorem diffs_yes' (z : Pr) (M : List Pr) (h : z.2.2 < z.2.1) : diffs (z :: M) = (z.1, z.2.1 - z.2.2) :: diffs M := by rw [diffs_cons, if_pos h]
theorem diffs_no' (z : Pr) (M : List Pr) (h : ¬ z.2.2 < z.2.1) : diffs (z :: M) = diffs M := by rw [diffs_cons, if_neg h]
theorem diffs_gL_pos (n : ByteArray) (x y : Int) (M : List Pr) (h : 0 < x) : diffs (gL (n, x, y) :: M) = (n, x) :: diffs M := by
  refine (diffs_yes' (gL (n, x, y)) M (show y < x + y by omega)).trans ?_
  show (n, x + y - y) :: _ = _
  rw [show x + y - y = x by omega]
theorem diffs_gL_zero (n : ByteArray) (y : Int) (M : List Pr) : diffs (gL (n, 0, y) :: M) = diffs M := diffs_no' (gL (n, 0, y)) M (show ¬ y < 0 + y by omega)
theorem diffs_gR_pos (n : ByteArray) (x y : Int) (M : List Pr) (h : 0 < y) : diffs (gR (n, x, y) :: M) = (n, y) :: diffs M := by
  refine (diffs_yes' (gR (n, x, y)) M (show x < x + y by omega)).trans ?_
  show (n, x + y - x) :: _ = _
  rw [show x + y - x = y by omega]
theorem diffs_gR_zero (n : ByteArray) (x : Int) (M : List Pr) : diffs (gR (n, x, 0) :: M) = diffs M := diffs_no' (gR (n, x, 0)) M (show ¬ x < x + 0 by omega)
theorem away_c (n : Nat) (l c : List It) (h : l.length + c.length ≤ n) (hl : ∀ x ∈ l, 0 < x.2) : diffs ((mrg n l c).map gL) = l := by
  induction n generalizing l c with
  | zero =>
    obtain rfl : l = [] := by cases l with | nil => rfl | cons _ _ => simp at h
    rfl
  | succ n ih =>
    cases l with
    | nil => cases c with
      | nil => rfl
      | cons y c =>
        simp only [mrg, List.map_cons]
        rw [diffs_gL_zero]
        exact ih [] c (by simp at h ⊢; omega) (by simp)
    | cons x l =>
      have hx := hl x (by simp)
      have hl' : ∀ z ∈ l, 0 < z.2 := fun z hz => hl z (by simp [hz])
      cases c with
      | nil =>
        simp only [mrg, List.map_cons]
        rw [diffs_gL_pos _ _ _ _ hx, ih l [] (by simp at h ⊢; omega) hl']
      | cons y c =>
        simp at h
        cases h1 : Op.bytesLess x.1.toList y.1.toList
        · cases h2 : Op.bytesLess y.1.toList x.1.toList
          · simp only [mrg, h1, h2]
            simp
            rw [diffs_gL_pos _ _ _ _ hx, ih l c (by omega) hl']
          · simp only [mrg, h1, h2]
            simp
            rw [diffs_gL_zero]
            exact ih (x :: l) c (by simp; omega) hl
        · simp only [mrg, h1]
          simp
          rw [diffs_gL_pos _ _ _ _ hx, ih l (y :: c) (by simp; omega) hl']
theorem away_l (n : Nat) (l c : List It) (h : l.length + c.length ≤ n) (hc : ∀ x ∈ c, 0 < x.2) : (diffs ((mrg n l c).map gR)).map key = c.map key := by
  induction n generalizing l c with
  | zero =>
    obtain rfl : c = [] := by cases c with | nil => rfl | cons _ _ => simp at h
    rfl
  | succ n ih =>
    cases c with
    | nil => cases l with
      | nil => rfl
      | cons x l =>
        simp only [mrg, List.map_cons]
        rw [diffs_gR_zero]
        exact ih l [] (by simp at h ⊢; omega) (by simp)
    | cons y c =>
      have hy := hc y (by simp)
      have hc' : ∀ z ∈ c, 0 < z.2 := fun z hz => hc z (by simp [hz])
      cases l with
      | nil =>
        simp only [mrg, List.map_cons]
        rw [diffs_gR_pos _ _ _ _ hy, List.map_cons, ih [] c (by simp at h ⊢; omega) hc']
      | cons x l =>
        simp at h
        cases h1 : Op.bytesLess x.1.toList y.1.toList
        · cases h2 : Op.bytesLess y.1.toList x.1.toList
          · have e : x.1.toList = y.1.toList := by
              rcases less_total x.1.toList y.1.toList with g | g | g
              · rw [h1] at g; cases g
              · exact g
              · rw [h2] at g; cases g
            simp only [mrg, h1, h2]
            simp
            rw [diffs_gR_pos _ _ _ _ hy, List.map_cons, ih l c (by omega) hc']
            simp [key, e]
          · simp only [mrg, h1, h2]
            simp
            rw [diffs_gR_pos _ _ _ _ hy, List.map_cons, ih (x :: l) c (by simp; omega) hc']
        · simp only [mrg, h1]
          simp
          rw [diffs_gR_zero]
          have := ih l (y :: c) (by simp; omega) hc
          simpa using this
theorem mrg_swap (n : Nat) (l c : List It) : (mrg n c l).map (fun z => (z.1.toList, z.2.2, z.2.1)) = (mrg n l c).map (fun z => (z.1.toList, z.2.1, z.2.2)) := by
  induction n generalizing l c with
  | zero => rfl
  | succ n ih =>
    cases l with
    | nil => cases c with
      | nil => rfl
      | cons y c => simp only [mrg, List.map_cons]; rw [ih]
    | cons x l => cases c with
      | nil => simp only [mrg, List.map_cons]; rw [ih]
      | cons y c =>
        cases h1 : Op.bytesLess x.1.toList y.1.toList
        · cases h2 : Op.bytesLess y.1.toList x.1.toList
          · have e : x.1.toList = y.1.toList := by
              rcases less_total x.1.toList y.1.toList with g | g | g
              · rw [h1] at g; cases g
              · exact g
              · rw [h2] at g; cases g
            have := ih l c
            simp only [mrg, h1, h2]
            simp
            exact ⟨e.symm, this⟩
          · have := ih (x :: l) c
            simp only [mrg, h1, h2]
            simp
            exact this
        · have h2 := (less_asymm _ _ h1).1
          have := ih l (y :: c)
          simp only [mrg, h1, h2]
          simp
          exact this
/-- Names of the pairs come from the lists. -/
theorem mrg_from (n : Nat) (l c : List It) : ∀ z ∈ mrg n l c, (∃ x ∈ l, z.1 = x.1 ∧ z.2.1 = x.2 ∧ (z.2.2 = 0 ∨ ∃ y ∈ c, z.2.2 = y.2)) ∨ (∃ y ∈ c, z.1 = y.1 ∧ z.2.2 = y.2 ∧ z.2.1 = 0) := by
  induction n generalizing l c with
  | zero => intro z hz; simp [mrg] at hz
  | succ n ih =>
    have lift : ∀ (l' c' : List It), (∀ x ∈ l', x ∈ l) → (∀ y ∈ c', y ∈ c) → ∀ z ∈ mrg n l' c', (∃ x ∈ l, z.1 = x.1 ∧ z.2.1 = x.2 ∧ (z.2.2 = 0 ∨ ∃ y ∈ c, z.2.2 = y.2)) ∨ (∃ y ∈ c, z.1 = y.1 ∧ z.2.2 = y.2 ∧ z.2.1 = 0) := by
      intro l' c' hl hc z hz
      rcases ih l' c' z hz with ⟨x, hx, a, b, d⟩ | ⟨y, hy, a, b, d⟩
      · refine Or.inl ⟨x, hl x hx, a, b, ?_⟩
        rcases d with d | ⟨y, hy, d⟩
        · exact Or.inl d
        · exact Or.inr ⟨y, hc y hy, d⟩
      · exact Or.inr ⟨y, hc y hy, a, b, d⟩
    intro z hz
    cases l with
    | nil => cases c with
      | nil => simp [mrg] at hz
      | cons y c =>
        simp only [mrg, List.mem_cons] at hz
        rcases hz with rfl | hz
        · exact Or.inr ⟨y, by simp, rfl, rfl, rfl⟩
        · exact lift [] c (by simp) (fun y hy => by simp [hy]) z hz
    | cons x l => cases c with
      | nil =>
        simp only [mrg, List.mem_cons] at hz
        rcases hz with rfl | hz
        · exact Or.inl ⟨x, by simp, rfl, rfl, Or.inl rfl⟩
        · exact lift l [] (fun y hy => by simp [hy]) (by simp) z hz
      | cons y c =>
        simp only [mrg] at hz
        split at hz
        · rcases List.mem_cons.1 hz with rfl | hz
          · exact Or.inl ⟨x, by simp, rfl, rfl, Or.inl rfl⟩
          · exact lift l (y :: c) (fun y hy => by simp [hy]) (fun y hy => hy) z hz
        · split at hz
          · rcases List.mem_cons.1 hz with rfl | hz
            · exact Or.inr ⟨y, by simp, rfl, rfl, rfl⟩
            · exact lift (x :: l) c (fun y hy => hy) (fun y hy => by simp [hy]) z hz
          · rcases List.mem_cons.1 hz with rfl | hz
            · exact Or.inl ⟨x, by simp, rfl, rfl, Or.inr ⟨y, by simp, rfl⟩⟩
            · exact lift l c (fun y hy => by simp [hy]) (fun y hy => by simp [hy]) z hz
end Go.Proofs.Ytnlohjcjboelgaa.L
