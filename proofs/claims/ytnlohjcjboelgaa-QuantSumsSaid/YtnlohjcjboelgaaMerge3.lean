import Derived.Test.YtnlohjcjboelgaaMerge2
namespace Go.Proofs.Ytnlohjcjboelgaa.L
set_option linter.unusedVariables false
def UpP (M : List Pr) : Prop := M.Pairwise fun x y => Op.bytesLess x.1.toList y.1.toList = true
theorem up_of {l : List It} (h : checkN l = 0) : Up l := by
  unfold Up
  rw [List.pairwise_iff_getElem]
  intro i j hi hj hij
  have := rises h i j hij hj
  unfold nm at this
  simpa [hi, hj] using this
theorem mrg_up (n : Nat) (l c : List It) (hl : Up l) (hc : Up c) : UpP (mrg n l c) := by
  induction n generalizing l c with
  | zero => simp [mrg, UpP]
  | succ n ih =>
    have key : ∀ (s : ByteArray) (p : Int × Int) (l' c' : List It), Up l' → Up c' → (∀ x ∈ l', Op.bytesLess s.toList x.1.toList = true) → (∀ x ∈ c', Op.bytesLess s.toList x.1.toList = true) → UpP ((s, p) :: mrg n l' c') := by
      intro s p l' c' h1 h2 h3 h4
      refine List.pairwise_cons.2 ⟨fun z hz => ?_, ih l' c' h1 h2⟩
      rcases mrg_from n l' c' z hz with ⟨x, hx, e, _⟩ | ⟨y, hy, e, _⟩
      · rw [e]; exact h3 x hx
      · rw [e]; exact h4 y hy
    cases l with
    | nil => cases c with
      | nil => simp [mrg, UpP]
      | cons y c =>
        have hc' := List.pairwise_cons.1 hc
        exact key y.1 (0, y.2) [] c hl hc'.2 (by simp) hc'.1
    | cons x l =>
      have hl' := List.pairwise_cons.1 hl
      cases c with
      | nil => exact key x.1 (x.2, 0) l [] hl'.2 hc hl'.1 (by simp)
      | cons y c =>
        have hc' := List.pairwise_cons.1 hc
        simp only [mrg]
        split
        · rename_i h1
          exact key x.1 (x.2, 0) l (y :: c) hl'.2 hc hl'.1 (fun z hz => by
            rcases List.mem_cons.1 hz with rfl | hz
            · exact h1
            · exact less_trans _ _ _ h1 (hc'.1 z hz))
        · rename_i h1
          split
          · rename_i h2
            exact key y.1 (0, y.2) (x :: l) c hl hc'.2 (fun z hz => by
              rcases List.mem_cons.1 hz with rfl | hz
              · exact h2
              · exact less_trans _ _ _ h2 (hl'.1 z hz)) hc'.1
          · rename_i h2
            have e : x.1.toList = y.1.toList := by
              rcases less_total x.1.toList y.1.toList with g | g | g
              · exact absurd g h1
              · exact g
              · exact absurd g h2
            exact key x.1 (x.2, y.2) l c hl'.2 hc'.2 hl'.1 (fun z hz => by rw [e]; exact hc'.1 z hz)
/-- The amount of a name, over the list itself. -/
def getS : List It → List UInt8 → Int
  | [], _ => 0
  | x :: l, s => if x.1.toList = s then x.2 else getS l s
theorem get_eq (l : List It) (s : ByteArray) : getN l s = getS l s.toList := by
  have gen : ∀ n k, k + n = l.length → get l s n k = getS (l.drop k) s.toList := by
    intro n
    induction n with
    | zero =>
      intro k hk
      rw [List.drop_of_length_le (by omega)]
      rfl
    | succ n ih =>
      intro k hk
      rw [List.drop_eq_getElem_cons (by omega)]
      have e : nm l k = (l[k]'(by omega)).1 := by unfold nm; simp [show k < l.length by omega]
      have e' : am l k = (l[k]'(by omega)).2 := by unfold am; simp [show k < l.length by omega]
      unfold get getS
      rw [e, e', ih (k + 1) (by omega)]
      simp
  exact gen l.length 0 (by omega)
theorem getS_none (l : List It) (s : List UInt8) (h : ∀ x ∈ l, Op.bytesLess s x.1.toList = true) : getS l s = 0 := by
  induction l with
  | nil => rfl
  | cons x l ih =>
    unfold getS
    rw [if_neg (by intro e; have := h x (by simp); rw [e, less_irrefl] at this; cases this)]
    exact ih (fun z hz => h z (by simp [hz]))
theorem mrg_get (n : Nat) (l c : List It) (hn : l.length + c.length ≤ n) (hl : Up l) (hc : Up c) : ∀ z ∈ mrg n l c, getS l z.1.toList = z.2.1 ∧ getS c z.1.toList = z.2.2 := by
  induction n generalizing l c with
  | zero => intro z hz; simp [mrg] at hz
  | succ n ih =>
    have skip : ∀ (x : It) (l : List It) (s : List UInt8), Op.bytesLess x.1.toList s = true → getS (x :: l) s = getS l s := by
      intro x l s h
      show (if x.1.toList = s then x.2 else getS l s) = _
      rw [if_neg (by intro e; rw [e, less_irrefl] at h; cases h)]
    have hit : ∀ (x : It) (l : List It) (s : List UInt8), x.1.toList = s → getS (x :: l) s = x.2 := by
      intro x l s h
      show (if x.1.toList = s then x.2 else getS l s) = _
      rw [if_pos h]
    have above : ∀ (s : List UInt8) (l' c' : List It), (∀ x ∈ l', Op.bytesLess s x.1.toList = true) → (∀ x ∈ c', Op.bytesLess s x.1.toList = true) → ∀ z ∈ mrg n l' c', Op.bytesLess s z.1.toList = true := by
      intro s l' c' h3 h4 z hz
      rcases mrg_from n l' c' z hz with ⟨x, hx, e, _⟩ | ⟨y, hy, e, _⟩
      · rw [e]; exact h3 x hx
      · rw [e]; exact h4 y hy
    cases l with
    | nil => cases c with
      | nil => intro z hz; simp [mrg] at hz
      | cons y c =>
        have hc' := List.pairwise_cons.1 hc
        intro z hz
        simp only [mrg, List.mem_cons] at hz
        rcases hz with rfl | hz
        · exact ⟨rfl, hit y c _ rfl⟩
        · have := ih [] c (by simp at hn ⊢; omega) hl hc'.2 z hz
          rw [skip y c _ (above y.1.toList [] c (by simp) hc'.1 z hz)]
          exact this
    | cons x l =>
      have hl' := List.pairwise_cons.1 hl
      cases c with
      | nil =>
        intro z hz
        simp only [mrg, List.mem_cons] at hz
        rcases hz with rfl | hz
        · exact ⟨hit x l _ rfl, rfl⟩
        · have := ih l [] (by simp at hn ⊢; omega) hl'.2 hc z hz
          rw [skip x l _ (above x.1.toList l [] hl'.1 (by simp) z hz)]
          exact this
      | cons y c =>
        have hc' := List.pairwise_cons.1 hc
        simp at hn
        intro z hz
        simp only [mrg] at hz
        split at hz
        · rename_i h1
          have hyc : ∀ w ∈ y :: c, Op.bytesLess x.1.toList w.1.toList = true := fun w hw => by
            rcases List.mem_cons.1 hw with rfl | hw
            · exact h1
            · exact less_trans _ _ _ h1 (hc'.1 w hw)
          rcases List.mem_cons.1 hz with rfl | hz
          · exact ⟨hit x l _ rfl, getS_none _ _ hyc⟩
          · have := ih l (y :: c) (by simp; omega) hl'.2 hc z hz
            rw [skip x l _ (above x.1.toList l (y :: c) hl'.1 hyc z hz)]
            exact this
        · rename_i h1
          split at hz
          · rename_i h2
            have hxl : ∀ w ∈ x :: l, Op.bytesLess y.1.toList w.1.toList = true := fun w hw => by
              rcases List.mem_cons.1 hw with rfl | hw
              · exact h2
              · exact less_trans _ _ _ h2 (hl'.1 w hw)
            rcases List.mem_cons.1 hz with rfl | hz
            · exact ⟨getS_none _ _ hxl, hit y c _ rfl⟩
            · have := ih (x :: l) c (by simp; omega) hl hc'.2 z hz
              rw [skip y c _ (above y.1.toList (x :: l) c hxl hc'.1 z hz)]
              exact this
          · rename_i h2
            have e : x.1.toList = y.1.toList := by
              rcases less_total x.1.toList y.1.toList with g | g | g
              · exact absurd g h1
              · exact g
              · exact absurd g h2
            rcases List.mem_cons.1 hz with rfl | hz
            · exact ⟨hit x l _ rfl, hit y c _ e.symm⟩
            · have := ih l c (by omega) hl'.2 hc'.2 z hz
              have ab := above x.1.toList l c hl'.1 (fun w hw => by rw [e]; exact hc'.1 w hw) z hz
              rw [skip x l _ ab, skip y c _ (by rw [← e]; exact ab)]
              exact this
theorem overAt_none (M : List Pr) : overAt M M.length 0 = none ↔ ∀ z ∈ M, z.2.1 ≤ 9223372036854775807 - z.2.2 := by
  have gen : ∀ n k, k + n = M.length → (overAt M n k = none ↔ ∀ z ∈ M.drop k, z.2.1 ≤ 9223372036854775807 - z.2.2) := by
    intro n
    induction n with
    | zero =>
      intro k hk
      rw [List.drop_of_length_le (by omega)]
      simp [overAt]
    | succ n ih =>
      intro k hk
      rw [List.drop_eq_getElem_cons (by omega)]
      have e : px M k = (M[k]'(by omega)).2.1 := by unfold px; simp [show k < M.length by omega]
      have e' : py M k = (M[k]'(by omega)).2.2 := by unfold py; simp [show k < M.length by omega]
      unfold overAt
      rw [e, e']
      by_cases c : (M[k]'(by omega)).2.1 > 9223372036854775807 - (M[k]'(by omega)).2.2
      · rw [if_pos c, List.forall_mem_cons]
        exact ⟨fun h => (by cases h), fun h => absurd h.1 (by omega)⟩
      · rw [if_neg c, ih (k + 1) (by omega), List.forall_mem_cons]
        exact ⟨fun h => ⟨by omega, h⟩, fun h => h.2⟩
  exact gen M.length 0 (by omega)
theorem underAt_none (M : List Pr) (h : ∀ z ∈ M, z.2.2 ≤ z.2.1) : underAt M M.length 0 = none := by
  have gen : ∀ n k, k + n = M.length → underAt M n k = none := by
    intro n
    induction n with
    | zero => intro k hk; rfl
    | succ n ih =>
      intro k hk
      have e : px M k = (M[k]'(by omega)).2.1 := by unfold px; simp [show k < M.length by omega]
      have e' : py M k = (M[k]'(by omega)).2.2 := by unfold py; simp [show k < M.length by omega]
      have := h (M[k]'(by omega)) (List.getElem_mem _)
      unfold underAt
      rw [e, e', if_neg (by omega)]
      exact ih (k + 1) (by omega)
  exact gen M.length 0 (by omega)
end Go.Proofs.Ytnlohjcjboelgaa.L
