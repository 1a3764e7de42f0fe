import Derived.Test.YtnlohjcjboelgaaRise
import Derived.Test.YtnlohjcjboelgaaMerge4
namespace Go.Proofs.Ytnlohjcjboelgaa.L
set_option linter.unusedVariables false
theorem place_neg (l : List It) (s : ByteArray) : placeN l s < 0 ↔ ∀ x ∈ l, x.1.toList ≠ s.toList := by
  have gen : ∀ n k, k + n = l.length → (plc l s n k < 0 ↔ ∀ x ∈ l.drop k, x.1.toList ≠ s.toList) := by
    intro n
    induction n with
    | zero =>
      intro k hk
      rw [List.drop_of_length_le (by omega)]
      simp [plc]
    | succ n ih =>
      intro k hk
      rw [List.drop_eq_getElem_cons (by omega), List.forall_mem_cons]
      have e : nm l k = (l[k]'(by omega)).1 := by unfold nm; simp [show k < l.length by omega]
      unfold plc
      rw [e]
      by_cases c : ((l[k]'(by omega)).1.toList == s.toList) = true
      · rw [if_pos c]
        exact ⟨fun h => by omega, fun h => absurd (by simpa using c) h.1⟩
      · rw [if_neg c, ih (k + 1) (by omega)]
        exact ⟨fun h => ⟨by simpa using c, h⟩, fun h => h.2⟩
  exact gen l.length 0 (by omega)
theorem restB_cons (l : List It) (y : It) (c : List It) : restB l (y :: c) = if placeN l y.1 < 0 then (y.1, 0) :: restB l c else restB l c := by
  unfold restB
  by_cases h : placeN l y.1 < 0
  · rw [List.filter_cons_of_pos (by simpa using h), if_pos h]; rfl
  · rw [List.filter_cons_of_neg (by simpa using h), if_neg h]
theorem restB_drop (x : It) (l c : List It) (h : ∀ y ∈ c, Op.bytesLess x.1.toList y.1.toList = true) : restB (x :: l) c = restB l c := by
  induction c with
  | nil => rfl
  | cons y c ih =>
    have hy := h y (by simp)
    have e : placeN (x :: l) y.1 < 0 ↔ placeN l y.1 < 0 := by
      rw [place_neg, place_neg, List.forall_mem_cons]
      refine ⟨fun g => g.2, fun g => ⟨fun e => ?_, g⟩⟩
      rw [e, less_irrefl] at hy
      cases hy
    rw [restB_cons, restB_cons, ih (fun z hz => h z (by simp [hz]))]
    by_cases p : placeN l y.1 < 0
    · rw [if_pos p, if_pos (e.2 p)]
    · rw [if_neg p, if_neg (fun g => p (e.1 g))]
theorem mrg_count (n : Nat) (l c : List It) (hn : l.length + c.length ≤ n) (hl : Up l) (hc : Up c) : (mrg n l c).length = l.length + (restB l c).length := by
  induction n generalizing l c with
  | zero =>
    obtain rfl : l = [] := by cases l with | nil => rfl | cons _ _ => simp at hn
    obtain rfl : c = [] := by cases c with | nil => rfl | cons _ _ => simp at hn
    rfl
  | succ n ih =>
    cases l with
    | nil => cases c with
      | nil => rfl
      | cons y c =>
        have := ih [] c (by simp at hn ⊢; omega) hl (List.pairwise_cons.1 hc).2
        rw [restB_cons, if_pos ((place_neg _ _).2 (by simp))]
        simp only [mrg, List.length_cons]
        omega
    | cons x l =>
      have hl' := List.pairwise_cons.1 hl
      cases c with
      | nil =>
        have := ih l [] (by simp at hn ⊢; omega) hl'.2 hc
        simp only [mrg, List.length_cons]
        simp [restB] at this ⊢
        omega
      | cons y c =>
        have hc' := List.pairwise_cons.1 hc
        simp at hn
        simp only [mrg]
        split
        · rename_i h1
          have := ih l (y :: c) (by simp; omega) hl'.2 hc
          rw [restB_drop x l (y :: c) (fun z hz => by
            rcases List.mem_cons.1 hz with rfl | hz
            · exact h1
            · exact less_trans _ _ _ h1 (hc'.1 z hz))]
          simp only [List.length_cons]
          omega
        · rename_i h1
          split
          · rename_i h2
            have := ih (x :: l) c (by simp; omega) hl hc'.2
            rw [restB_cons, if_pos ((place_neg _ _).2 (fun z hz => by
              intro e
              have : Op.bytesLess y.1.toList z.1.toList = true := by
                rcases List.mem_cons.1 hz with rfl | hz
                · exact h2
                · exact less_trans _ _ _ h2 (hl'.1 z hz)
              rw [e, less_irrefl] at this
              cases this))]
            simp only [List.length_cons] at this ⊢
            omega
          · rename_i h2
            have e : x.1.toList = y.1.toList := by
              rcases less_total x.1.toList y.1.toList with g | g | g
              · exact absurd g h1
              · exact g
              · exact absurd g h2
            have := ih l c (by omega) hl'.2 hc'.2
            rw [restB_cons, if_neg (fun g => (place_neg _ _).1 g x (by simp) e), restB_drop x l c (fun z hz => by rw [e]; exact hc'.1 z hz)]
            simp only [List.length_cons]
            omega
theorem mrg_full (n : Nat) (l c : List It) (hn : l.length + c.length ≤ n) : (∀ x ∈ l, ∃ z ∈ mrg n l c, z.1 = x.1) ∧ ∀ y ∈ c, (∀ x ∈ l, x.1.toList ≠ y.1.toList) → ∃ z ∈ mrg n l c, z.1 = y.1 := by
  induction n generalizing l c with
  | zero =>
    obtain rfl : l = [] := by cases l with | nil => rfl | cons _ _ => simp at hn
    obtain rfl : c = [] := by cases c with | nil => rfl | cons _ _ => simp at hn
    simp
  | succ n ih =>
    cases l with
    | nil => cases c with
      | nil => simp
      | cons y c =>
        obtain ⟨a, b⟩ := ih [] c (by simp at hn ⊢; omega)
        refine ⟨by simp, fun z hz hne => ?_⟩
        simp only [mrg]
        rcases List.mem_cons.1 hz with rfl | hz
        · exact ⟨_, List.mem_cons_self .., rfl⟩
        · obtain ⟨u, hu, e⟩ := b z hz hne
          exact ⟨u, List.mem_cons_of_mem _ hu, e⟩
    | cons x l => cases c with
      | nil =>
        obtain ⟨a, b⟩ := ih l [] (by simp at hn ⊢; omega)
        refine ⟨fun z hz => ?_, by simp⟩
        simp only [mrg]
        rcases List.mem_cons.1 hz with rfl | hz
        · exact ⟨_, List.mem_cons_self .., rfl⟩
        · obtain ⟨u, hu, e⟩ := a z hz
          exact ⟨u, List.mem_cons_of_mem _ hu, e⟩
      | cons y c =>
        simp at hn
        simp only [mrg]
        split
        · obtain ⟨a, b⟩ := ih l (y :: c) (by simp; omega)
          refine ⟨fun z hz => ?_, fun z hz hne => ?_⟩
          · rcases List.mem_cons.1 hz with rfl | hz
            · exact ⟨_, List.mem_cons_self .., rfl⟩
            · obtain ⟨u, hu, e⟩ := a z hz
              exact ⟨u, List.mem_cons_of_mem _ hu, e⟩
          · obtain ⟨u, hu, e⟩ := b z hz (fun w hw => hne w (List.mem_cons_of_mem _ hw))
            exact ⟨u, List.mem_cons_of_mem _ hu, e⟩
        · rename_i h1
          split
          · obtain ⟨a, b⟩ := ih (x :: l) c (by simp; omega)
            refine ⟨fun z hz => ?_, fun z hz hne => ?_⟩
            · obtain ⟨u, hu, e⟩ := a z hz
              exact ⟨u, List.mem_cons_of_mem _ hu, e⟩
            · rcases List.mem_cons.1 hz with rfl | hz
              · exact ⟨_, List.mem_cons_self .., rfl⟩
              · obtain ⟨u, hu, e⟩ := b z hz hne
                exact ⟨u, List.mem_cons_of_mem _ hu, e⟩
          · rename_i h2
            obtain ⟨a, b⟩ := ih l c (by omega)
            refine ⟨fun z hz => ?_, fun z hz hne => ?_⟩
            · rcases List.mem_cons.1 hz with rfl | hz
              · exact ⟨_, List.mem_cons_self .., rfl⟩
              · obtain ⟨u, hu, e⟩ := a z hz
                exact ⟨u, List.mem_cons_of_mem _ hu, e⟩
            · rcases List.mem_cons.1 hz with rfl | hz
              · exfalso
                rcases less_total x.1.toList z.1.toList with g | g | g
                · exact h1 g
                · exact hne x (by simp) g
                · exact h2 g
              · obtain ⟨u, hu, e⟩ := b z hz (fun w hw => hne w (List.mem_cons_of_mem _ hw))
                exact ⟨u, List.mem_cons_of_mem _ hu, e⟩
end Go.Proofs.Ytnlohjcjboelgaa.L
