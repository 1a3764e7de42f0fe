import Derived.Test.YtodamoblnlcodaaDoorDfp
namespace Go.Proofs.YtodamoblnlcodaaDoor.L
open Go.RowKit
set_option linter.unusedVariables false
theorem get_other {x : Lb} {a : List Lb} {s : ByteArray} (h : x.1 ≠ s) : getN (x :: a) s = getN a s := by rw [get_cons, if_neg h]
/-- A key of which no difference speaks has one answer in both lists. -/
theorem df_full : ∀ (n : Nat) (a b : List Lb), a.length + b.length ≤ n → ∀ s : ByteArray, (∀ d ∈ df a b, d.k ≠ s) → getN a s = getN b s := by
  intro n
  induction n with
  | zero =>
    intro a b h s _
    obtain rfl := List.eq_nil_of_length_eq_zero (show a.length = 0 by omega)
    obtain rfl := List.eq_nil_of_length_eq_zero (show b.length = 0 by omega)
    rfl
  | succ n ih =>
    intro a b h s hs
    cases a with
    | nil =>
      cases b with
      | nil => rfl
      | cons y b =>
        rw [df] at hs
        rw [get_other (x := y) (hs _ (List.mem_cons_self ..))]
        exact ih [] b (by simp at h ⊢; omega) s fun d hd => hs d (List.mem_cons_of_mem _ hd)
    | cons x a =>
      cases b with
      | nil =>
        rw [df] at hs
        rw [get_other (x := x) (hs _ (List.mem_cons_self ..))]
        exact ih a [] (by simp at h ⊢; omega) s fun d hd => hs d (List.mem_cons_of_mem _ hd)
      | cons y b =>
        rw [df] at hs
        split at hs
        · rw [get_other (x := x) (hs _ (List.mem_cons_self ..))]
          exact ih a (y :: b) (by simp at h ⊢; omega) s fun d hd => hs d (List.mem_cons_of_mem _ hd)
        · split at hs
          · rw [get_other (x := y) (hs _ (List.mem_cons_self ..))]
            exact ih (x :: a) b (by simp at h ⊢; omega) s fun d hd => hs d (List.mem_cons_of_mem _ hd)
          · rename_i l1 l2
            have ek : x.1 = y.1 := by
              rcases less_total x.1.toList y.1.toList with h | h | h
              · exact absurd h l1
              · exact bytes_ext h
              · exact absurd h l2
            split at hs
            · rename_i ev
              have I := ih a b (by simp at h ⊢; omega) s hs
              rw [get_cons, get_cons, ek, ev, I]
            · have e1 : x.1 ≠ s := hs _ (List.mem_cons_self ..)
              rw [get_other e1, get_other (show y.1 ≠ s by rw [← ek]; exact e1)]
              exact ih a b (by simp at h ⊢; omega) s fun d hd => hs d (List.mem_cons_of_mem _ hd)
/-- What is kept and what is put in are just the other list. -/
theorem patch_mem {a b : List Lb} (ua : Up a) (ub : Up b) (x : Lb) : ((x ∈ a ∧ ∀ d ∈ df a b, d.k ≠ x.1) ∨ ∃ d ∈ df a b, d.has = true ∧ x = (d.k, d.n)) ↔ x ∈ b := by
  have hS := df_says _ a b (Nat.le_refl _) ua ub
  have hF := df_full _ a b (Nat.le_refl _)
  have yes : ∀ {l : List Lb} {s v : ByteArray}, getN l s = (v, true) → (s, v) ∈ l := fun {l s v} h => by
    have := (get_yes (l := l) (s := s) (by rw [h])).2
    rw [h] at this
    exact this
  constructor
  · rintro (⟨hx, hn⟩ | ⟨d, hd, hh, rfl⟩)
    · have e := hF x.1 hn
      rw [get_up ua hx] at e
      exact yes e.symm
    · have e := hS.new d hd
      rw [hh] at e
      exact yes e
  · intro hx
    have e := get_up ub hx
    by_cases hd : ∀ d ∈ df a b, d.k ≠ x.1
    · have e2 := hF x.1 hd
      rw [e] at e2
      exact Or.inl ⟨yes e2, hd⟩
    · right
      obtain ⟨d, hd⟩ := Classical.not_forall.1 hd
      obtain ⟨hm, hk⟩ := Classical.not_imp.1 hd
      have hk := Classical.not_not.1 hk
      have en := hS.new d hm
      rw [hk, e] at en
      obtain ⟨h1, h2⟩ := Prod.mk.inj en
      exact ⟨d, hm, h2.symm, by rw [hk, ← h1]⟩
/-- The way back: swapped differences. -/
theorem df_swap : ∀ (n : Nat) (a b : List Lb), a.length + b.length ≤ n → df b a = (df a b).map fun d => ⟨d.k, d.n, d.o, d.has, d.had⟩ := by
  intro n
  induction n with
  | zero =>
    intro a b h
    obtain rfl := List.eq_nil_of_length_eq_zero (show a.length = 0 by omega)
    obtain rfl := List.eq_nil_of_length_eq_zero (show b.length = 0 by omega)
    rw [df]
    rfl
  | succ n ih =>
    intro a b h
    cases a with
    | nil =>
      cases b with
      | nil => rw [df]; rfl
      | cons y b =>
        rw [df, df, List.map_cons, ih [] b (by simp at h ⊢; omega)]
        rfl
    | cons x a =>
      cases b with
      | nil =>
        rw [df, df, List.map_cons, ih a [] (by simp at h ⊢; omega)]
        rfl
      | cons y b =>
        have k1 := ih a (y :: b) (by simp at h ⊢; omega)
        have k2 := ih (x :: a) b (by simp at h ⊢; omega)
        have k3 := ih a b (by simp at h ⊢; omega)
        rw [df.eq_4, df.eq_4]
        by_cases l1 : Op.bytesLess x.1.toList y.1.toList = true
        · have z := (less_asymm _ _ l1).1
          rw [if_neg (by rw [z]; decide), if_pos l1, if_pos l1, List.map_cons, k1]
          rfl
        · by_cases l2 : Op.bytesLess y.1.toList x.1.toList = true
          · rw [if_pos l2, if_neg l1, if_pos l2, List.map_cons, k2]
            rfl
          · have ek : x.1 = y.1 := by
              rcases less_total x.1.toList y.1.toList with h | h | h
              · exact absurd h l1
              · exact bytes_ext h
              · exact absurd h l2
            rw [if_neg l2, if_neg l1, if_neg l1, if_neg l2]
            by_cases ev : x.2 = y.2
            · rw [if_pos ev.symm, if_pos ev, k3]
            · rw [if_neg (fun e => ev e.symm), if_neg ev, List.map_cons, k3]
              unfold dChg
              rw [ek]
end Go.Proofs.YtodamoblnlcodaaDoor.L
