import Derived.Test.YtkagdmhijjfnnaaDoorPrev
namespace Go.Proofs.YtkagdmhijjfnnaaDoor
open Go.RowKit Bs
theorem card_gap (S : Nat → Bool) {a b : Nat} (h : a ≤ b) (hn : ∀ t, a ≤ t → t < b → S t = false) : card b S = card a S := by
  obtain ⟨k, rfl⟩ : ∃ k, b = a + k := ⟨b - a, by omega⟩
  rw [card_shift, (card_zero_iff _ k).2 (fun i hi => hn (a + i) (by omega) (by omega)), Nat.add_zero]
theorem card_next (S : Nat → Bool) (a : Nat) (h : S a = true) : card (a + 1) S = card a S + 1 := by
  rw [card_shift]
  have : card 1 (fun b => S (a + b)) = 1 := by simp [card, h]
  omega
theorem next_sel {n : Nat} {S : Nat → Bool} {i r : Int} (h : IsNext n S i r) : IsSel n S ((rank n S i : Nat) : Int) r := by
  unfold rank
  rcases h with ⟨j, rfl, hj, hs, hi, ha⟩ | ⟨rfl, ha⟩
  · refine Or.inl ⟨j, rfl, hj, hs, ?_⟩
    have := card_gap S (a := min i.toNat n) (b := j) (by omega) (fun t h1 h2 => ha t (by omega) h2)
    omega
  · refine Or.inr ⟨rfl, Or.inr ?_⟩
    have := card_gap S (a := min i.toNat n) (b := n) (by omega) (fun t h1 h2 => ha t (by omega))
    omega
theorem prev_sel {n : Nat} {S : Nat → Bool} {i r : Int} (hno : ∀ a : Nat, i = a → S a = false) (h : IsPrev n S i r) : IsSel n S (((rank n S i : Nat) : Int) - 1) r := by
  unfold rank
  rcases h with ⟨j, rfl, hj, hs, hi, ha⟩ | ⟨rfl, ha⟩
  · refine Or.inl ⟨j, rfl, hj, hs, ?_⟩
    have hlt : (j : Int) < i := by
      apply Classical.byContradiction
      intro c
      rw [hno j (by omega)] at hs; cases hs
    have := card_gap S (a := j + 1) (b := min i.toNat n) (by omega) (fun t h1 h2 => ha t (by omega) (by omega))
    have := card_next S j hs
    omega
  · refine Or.inr ⟨rfl, Or.inl ?_⟩
    have := (card_zero_iff S (min i.toNat n)).2 (fun t ht => ha t (by omega))
    omega
theorem next_has {n : Nat} {S : Nat → Bool} (a : Nat) (h : a < n) (hs : S a = true) : IsNext n S a a := Or.inl ⟨a, rfl, h, hs, Int.le_refl _, fun t h1 h2 => by omega⟩
theorem prev_has {n : Nat} {S : Nat → Bool} (a : Nat) (h : a < n) (hs : S a = true) : IsPrev n S a a := Or.inl ⟨a, rfl, h, hs, Int.le_refl _, fun t h1 h2 => by omega⟩
theorem IsPrev.ex (n : Nat) (S : Nat → Bool) (i : Int) (hc : ∀ t, n ≤ t → S t = false) : ∃ r, IsPrev n S i r := by
  by_cases h : ∃ t : Nat, t < n ∧ (t : Int) ≤ i ∧ S t = true
  · have key : ∀ m, ∀ t : Nat, n ≤ t + m → t < n → (t : Int) ≤ i → S t = true → ∃ j : Nat, j < n ∧ S j = true ∧ (j : Int) ≤ i ∧ ∀ t : Nat, j < t → (t : Int) ≤ i → S t = false := by
      intro m
      induction m with
      | zero => intro t h1 h2; omega
      | succ m ih =>
        intro t h1 h2 h3 h4
        by_cases c : ∃ u : Nat, t < u ∧ (u : Int) ≤ i ∧ S u = true
        · obtain ⟨u, u1, u2, u3⟩ := c
          refine ih u (by omega) ?_ u2 u3
          apply Classical.byContradiction
          intro d
          rw [hc u (by omega)] at u3; cases u3
        · refine ⟨t, h2, h4, h3, fun u u1 u2 => ?_⟩
          cases e : S u
          · rfl
          · exact absurd ⟨u, u1, u2, e⟩ c
    obtain ⟨t, h1, h2, h3⟩ := h
    obtain ⟨j, a, b, c, d⟩ := key n t (by omega) h1 h2 h3
    exact ⟨j, Or.inl ⟨j, rfl, a, b, c, d⟩⟩
  · refine ⟨-1, Or.inr ⟨rfl, fun t ht => ?_⟩⟩
    cases e : S t
    · rfl
    · refine absurd ⟨t, ?_, ht, e⟩ h
      apply Classical.byContradiction
      intro d
      rw [hc t (by omega)] at e; cases e
theorem next_not {n : Nat} {S : Nat → Bool} {i r : Int} (hno : ∀ a : Nat, i = a → S a = false) (h : IsNext n S i r) (hr : r = i) : i < 0 := by
  rcases h with ⟨j, rfl, hj, hs, hi, ha⟩ | ⟨rfl, ha⟩
  · rw [hno j (by omega)] at hs; cases hs
  · omega
theorem has_false {p q n : Nat} {S : Nat → Bool} (i : Int) (w : World) (h : SetAt w p q n S) (hno : ∀ a : Nat, i = a → S a = false) :
    Calls Tryd.prog 30 #[.pointer (some ⟨p, 0, none⟩), .int .i64 i] w fun e w' => e = .returned (.bool false) ∧ ∃ m, w' = w.drewN m := by
  by_cases c : 0 ≤ i ∧ i < n
  · obtain ⟨a, rfl⟩ := Int.eq_ofNat_of_zero_le c.1
    have := has_set a w h (by omega)
    rwa [hno a rfl] at this
  · exact has_no p n i w h.c0 c
theorem rank_le (n : Nat) (S : Nat → Bool) (i : Int) (hn : n ≤ 65536) : rank n S i ≤ 65536 := by
  unfold rank
  have := card_le S (min i.toNat n)
  omega
end Go.Proofs.YtkagdmhijjfnnaaDoor
