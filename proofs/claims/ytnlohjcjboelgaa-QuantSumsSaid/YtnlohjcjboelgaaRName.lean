import Derived.Test.YtnlohjcjboelgaaNames
namespace Go.Proofs.Ytnlohjcjboelgaa.L
open Go.RowKit
set_option linter.unusedVariables false
/-- What the j-th byte of a name must be. -/
def byteB (s : ByteArray) (j : Nat) : Prop := okB (at' s j) = true ∧ (j = 0 → letB (at' s j) = true) ∧ (j + 1 = s.size → (letB (at' s j) || digB (at' s j)) = true)
theorem name_all (s : ByteArray) (h0 : 1 ≤ s.size) (h1 : s.size ≤ 32) (h : ∀ j, j < s.size → byteB s j) : nameB s = true := by
  rw [name_good s h0 h1 (fun j hj => (h j hj).1), (h 0 (by omega)).2.1 rfl, (h (s.size - 1) (by omega)).2.2 (by omega)]
  rfl
theorem name_none (s : ByteArray) (k : Nat) (hk : k < s.size) (h : ¬ byteB s k) : nameB s = false := by
  cases e : nameB s
  · rfl
  · exfalso
    apply h
    unfold nameB at e
    simp only [Bool.and_eq_true, decide_eq_true_eq] at e
    refine ⟨e.1.1.2.2 k hk, fun h0 => ?_, fun hl => ?_⟩
    · rw [h0]; exact e.1.2
    · rw [show k = s.size - 1 by omega]; exact e.2
set_option maxHeartbeats 4000000 in
theorem rname_out (s : ByteArray) (w : World) (hs : s.size ≤ maxLen) (h : s.size = 0 ∨ 32 < s.size) : Calls Try.prog 29 #[.string s] w fun e w' => e = .returned (.bool (nameB s)) ∧ w' = w := by
  unfold maxLen at hs
  have HN := hid (show nameB s = false by unfold nameB; rw [decide_eq_false (by omega)]; rfl)
  rcases h with h | h
  · go_enter Try.func29, Try.ntmps29
    go_wp2
    go_ret
    exact ⟨ret_bool HN.out.symm, rfl⟩
  · have h' : ¬ (s.size : Int) < 1 := by omega
    go_enter Try.func29, Try.ntmps29
    go_wp2
    go_ret
    exact ⟨ret_bool HN.out.symm, rfl⟩
set_option maxHeartbeats 8000000 in
theorem rname_in (s : ByteArray) (w : World) (h0 : 1 ≤ s.size) (h1 : s.size ≤ 32) : Calls Try.prog 29 #[.string s] w fun e w' => e = .returned (.bool (nameB s)) ∧ w' = w := by
  have hz : ¬ (s.size : Int) < 1 := by omega
  have h32 : ¬ (32 : Int) < (s.size : Int) := by omega
  go_enter Try.func29, Try.ntmps29
  go_wp2
  go_loop [3] (fun i => ∃ k : Nat, k ≤ s.size ∧ i = .int .i64 k ∧ Hid (∀ j, j < k → byteB s j)) (fun i => s.size - (intOf i).toNat)
  case atStart => exact ⟨0, Nat.zero_le _, rfl, hid (fun j hj => by omega)⟩
  case round =>
    obtain ⟨k, hk, rfl, HO⟩ := hrel
    by_cases hlt : k < s.size
    · obtain ⟨c, hc⟩ : ∃ c : Int, ((s[k]'hlt).toNat : Int) = c := ⟨_, rfl⟩
      have HC := hid ((at_get s k hlt).trans hc)
      have cl : c < 45 ∨ c = 45 ∨ c = 46 ∨ c = 47 ∨ (48 ≤ c ∧ c ≤ 57) ∨ (58 ≤ c ∧ c ≤ 96) ∨ (97 ≤ c ∧ c ≤ 122) ∨ 123 ≤ c := by omega
      have z : ((k : Int) == 0) = true ∧ k = 0 ∨ ((k : Int) == 0) = false ∧ k ≠ 0 := by
        by_cases h : k = 0
        · exact Or.inl ⟨by simpa using h, h⟩
        · exact Or.inr ⟨by simpa using h, h⟩
      have y : ((k : Int) == (s.size : Int) - 1) = true ∧ k + 1 = s.size ∨ ((k : Int) == (s.size : Int) - 1) = false ∧ k + 1 ≠ s.size := by
        by_cases h : k + 1 = s.size
        · exact Or.inl ⟨by rw [beq_iff_eq]; omega, h⟩
        · exact Or.inr ⟨by rw [beq_eq_false_iff_ne]; omega, h⟩
      have K := hid (show ∀ (b : Bool), (b = true ↔ byteB s k) → (b = true → ∀ j, j < k + 1 → byteB s j) ∧ (b = false → nameB s = false) from fun b hb => ⟨fun h j hj => by
          by_cases e : j < k
          · exact HO.out j e
          · obtain rfl : j = k := by omega
            exact hb.1 h, fun h => name_none s k hlt (fun n => by rw [hb.2 n] at h; cases h)⟩)
      rcases cl with cl | cl | cl | cl | ⟨cl, cl'⟩ | ⟨cl, cl'⟩ | ⟨cl, cl'⟩ | cl <;> rcases z with ⟨z1, z2⟩ | ⟨z1, z2⟩ <;> rcases y with ⟨y1, y2⟩ | ⟨y1, y2⟩
      all_goals (have Z := hid z2; have Y := hid y2; clear z2 y2)
      all_goals (try subst cl)
      all_goals go_wp2
      all_goals first
        | (go_ret
           refine ⟨ret_bool ((K.out false ?_).2 rfl).symm, rfl⟩
           have h1 := Z.out
           have h2 := Y.out
           unfold byteB
           rw [HC.out]
           simp [okB, letB, digB, h1, h2]
           try (first | omega | (rename_i hh; simp at hh; omega)))
        | (refine ⟨⟨k + 1, by omega, by go_num, hid ((K.out true ?_).1 rfl)⟩, by simp [intOf]; omega⟩
           have h1 := Z.out
           have h2 := Y.out
           unfold byteB
           rw [HC.out]
           simp [okB, letB, digB, h1, h2]
           try (first | omega | (rename_i hh; simp at hh; omega)))
    · obtain rfl : k = s.size := by omega
      have HN := hid (name_all s h0 h1 HO.out)
      go_wp2
      go_ret
      exact ⟨ret_bool HN.out.symm, rfl⟩
theorem rname_any (s : ByteArray) (w : World) (hs : s.size ≤ maxLen) : Calls Try.prog 29 #[.string s] w fun e w' => e = .returned (.bool (nameB s)) ∧ w' = w := by
  by_cases h : s.size = 0 ∨ 32 < s.size
  · exact rname_out s w hs h
  · exact rname_in s w (by omega) (by omega)
end Go.Proofs.Ytnlohjcjboelgaa.L
