import Derived.Test.YtodamoblnlcodaaDoorOk
namespace Go.Proofs.YtodamoblnlcodaaDoor.L
open Go.RowKit
set_option linter.unusedVariables false
theorem chk_all (l : List Lb) (n k : Nat) (h : (chk l n k).2 = 0) : ∀ j, k ≤ j → j < k + n → flt l j = 0 := by
  induction n generalizing k with
  | zero => intro j h1 h2; omega
  | succ n ih =>
    unfold chk at h
    by_cases e : flt l k = 0
    · rw [if_pos e] at h
      intro j h1 h2
      by_cases ej : j = k
      · rw [ej]; exact e
      · exact ih (k + 1) h j (by omega) (by omega)
    · rw [if_neg e] at h
      exact absurd h e
theorem flt_zero {l : List Lb} {k : Nat} (h : flt l k = 0) : labE (ky l k) (vl l k) = 0 ∧ riseE (prv l k) (ky l k) = 0 := by
  unfold flt at h
  by_cases e : labE (ky l k) (vl l k) = 0
  · rw [if_pos e] at h
    exact ⟨e, h⟩
  · rw [if_neg e] at h
    exact absurd h e
theorem rise_zero {p k : ByteArray} (h : riseE p k = 0) : Op.bytesLess p.toList k.toList = true := by
  unfold riseE at h
  by_cases e1 : eqS k p = true
  · rw [if_pos e1] at h; simp at h
  · rw [if_neg e1] at h
    by_cases e2 : Op.bytesLess k.toList p.toList = true
    · rw [if_pos e2] at h; simp at h
    · rcases less_total k.toList p.toList with g | g | g
      · exact absurd g e2
      · exact absurd (eqS_iff.2 (bytes_ext g)) e1
      · exact g
theorem up_step {l : List Lb} (h : ∀ j, j + 1 < l.length → Op.bytesLess (ky l j).toList (ky l (j + 1)).toList = true) : Up l := by
  have key : ∀ d i, i + d + 1 < l.length → Op.bytesLess (ky l i).toList (ky l (i + d + 1)).toList = true := by
    intro d
    induction d with
    | zero => intro i hi; exact h i hi
    | succ d ih => intro i hi; exact less_trans _ _ _ (ih i (by omega)) (h (i + d + 1) hi)
  refine List.pairwise_iff_getElem.2 fun i j hi hj hij => ?_
  rw [kv_get l i hi, kv_get l j hj]
  have := key (j - i - 1) i (by omega)
  rw [show i + (j - i - 1) + 1 = j by omega] at this
  exact this
theorem check_iff {l : List Lb} (h : (checkN l).2 = 0) : OkL l := by
  unfold checkN at h
  by_cases h32 : 32 < l.length
  · rw [if_pos h32] at h; simp at h
  · rw [if_neg h32] at h
    have ha := chk_all l _ _ h
    refine ⟨by omega, up_step fun j hj => ?_, fun x hx => ?_⟩
    · have := rise_zero (flt_zero (ha (j + 1) (Nat.zero_le _) (by omega))).2
      unfold prv at this
      rw [if_neg (by omega)] at this
      exact this
    · obtain ⟨j, hj, rfl⟩ := mem_kv hx
      exact (flt_zero (ha j (Nat.zero_le _) (by omega))).1
theorem check_cases (l : List Lb) : (OkL l ∧ checkN l = (0, 0)) ∨ (checkN l).2 ≠ 0 := by
  by_cases h : (checkN l).2 = 0
  · exact Or.inl ⟨check_iff h, check_ok (check_iff h)⟩
  · exact Or.inr h
theorem check_range (l : List Lb) : 0 ≤ (checkN l).2 ∧ (checkN l).2 ≤ 100 := by
  unfold checkN
  split
  · exact ⟨by decide, by decide⟩
  · have key : ∀ n k, 0 ≤ (chk l n k).2 ∧ (chk l n k).2 ≤ 100 := by
      intro n
      induction n with
      | zero => intro k; exact ⟨Int.le_refl 0, (by decide : (0 : Int) ≤ 100)⟩
      | succ n ih =>
        intro k
        unfold chk
        split
        · exact ih _
        · show 0 ≤ flt l k ∧ flt l k ≤ 100
          unfold flt
          split
          · rcases riseE_cases (prv l k) (ky l k) with e | e | e <;> rw [e] <;> exact ⟨by decide, by decide⟩
          · rcases labE_cases (ky l k) (vl l k) with e | e | e <;> rw [e] <;> exact ⟨by decide, by decide⟩
    exact key _ _
end Go.Proofs.YtodamoblnlcodaaDoor.L
