import Derived.Test.YtppblibcbjpfnaaDoorByt
namespace Go.Proofs.YtppblibcbjpfnaaDoor.L
open Go.RowKit
set_option linter.unusedVariables false
/-- The last place of a byte, or -1. -/
def lstL (c : UInt8) : List UInt8 → Int
  | [] => -1
  | b :: l => if lstL c l = -1 then (if b = c then 0 else -1) else lstL c l + 1
def lst (s : ByteArray) (c : UInt8) : Int := lstL c s.data.toList
theorem lst_none {c : UInt8} {l : List UInt8} (h : c ∉ l) : lstL c l = -1 := by
  induction l with
  | nil => rfl
  | cons b l ih =>
    unfold lstL
    rw [ih (fun e => h (by simp [e])), if_pos rfl, if_neg (fun e => h (by simp [e]))]
theorem lst_app {c : UInt8} (a : List UInt8) {b : List UInt8} (h : c ∉ b) : lstL c (a ++ c :: b) = a.length := by
  induction a with
  | nil =>
    show lstL c (c :: b) = _
    unfold lstL
    rw [lst_none h]
    simp
  | cons x a ih =>
    show lstL c (x :: (a ++ c :: b)) = _
    unfold lstL
    rw [ih, if_neg (by omega)]
    simp
theorem lst_cases (l : List UInt8) (c : UInt8) : (lstL c l = -1 ∧ c ∉ l) ∨ ∃ i : Nat, lstL c l = i ∧ l = l.take i ++ c :: l.drop (i + 1) ∧ c ∉ l.drop (i + 1) := by
  induction l with
  | nil => exact Or.inl ⟨rfl, by simp⟩
  | cons b l ih =>
    unfold lstL
    rcases ih with ⟨e, h⟩ | ⟨i, e, h, h'⟩
    · rw [if_pos e]
      by_cases hb : b = c
      · rw [if_pos hb]
        exact Or.inr ⟨0, rfl, by simp [hb], by simpa using h⟩
      · rw [if_neg hb]
        refine Or.inl ⟨rfl, ?_⟩
        simp
        exact ⟨fun e => hb e.symm, h⟩
    · rw [e, if_neg (by omega)]
      refine Or.inr ⟨i + 1, by omega, ?_, ?_⟩
      · simp only [List.take_succ_cons, List.drop_succ_cons, List.cons_append]
        rw [← h]
      · simpa using h'
theorem lst_parts {s : ByteArray} {c : UInt8} : (lst s c = -1 ∧ c ∉ s.data.toList) ∨ ∃ i : Nat, lst s c = i ∧ i < s.size ∧ s.data.toList = (s.extract 0 i).data.toList ++ c :: (s.extract (i + 1) s.size).data.toList ∧ c ∉ (s.extract (i + 1) s.size).data.toList := by
  rcases lst_cases s.data.toList c with h | ⟨i, h, h1, h2⟩
  · exact Or.inl h
  · refine Or.inr ⟨i, h, ?_, ?_⟩
    · have := congrArg List.length h1
      simp at this
      omega
    · rw [Lib.extract_from_zero, Lib.extract_to_end]
      exact ⟨h1, h2⟩
/-- A byte's last place, by its places. -/
theorem lst_at {s : ByteArray} {c : UInt8} {k : Nat} (hk : k < s.size) (h : at' s k = (c.toNat : Int)) (hn : ∀ j, k < j → j < s.size → at' s j ≠ (c.toNat : Int)) : lst s c = k := by
  have e : s.data.toList = s.data.toList.take k ++ c :: s.data.toList.drop (k + 1) := by
    have hk' : k < s.data.toList.length := by simpa using hk
    have : s.data.toList[k] = c := by
      unfold at' at h
      rw [List.getD_eq_getElem?_getD, List.getElem?_eq_getElem hk'] at h
      exact UInt8.toNat_inj.1 (by exact_mod_cast h)
    conv => lhs; rw [← List.take_append_drop k s.data.toList, List.drop_eq_getElem_cons hk', this]
  unfold lst
  rw [e, lst_app]
  · simp
    have : s.data.size = s.size := rfl
    omega
  · intro hm
    obtain ⟨i, hi, hx⟩ := List.getElem_of_mem hm
    simp at hi
    have : s.data.size = s.size := rfl
    refine hn (k + 1 + i) (by omega) (by omega) ?_
    unfold at'
    rw [List.getD_eq_getElem?_getD]
    rw [List.getElem_drop] at hx
    rw [List.getElem?_eq_getElem (by simp; omega)]
    simp only [Option.getD_some]
    rw [hx]
theorem lst_no {s : ByteArray} {c : UInt8} (hn : ∀ j, j < s.size → at' s j ≠ (c.toNat : Int)) : lst s c = -1 := by
  unfold lst
  refine lst_none fun hm => ?_
  obtain ⟨i, hi, e⟩ := mem_at hm
  exact hn i hi e
end Go.Proofs.YtppblibcbjpfnaaDoor.L
