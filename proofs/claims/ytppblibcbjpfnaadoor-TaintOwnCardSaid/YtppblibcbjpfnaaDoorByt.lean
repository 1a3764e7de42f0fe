import Derived.Test.YtppblibcbjpfnaaDoorCut
namespace Go.Proofs.YtppblibcbjpfnaaDoor.L
set_option linter.unusedVariables false
theorem mem_at {s : ByteArray} {c : UInt8} (h : c ∈ s.data.toList) : ∃ i, i < s.size ∧ at' s i = (c.toNat : Int) := by
  obtain ⟨i, hi, e⟩ := List.getElem_of_mem h
  refine ⟨i, by simpa using hi, ?_⟩
  unfold at'
  simp [List.getD_eq_getElem?_getD, List.getElem?_eq_getElem hi, e]
theorem inn_bytes {s : ByteArray} (h : allB innB s = true) {c : UInt8} (hc : innB (c.toNat : Int) = false) : c ∉ s.data.toList := by
  intro hm
  obtain ⟨i, hi, e⟩ := mem_at hm
  have := of_decide_eq_true h i hi
  rw [e, hc] at this
  cases this
theorem dash_bytes {s : ByteArray} (h : allB dashB s = true) {c : UInt8} (hc : dashB (c.toNat : Int) = false) : c ∉ s.data.toList := by
  intro hm
  obtain ⟨i, hi, e⟩ := mem_at hm
  have := of_decide_eq_true h i hi
  rw [e, hc] at this
  cases this
theorem mem_join {c d : UInt8} {ps : List (List UInt8)} (h : c ∈ joinL d ps) : c = d ∨ ∃ p ∈ ps, c ∈ p := by
  induction ps with
  | nil => simp [joinL] at h
  | cons p ps ih =>
    cases ps with
    | nil => exact Or.inr ⟨p, by simp, h⟩
    | cons q ps =>
      rw [join_cons d _ _ (by simp)] at h
      rcases List.mem_append.1 h with h | h
      · exact Or.inr ⟨p, by simp, h⟩
      · rcases List.mem_cons.1 h with h | h
        · exact Or.inl h
        · rcases ih h with h | ⟨r, hr, h⟩
          · exact Or.inl h
          · exact Or.inr ⟨r, List.mem_cons_of_mem _ hr, h⟩
theorem short_bytes {s : ByteArray} (h : shortB s = true) {c : UInt8} (hc : innB (c.toNat : Int) = false) : c ∉ s.data.toList := by
  unfold shortB at h
  rw [Bool.and_eq_true, Bool.and_eq_true, Bool.and_eq_true] at h
  exact inn_bytes h.1.1.2 hc
theorem name_bytes {s : ByteArray} (h : nameB s = true) {c : UInt8} (hc : dashB (c.toNat : Int) = false) (h46 : c ≠ 46) : c ∉ s.data.toList := by
  unfold nameB at h
  rw [Bool.and_eq_true] at h
  intro hm
  rw [← cut_join 46 s.data.toList] at hm
  rcases mem_join hm with e | ⟨p, hp, e⟩
  · exact h46 e
  · rw [← pieces_cut] at hp
    obtain ⟨q, hq, rfl⟩ := List.mem_map.1 hp
    have := List.all_eq_true.1 h.2 q hq
    unfold partB at this
    rw [Bool.and_eq_true, Bool.and_eq_true, Bool.and_eq_true] at this
    exact dash_bytes this.1.1.2 hc e
theorem idx_parts {s : ByteArray} {c : UInt8} {i : Nat} (h : idx s c = i) : s.data.toList = (s.extract 0 i).data.toList ++ c :: (s.extract (i + 1) s.size).data.toList ∧ c ∉ (s.extract 0 i).data.toList := by
  obtain ⟨h1, h2⟩ := idx_some (show Lib.indexByte s.data.toList c = i from h)
  rw [Lib.extract_from_zero, Lib.extract_to_end]
  exact ⟨h1, h2⟩
theorem key_bytes {s : ByteArray} (h : keyB s = true) {c : UInt8} (h1 : innB (c.toNat : Int) = false) (h2 : dashB (c.toNat : Int) = false) (h3 : c ≠ 46) (h4 : c ≠ 47) : c ∉ s.data.toList := by
  unfold keyB at h
  rcases idx_cases s 47 with e | ⟨i, e, hi⟩
  · rw [if_pos e] at h
    exact short_bytes h h1
  · rw [e, if_neg (by omega), Bool.and_eq_true] at h
    intro hm
    rw [(idx_parts e).1] at hm
    rcases List.mem_append.1 hm with hm | hm
    · exact name_bytes h.1 h2 h3 hm
    · rcases List.mem_cons.1 hm with hm | hm
      · exact h4 hm
      · exact short_bytes h.2 h1 hm
theorem val_bytes {s : ByteArray} (h : valB s = true) {c : UInt8} (h1 : innB (c.toNat : Int) = false) : c ∉ s.data.toList := by
  unfold valB at h
  by_cases h0 : s.size = 0
  · intro hm
    obtain ⟨i, hi, _⟩ := mem_at hm
    omega
  · rw [decide_eq_false h0, Bool.false_or, Bool.and_eq_true, Bool.and_eq_true, Bool.and_eq_true] at h
    exact inn_bytes h.1.1.2 h1
theorem bytes_inj {a b : ByteArray} (h : a.data.toList = b.data.toList) : a = b := Go.WideShapes.bytes_inj h
theorem extract_data (s : ByteArray) (a b : List UInt8) (c : UInt8) (h : s.data.toList = a ++ c :: b) : (s.extract 0 a.length).data.toList = a ∧ (s.extract (a.length + 1) s.size).data.toList = b := by
  rw [Lib.extract_from_zero, Lib.extract_to_end, h]
  constructor
  · simp
  · rw [show a ++ c :: b = (a ++ [c]) ++ b by simp]
    rw [List.drop_left' (by simp)]
theorem key_size {s : ByteArray} (h : keyB s = true) : s.size ≤ 127 := by
  unfold keyB at h
  rcases idx_cases s 47 with e | ⟨i, e, hi⟩
  · rw [if_pos e] at h
    unfold shortB at h
    simp at h
    omega
  · rw [e, if_neg (by omega)] at h
    unfold nameB shortB at h
    simp [ByteArray.size_extract] at h
    omega
theorem val_size {s : ByteArray} (h : valB s = true) : s.size ≤ 63 := by
  unfold valB at h
  simp at h
  rcases h with h | h
  · rw [h]; decide
  · exact h.1.1.1
end Go.Proofs.YtppblibcbjpfnaaDoor.L
