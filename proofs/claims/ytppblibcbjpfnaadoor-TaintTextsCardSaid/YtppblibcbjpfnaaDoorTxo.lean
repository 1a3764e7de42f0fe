import Derived.Test.YtppblibcbjpfnaaDoorPto
namespace Go.Proofs.YtppblibcbjpfnaaDoor.L
set_option linter.unusedVariables false
theorem emp_eq : (⟨#[]⟩ : ByteArray) = ByteArray.empty := rfl
theorem ev_ex {o : To} (h : evB o = true) : eqS o.2.1 sEx = true := by
  unfold evB at h
  rw [Bool.and_eq_true] at h
  exact h.2
/-- The three sorts of a right toleration. -/
theorem ok_cases {o : To} (h : oE o = 0) : (eqS o.2.1 sEq = true ∧ evB o = false ∧ keyB o.1 = true ∧ oMid o = o.1 ++ (⟨#[61]⟩ ++ o.2.2.1)) ∨ (eqS o.2.1 sEq = false ∧ o.2.1 = sEx ∧ o.2.2.1 = ByteArray.empty ∧ ((evB o = true ∧ o.1 = ByteArray.empty ∧ oMid o = ⟨#[42]⟩) ∨ (evB o = false ∧ keyB o.1 = true ∧ oMid o = o.1))) := by
  obtain ⟨a1, a2, a3, a4, a5⟩ := oE_ok h
  cases e : eqS o.2.1 sEq
  · right
    have x : eqS o.2.1 sEx = true := by
      rcases a1 with a | a
      · rw [e] at a; cases a
      · exact a
    refine ⟨rfl, eqS_iff.1 x, emB_iff.1 (a4 x), ?_⟩
    have m : oMid o = oHead o := by unfold oMid; rw [if_neg (by rw [e]; decide)]
    cases v : evB o
    · right
      refine ⟨rfl, ?_, ?_⟩
      · rcases a2 with a | a
        · exact a
        · rw [v] at a; cases a
      · rw [m]; unfold oHead; rw [if_neg (by rw [v]; decide)]
    · left
      refine ⟨rfl, ev_key v, ?_⟩
      rw [m]; unfold oHead; rw [if_pos v]
  · left
    have v : evB o = false := by
      cases v : evB o
      · rfl
      · have := eq_not_ex e
        rw [ev_ex v] at this
        cases this
    refine ⟨rfl, v, ?_, ?_⟩
    · rcases a2 with a | a
      · exact a
      · rw [v] at a; cases a
    · unfold oMid; rw [if_pos e]; unfold oHead; rw [if_neg (by rw [v]; decide)]
theorem mid_facts {o : To} (h : oE o = 0) : (58 : UInt8) ∉ (oMid o).data.toList ∧ emB (oMid o) = false ∧ (oMid o).size ≤ 191 ∧ rRest (oMid o) = (o.1, o.2.1, o.2.2.1, ⟨#[]⟩) := by
  obtain ⟨z1, z2, z3⟩ := ok_sizes h
  obtain ⟨_, _, a3, _, _⟩ := oE_ok h
  rcases ok_cases h with ⟨e, v, k, m⟩ | ⟨e, x, y, ⟨v, k, m⟩ | ⟨v, k, m⟩⟩
  · have d : (oMid o).data.toList = o.1.data.toList ++ 61 :: o.2.2.1.data.toList := by rw [m, app_data, app_data, d61]; simp
    refine ⟨?_, ?_, ?_, ?_⟩
    · rw [d]
      intro hm
      rcases List.mem_append.1 hm with hm | hm
      · exact k58 k hm
      · rcases List.mem_cons.1 hm with hm | hm
        · cases hm
        · exact v58 a3 hm
    · rw [em_not, d]; simp
    · rw [size_data] at z1 z2 ⊢
      rw [d]
      simp only [List.length_append, List.length_cons]
      omega
    · obtain ⟨i1, i2, i3⟩ := first_cut d (k61 k)
      unfold rRest
      rw [i1, if_neg (by omega)]
      simp only [Int.toNat_natCast]
      rw [i2, i3, eqS_iff.1 e]
  · rw [m]
    refine ⟨by decide, by decide +kernel, by decide, ?_⟩
    rw [k, x, y]
    decide +kernel
  · rw [m]
    refine ⟨k58 k, key_ne k, by omega, ?_⟩
    unfold rRest
    rw [if_pos (show idx o.1 61 = -1 from idx_no (k61 k)), if_neg, x, y]
    · rfl
    · intro q
      have := k42 k
      rw [eqS_iff.1 q] at this
      exact this (by decide)
theorem ocut_text {o : To} (h : oE o = 0) : oCut (oText o) = (oMid o, o.2.2.2, !emB o.2.2.2) := by
  obtain ⟨m1, m2, m3, m4⟩ := mid_facts h
  obtain ⟨_, _, _, _, a5⟩ := oE_ok h
  unfold oText oCut
  by_cases e : emB o.2.2.2 = true
  · rw [if_pos e, if_pos (show lst (oMid o) 58 = -1 from lst_none m1), e, emB_iff.1 e]
    rfl
  · rw [if_neg e]
    have ef : effB o.2.2.2 = true := by
      rcases a5 with a | a
      · exact absurd a e
      · exact a
    obtain ⟨i1, i2, i3⟩ := last_cut (s := oMid o ++ (⟨#[58]⟩ ++ o.2.2.2)) (a := oMid o) (b := o.2.2.2) (by rw [app_data, app_data, d58]; simp) (eff_bytes ef)
    rw [i1, if_neg (by omega)]
    simp only [Int.toNat_natCast]
    rw [i2, i3, Bool.eq_false_iff.2 e]
    rfl
theorem otext_size {o : To} (h : oE o = 0) : (oText o).size ≤ 256 ∧ emB (oText o) = false := by
  obtain ⟨m1, m2, m3, m4⟩ := mid_facts h
  obtain ⟨z1, z2, z3⟩ := ok_sizes h
  unfold oText
  split
  · exact ⟨by omega, m2⟩
  · refine ⟨?_, ?_⟩
    · rw [size_data] at m3 z3 ⊢
      rw [app_data, app_data, d58]
      simp only [List.length_append, List.length_cons, List.length_nil]
      omega
    · rw [em_not, app_data, app_data, d58]; simp
theorem ptol_text {o : To} (h : oE o = 0) : pO (oText o) = (o, 0) := by
  obtain ⟨m1, m2, m3, m4⟩ := mid_facts h
  have z := (otext_size h).1
  have w : withE (rRest (oMid o)) o.2.2.2 = o := by rw [m4]; rfl
  unfold pO
  rw [ocut_text h]
  simp only
  rw [if_neg, w, if_pos h]
  rw [m2, decide_eq_false (by omega)]
  cases emB o.2.2.2 <;> decide
theorem text_ptol {s : ByteArray} (h : (pO s).2 = 0) : oE (pO s).1 = 0 ∧ oText (pO s).1 = s := by
  unfold pO at h ⊢
  by_cases c : (decide (256 < s.size) || ((oCut s).2.2 && emB (oCut s).2.1) || emB (oCut s).1) = true
  · rw [if_pos c] at h
    cases h
  rw [if_neg c] at h ⊢
  by_cases g : oE (withE (rRest (oCut s).1) (oCut s).2.1) = 0
  · rw [if_pos g]
    refine ⟨g, ?_⟩
    simp only
    rw [Bool.not_eq_true, Bool.or_eq_false_iff, Bool.or_eq_false_iff] at c
    obtain ⟨⟨_, c1⟩, c2⟩ := c
    have mid : oMid (withE (rRest (oCut s).1) (oCut s).2.1) = (oCut s).1 := by
      generalize (oCut s).1 = r at *
      generalize (oCut s).2.1 = f at *
      rcases idx_cases r 61 with hj | ⟨j, hj, hjl⟩
      · by_cases q : eqS r ⟨#[42]⟩ = true
        · have e : rRest r = (⟨#[]⟩, sEx, ⟨#[]⟩, ⟨#[]⟩) := by unfold rRest; rw [if_pos hj, if_pos q]
          rw [e]
          unfold oMid
          rw [if_neg (by show ¬ eqS sEx sEq = true; decide +kernel)]
          unfold oHead
          rw [if_pos (by show (emB ⟨#[]⟩ && eqS sEx sEx) = true; decide +kernel)]
          exact (eqS_iff.1 q).symm
        · have e : rRest r = (r, sEx, ⟨#[]⟩, ⟨#[]⟩) := by unfold rRest; rw [if_pos hj, if_neg q]
          rw [e]
          unfold oMid
          rw [if_neg (by show ¬ eqS sEx sEq = true; decide +kernel)]
          unfold oHead
          rw [if_neg (by show ¬ (emB r && eqS sEx sEx) = true; rw [c2]; decide)]
          rfl
      · have e : rRest r = (r.extract 0 j, sEq, r.extract (j + 1) r.size, ⟨#[]⟩) := by unfold rRest; rw [hj, if_neg (by omega)]; rfl
        rw [e]
        unfold oMid
        rw [if_pos (by show eqS sEq sEq = true; exact eqS_iff.2 rfl)]
        unfold oHead
        rw [if_neg (by show ¬ (emB _ && eqS sEq sEx) = true; rw [eq_not_ex (eqS_iff.2 rfl)]; simp)]
        refine bytes_inj ?_
        show (r.extract 0 j ++ (⟨#[61]⟩ ++ r.extract (j + 1) r.size)).data.toList = _
        rw [app_data, app_data, d61, (idx_parts hj).1]
        simp
    have e2 : (withE (rRest (oCut s).1) (oCut s).2.1).2.2.2 = (oCut s).2.1 := rfl
    unfold oText
    rw [mid, e2]
    rcases lst_parts (s := s) (c := 58) with ⟨e, _⟩ | ⟨i, e, hi, hp, hn⟩
    · have q : oCut s = (s, ByteArray.empty, false) := by unfold oCut; rw [if_pos e]
      rw [q]
      rw [if_pos (by show emB ByteArray.empty = true; decide +kernel)]
    · have q : oCut s = (s.extract 0 i, s.extract (i + 1) s.size, true) := by unfold oCut; rw [e, if_neg (by omega)]; rfl
      rw [q] at c1 ⊢
      simp only [Bool.true_and] at c1 ⊢
      rw [if_neg (by rw [c1]; decide)]
      refine bytes_inj ?_
      rw [app_data, app_data, d58, hp]
      simp
  · rw [if_neg g] at h
    exact absurd h g
theorem oE_cases (o : To) : oE o = 0 ∨ oE o = 46 ∨ oE o = 41 ∨ oE o = 42 ∨ oE o = 40 := by
  unfold oE
  split
  · simp
  · split
    · simp
    · split
      · simp
      · split <;> simp
end Go.Proofs.YtppblibcbjpfnaaDoor.L
