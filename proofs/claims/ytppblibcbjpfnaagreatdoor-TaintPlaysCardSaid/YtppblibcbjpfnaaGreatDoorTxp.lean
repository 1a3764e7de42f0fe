import Derived.Test.YtppblibcbjpfnaaGreatDoorOtl
namespace Go.Proofs.YtppblibcbjpfnaaGreatDoor.L
set_option linter.unusedVariables false
theorem app_data (a b : ByteArray) : (a ++ b).data.toList = a.data.toList ++ b.data.toList := by
  rw [ByteArray.data_append, Array.toList_append]
theorem idx_no {l : List UInt8} {c : UInt8} (h : c ∉ l) : Lib.indexByte l c = -1 := by
  by_cases e : Lib.indexByte l c = -1
  · exact e
  · obtain ⟨i, hi⟩ : ∃ i : Nat, Lib.indexByte l c = i := ⟨(Lib.indexByte l c).toNat, by have := Lib.indexByte_ge l c; omega⟩
    obtain ⟨h1, _⟩ := idx_some hi
    exact absurd (by rw [h1]; simp) h
theorem em_nil {s : ByteArray} : emB s = true ↔ s.data.toList = [] := by
  rw [emB_iff]
  constructor
  · rintro rfl; rfl
  · intro h
    exact bytes_inj h
theorem em_not {s : ByteArray} : emB s = false ↔ s.data.toList ≠ [] := by
  rw [← Bool.not_eq_true, em_nil]
theorem eff_bytes {s : ByteArray} (h : effB s = true) : (58 : UInt8) ∉ s.data.toList := by
  unfold effB at h
  rw [Bool.or_eq_true, Bool.or_eq_true, eqS_iff, eqS_iff, eqS_iff] at h
  rcases h with (h | h) | h <;> (subst h; decide)
theorem eff_ne {s : ByteArray} (h : effB s = true) : emB s = false := by
  unfold effB at h
  rw [Bool.or_eq_true, Bool.or_eq_true, eqS_iff, eqS_iff, eqS_iff] at h
  rcases h with (h | h) | h <;> (subst h; decide +kernel)
theorem key_ne {s : ByteArray} (h : keyB s = true) : emB s = false := by
  rw [em_not]
  intro e
  have : s = ByteArray.empty := bytes_inj e
  subst this
  exact absurd h (by decide +kernel)
theorem k58 {s : ByteArray} (h : keyB s = true) : (58 : UInt8) ∉ s.data.toList := key_bytes h (by decide) (by decide) (by decide) (by decide)
theorem k61 {s : ByteArray} (h : keyB s = true) : (61 : UInt8) ∉ s.data.toList := key_bytes h (by decide) (by decide) (by decide) (by decide)
theorem k42 {s : ByteArray} (h : keyB s = true) : (42 : UInt8) ∉ s.data.toList := key_bytes h (by decide) (by decide) (by decide) (by decide)
theorem v58 {s : ByteArray} (h : valB s = true) : (58 : UInt8) ∉ s.data.toList := val_bytes h (by decide)
/-- Cut at the last colon. -/
theorem last_cut {s a b : ByteArray} (h : s.data.toList = a.data.toList ++ 58 :: b.data.toList) (hb : (58 : UInt8) ∉ b.data.toList) : lst s 58 = (a.size : Int) ∧ s.extract 0 a.size = a ∧ s.extract (a.size + 1) s.size = b := by
  have e := extract_data s a.data.toList b.data.toList 58 h
  have z : a.data.toList.length = a.size := by simp
  rw [z] at e
  refine ⟨?_, bytes_inj e.1, bytes_inj e.2⟩
  unfold lst
  rw [h, lst_app _ hb, z]
theorem first_cut {s a b : ByteArray} (h : s.data.toList = a.data.toList ++ 61 :: b.data.toList) (ha : (61 : UInt8) ∉ a.data.toList) : idx s 61 = (a.size : Int) ∧ s.extract 0 a.size = a ∧ s.extract (a.size + 1) s.size = b := by
  have e := extract_data s a.data.toList b.data.toList 61 h
  have z : a.data.toList.length = a.size := by simp
  rw [z] at e
  refine ⟨?_, bytes_inj e.1, bytes_inj e.2⟩
  unfold idx
  rw [h, idx_at ha, z]
theorem d61 : (⟨#[61]⟩ : ByteArray).data.toList = [61] := rfl
theorem d58 : (⟨#[58]⟩ : ByteArray).data.toList = [58] := rfl
theorem d42 : (⟨#[42]⟩ : ByteArray).data.toList = [42] := rfl
/-- What stands ahead of the effect. -/
def tHead (t : Tn) : ByteArray := if emB t.2.1 = true then t.1 else t.1 ++ (⟨#[61]⟩ ++ t.2.1)
theorem text_data (t : Tn) : (tText t).data.toList = (tHead t).data.toList ++ 58 :: t.2.2.data.toList := by
  unfold tText tHead
  rw [app_data, app_data, d58]
  simp
theorem size_data (s : ByteArray) : s.size = s.data.toList.length := by simp
theorem text_size {t : Tn} (h : tE t = 0) : (tText t).size ≤ 256 ∧ emB (tText t) = false := by
  obtain ⟨a1, a2, a3⟩ := tE_ok h
  have z1 := key_size a1
  have z2 := val_size a2
  have z3 := eff_size a3
  constructor
  · rw [size_data, text_data]
    unfold tHead
    rw [size_data] at z1 z2 z3
    split
    · simp only [List.length_append, List.length_cons]; omega
    · rw [app_data, app_data, d61]
      simp only [List.length_append, List.length_cons, List.length_nil]; omega
  · rw [em_not, text_data]
    simp
theorem rest_no {r : ByteArray} (f : ByteArray) (h : idx r 61 = -1) : pRest r f = (r, ByteArray.empty, f) ∧ pBad r = false := by
  refine ⟨by unfold pRest; rw [if_pos h], by unfold pBad; rw [h]; rfl⟩
theorem rest_yes {r : ByteArray} (f : ByteArray) {j : Nat} (h : idx r 61 = j) : pRest r f = (r.extract 0 j, r.extract (j + 1) r.size, f) ∧ pBad r = emB (r.extract (j + 1) r.size) := by
  refine ⟨by unfold pRest; rw [h, if_neg (by omega)]; rfl, by unfold pBad; rw [h]; simp⟩
theorem parse_text {t : Tn} (h : tE t = 0) : pT (tText t) = (t, 0) := by
  obtain ⟨a1, a2, a3⟩ := tE_ok h
  obtain ⟨h1, h2, h3⟩ := last_cut (text_data t) (eff_bytes a3)
  unfold pT
  rw [if_neg (by rw [h1]; have := (text_size h).1; omega), h1]
  simp only [Int.toNat_natCast]
  rw [h2, h3]
  unfold tHead
  by_cases e : emB t.2.1 = true
  · rw [if_pos e]
    have ht : (t.1, ByteArray.empty, t.2.2) = t := by
      rw [← emB_iff.1 e]
    obtain ⟨r1, r2⟩ := rest_no t.2.2 (idx_no (k61 a1))
    rw [r1, r2, if_neg (by decide), ht, if_pos h]
  · rw [if_neg e]
    obtain ⟨i1, i2, i3⟩ := first_cut (s := t.1 ++ (⟨#[61]⟩ ++ t.2.1)) (a := t.1) (b := t.2.1) (by rw [app_data, app_data, d61]; simp) (k61 a1)
    obtain ⟨r1, r2⟩ := rest_yes t.2.2 i1
    rw [r1, r2, i2, i3, Bool.eq_false_iff.2 e, if_neg (by decide)]
    rw [if_pos (show tE (t.1, t.2.1, t.2.2) = 0 from h)]
theorem text_parse {s : ByteArray} (h : (pT s).2 = 0) : tE (pT s).1 = 0 ∧ tText (pT s).1 = s := by
  unfold pT at h ⊢
  by_cases c : 256 < s.size ∨ lst s 58 = -1
  · rw [if_pos c] at h
    cases h
  · rw [if_neg c] at h ⊢
    rcases lst_parts (s := s) (c := 58) with ⟨e, _⟩ | ⟨i, e, hi, hp, hn⟩
    · exact absurd (Or.inr e) c
    rw [e] at h ⊢
    simp only [Int.toNat_natCast] at h ⊢
    generalize s.extract 0 i = r at *
    generalize s.extract (i + 1) s.size = f at *
    by_cases b : pBad r = true
    · rw [if_pos b] at h
      cases h
    · rw [if_neg b] at h ⊢
      by_cases g : tE (pRest r f) = 0
      · rw [if_pos g]
        refine ⟨g, bytes_inj ?_⟩
        rw [text_data, hp]
        have e2 : (pRest r f).2.2 = f := by unfold pRest; split <;> rfl
        rw [e2]
        congr 1
        unfold tHead
        rcases idx_cases r 61 with hj | ⟨j, hj, hjl⟩
        · rw [(rest_no f hj).1]
          rw [if_pos (show emB ByteArray.empty = true by decide +kernel)]
        · rw [(rest_yes f hj).1]
          rw [(rest_yes f hj).2] at b
          rw [if_neg b, app_data, app_data, d61, (idx_parts hj).1]
          simp
      · rw [if_neg g] at h
        exact absurd h g
end Go.Proofs.YtppblibcbjpfnaaGreatDoor.L
