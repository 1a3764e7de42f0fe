import Derived.Test.YtnldagpbmphdhabDoorTex
import Derived.Test.YtnldagpbmphdhabDoorPrs
namespace Go.Proofs.YtnldagpbmphdhabDoor.L
set_option linter.unusedVariables false
theorem mem_at {s : ByteArray} {c : UInt8} (h : c ∈ s.data.toList) : ∃ i, i < s.size ∧ at' s i = (c.toNat : Int) := by
  obtain ⟨i, hi, e⟩ := List.getElem_of_mem h
  refine ⟨i, by simpa using hi, ?_⟩
  unfold at'
  simp [List.getD_eq_getElem?_getD, List.getElem?_eq_getElem hi, e]
theorem inn_bytes {s : ByteArray} (h : allB innB s = true) {c : UInt8} (hc : innB (c.toNat : Int) = false) : c ∉ s.data.toList := by
  intro hm
  obtain ⟨i, hi, e⟩ := mem_at hm
  have := of_decide_eq_true h i hi
  rw [e, hc] at this
  cases this
theorem dash_bytes {s : ByteArray} (h : allB dashB s = true) {c : UInt8} (hc : dashB (c.toNat : Int) = false) : c ∉ s.data.toList := by
  intro hm
  obtain ⟨i, hi, e⟩ := mem_at hm
  have := of_decide_eq_true h i hi
  rw [e, hc] at this
  cases this
theorem mem_join {c d : UInt8} {ps : List (List UInt8)} (h : c ∈ joinL d ps) : c = d ∨ ∃ p ∈ ps, c ∈ p := by
  induction ps with
  | nil => simp [joinL] at h
  | cons p ps ih =>
    cases ps with
    | nil => exact Or.inr ⟨p, by simp, h⟩
    | cons q ps =>
      rw [join_cons d _ _ (by simp)] at h
      rcases List.mem_append.1 h with h | h
      · exact Or.inr ⟨p, by simp, h⟩
      · rcases List.mem_cons.1 h with h | h
        · exact Or.inl h
        · rcases ih h with h | ⟨r, hr, h⟩
          · exact Or.inl h
          · exact Or.inr ⟨r, List.mem_cons_of_mem _ hr, h⟩
theorem short_bytes {s : ByteArray} (h : shortB s = true) {c : UInt8} (hc : innB (c.toNat : Int) = false) : c ∉ s.data.toList := by
  unfold shortB at h
  rw [Bool.and_eq_true, Bool.and_eq_true, Bool.and_eq_true] at h
  exact inn_bytes h.1.1.2 hc
theorem name_bytes {s : ByteArray} (h : nameB s = true) {c : UInt8} (hc : dashB (c.toNat : Int) = false) (h46 : c ≠ 46) : c ∉ s.data.toList := by
  unfold nameB at h
  rw [Bool.and_eq_true] at h
  intro hm
  rw [← cut_join 46 s.data.toList] at hm
  rcases mem_join hm with e | ⟨p, hp, e⟩
  · exact h46 e
  · rw [← pieces_cut] at hp
    obtain ⟨q, hq, rfl⟩ := List.mem_map.1 hp
    have := List.all_eq_true.1 h.2 q hq
    unfold partB at this
    rw [Bool.and_eq_true, Bool.and_eq_true, Bool.and_eq_true] at this
    exact dash_bytes this.1.1.2 hc e
theorem idx_parts {s : ByteArray} {c : UInt8} {i : Nat} (h : idx s c = i) : s.data.toList = (s.extract 0 i).data.toList ++ c :: (s.extract (i + 1) s.size).data.toList ∧ c ∉ (s.extract 0 i).data.toList := by
  obtain ⟨h1, h2⟩ := idx_some (show Lib.indexByte s.data.toList c = i from h)
  rw [Lib.extract_from_zero, Lib.extract_to_end]
  exact ⟨h1, h2⟩
theorem key_bytes {s : ByteArray} (h : keyB s = true) {c : UInt8} (h1 : innB (c.toNat : Int) = false) (h2 : dashB (c.toNat : Int) = false) (h3 : c ≠ 46) (h4 : c ≠ 47) : c ∉ s.data.toList := by
  unfold keyB at h
  rcases idx_cases s 47 with e | ⟨i, e, hi⟩
  · rw [if_pos e] at h
    exact short_bytes h h1
  · rw [e, if_neg (by omega), Bool.and_eq_true] at h
    intro hm
    rw [(idx_parts e).1] at hm
    rcases List.mem_append.1 hm with hm | hm
    · exact name_bytes h.1 h2 h3 hm
    · rcases List.mem_cons.1 hm with hm | hm
      · exact h4 hm
      · exact short_bytes h.2 h1 hm
theorem val_bytes {s : ByteArray} (h : valB s = true) {c : UInt8} (h1 : innB (c.toNat : Int) = false) : c ∉ s.data.toList := by
  unfold valB at h
  by_cases h0 : s.size = 0
  · intro hm
    obtain ⟨i, hi, _⟩ := mem_at hm
    omega
  · rw [decide_eq_false h0, Bool.false_or, Bool.and_eq_true, Bool.and_eq_true, Bool.and_eq_true] at h
    exact inn_bytes h.1.1.2 h1
theorem item_44 {x : Lb} (h : labE x.1 x.2 = 0) : (44 : UInt8) ∉ item x := by
  obtain ⟨a, b⟩ := lab_ok h
  unfold item
  intro hm
  rcases List.mem_append.1 hm with hm | hm
  · exact key_bytes a (by decide) (by decide) (by decide) (by decide) hm
  · rcases List.mem_cons.1 hm with hm | hm
    · exact absurd hm (by decide)
    · exact val_bytes b (by decide) hm
/-- An item as a text. -/
def mkI (x : Lb) : ByteArray := ⟨(item x).toArray⟩
theorem mkI_data (x : Lb) : (mkI x).data.toList = item x := by
  unfold mkI
  simp
theorem bytes_inj {a b : ByteArray} (h : a.data.toList = b.data.toList) : a = b := Go.WideShapes.bytes_inj h
theorem extract_data (s : ByteArray) (a b : List UInt8) (c : UInt8) (h : s.data.toList = a ++ c :: b) : (s.extract 0 a.length).data.toList = a ∧ (s.extract (a.length + 1) s.size).data.toList = b := by
  rw [Lib.extract_from_zero, Lib.extract_to_end, h]
  constructor
  · simp
  · rw [show a ++ c :: b = (a ++ [c]) ++ b by simp]
    rw [List.drop_left' (by simp)]
theorem mkI_parts {x : Lb} (h : keyB x.1 = true) : itK (mkI x) = x.1 ∧ itV (mkI x) = x.2 ∧ itE (mkI x) = labE x.1 x.2 := by
  have n61 : (61 : UInt8) ∉ x.1.data.toList := key_bytes h (by decide) (by decide) (by decide) (by decide)
  have hd : (mkI x).data.toList = x.1.data.toList ++ 61 :: x.2.data.toList := mkI_data x
  have hi : idx (mkI x) 61 = (x.1.data.toList.length : Nat) := by
    unfold idx
    rw [hd]
    exact idx_at n61
  have hne : ¬ idx (mkI x) 61 = -1 := by rw [hi]; omega
  have e1 : itK (mkI x) = x.1 := by
    unfold itK
    rw [if_neg hne, hi]
    exact bytes_inj (extract_data _ _ _ _ hd).1
  have e2 : itV (mkI x) = x.2 := by
    unfold itV
    rw [if_neg hne, hi]
    exact bytes_inj (extract_data _ _ _ _ hd).2
  refine ⟨e1, e2, ?_⟩
  unfold itE
  rw [if_neg hne, e1, e2]
theorem cut_txt (l : List Lb) (h0 : l ≠ []) (h : ∀ x ∈ l, labE x.1 x.2 = 0) : cutL 44 (txt l) = l.map item := by
  unfold txt
  induction l with
  | nil => exact absurd rfl h0
  | cons x l ih =>
    cases l with
    | nil => exact cut_none 44 _ (item_44 (h x (by simp)))
    | cons y l =>
      rw [List.map_cons, join_cons 44 _ _ (by simp), cut_app, cut_none 44 _ (item_44 (h x (by simp))), ih (by simp) (fun z hz => h z (List.mem_cons_of_mem _ hz))]
      rfl
theorem map_data_inj {a b : List ByteArray} (h : a.map (·.data.toList) = b.map (·.data.toList)) : a = b := by
  induction a generalizing b with
  | nil => cases b with
    | nil => rfl
    | cons y b => simp at h
  | cons x a ih => cases b with
    | nil => simp at h
    | cons y b =>
      simp only [List.map_cons, List.cons.injEq] at h
      rw [bytes_inj h.1, ih h.2]
theorem pieces_txt (l : List Lb) (h0 : l ≠ []) (h : ∀ x ∈ l, labE x.1 x.2 = 0) : pieces ⟨(txt l).toArray⟩ 44 = l.map mkI := by
  apply map_data_inj
  rw [pieces_cut]
  simp only [List.map_map]
  rw [cut_txt l h0 h]
  congr 1
theorem up_dist' {l : List Lb} (h : Up l) : Dist l := h.imp fun {x y} h e => by
  unfold Lt at h
  rw [e, less_irrefl] at h
  cases h
theorem pr_ok (r done : List Lb) (p : Nat) (h : ∀ x ∈ r, labE x.1 x.2 = 0) (hd : Dist (done ++ r)) (hl : (done ++ r).length ≤ 32) : pr (r.map mkI) done p = (done ++ r, 0, 0) := by
  induction r generalizing done p with
  | nil => simp [pr]
  | cons x r ih =>
    obtain ⟨e1, e2, e3⟩ := mkI_parts (lab_ok (h x (by simp))).1
    simp only [List.map_cons, pr]
    rw [if_neg (by simp at hl; omega), e3, if_pos (h x (by simp)), e1, e2, get_none (fun y hy => (List.pairwise_append.1 hd).2.2 y hy x (by simp)), if_neg (by decide)]
    have := ih (done ++ [x]) (p + (mkI x).size + 1) (fun y hy => h y (by simp [hy])) (by simpa using hd) (by simpa using hl)
    simpa using this
/-- A list's text reads back. -/
theorem parse_txt {l : List Lb} (ho : OkL l) : parseN ⟨(txt l).toArray⟩ = (l, 0, 0) := by
  have hsz : (⟨(txt l).toArray⟩ : ByteArray).size = (txt l).length := by show (txt l).toArray.size = _; simp
  have hlen := txt_len l fun x hx => ⟨key_size (lab_ok (ho.lab x hx)).1, val_size (lab_ok (ho.lab x hx)).2⟩
  have h32 := ho.len
  unfold parseN
  rw [if_neg (by rw [hsz]; omega), hsz]
  by_cases h0 : l = []
  · subst h0
    rw [if_pos (show (txt []).length = 0 from rfl)]
  · rw [if_neg, pieces_txt l h0 ho.lab, pr_ok l [] 0 ho.lab (up_dist' ho.up) ho.len]
    · rfl
    · intro e
      have : txt l = [] := List.length_eq_zero_iff.1 e
      have c := cut_txt l h0 ho.lab
      rw [this] at c
      cases l with
      | nil => exact h0 rfl
      | cons x l =>
        simp [cutL] at c
        have : item x = [] := c.1
        unfold item at this
        simp at this
end Go.Proofs.YtnldagpbmphdhabDoor.L
