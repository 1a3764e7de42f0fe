import Derived.Test.YtnldagpbmphdhabDoorRt
namespace Go.Proofs.YtnldagpbmphdhabDoor.L
set_option linter.unusedVariables false
/-- What an item that has no fault is. -/
theorem item_of {x : ByteArray} (h : itE x = 0) : labE (itK x) (itV x) = 0 ∧ x.data.toList = item (itK x, itV x) := by
  unfold itE at h
  rcases idx_cases x 61 with e | ⟨i, e, hi⟩
  · rw [if_pos e] at h; cases h
  · have hne : ¬ idx x 61 = -1 := by omega
    rw [if_neg hne] at h
    refine ⟨h, ?_⟩
    unfold item itK itV
    rw [if_neg hne, if_neg hne, e]
    exact (idx_parts e).1
theorem pr_sound (ps : List ByteArray) (done : List Lb) (p : Nat) (hd : Dist done) (hl : ∀ x ∈ done, labE x.1 x.2 = 0) (h32 : done.length ≤ 32) (h : (pr ps done p).2.2 = 0) :
    ∃ r, pr ps done p = (done ++ r, 0, 0) ∧ ps.map (·.data.toList) = r.map item ∧ Dist (done ++ r) ∧ (∀ x ∈ done ++ r, labE x.1 x.2 = 0) ∧ (done ++ r).length ≤ 32 := by
  induction ps generalizing done p with
  | nil => exact ⟨[], by simp [pr], rfl, by simpa using hd, by simpa using hl, by simpa using h32⟩
  | cons x ps ih =>
    simp only [pr] at h ⊢
    by_cases h1 : done.length = 32
    · rw [if_pos h1] at h; cases h
    · rw [if_neg h1] at h ⊢
      by_cases h2 : itE x = 0
      · rw [if_pos h2] at h ⊢
        obtain ⟨hl1, hx⟩ := item_of h2
        cases h3 : (getN done (itK x)).2
        · rw [h3, if_neg (by decide)] at h
          rw [if_neg (by decide)]
          have hno := (get_no h3).2
          obtain ⟨r, e1, e2, e3, e4, e5⟩ := ih (done ++ [(itK x, itV x)]) _ (List.pairwise_append.2 ⟨hd, List.pairwise_singleton _ _, fun y hy z hz => by rw [List.mem_singleton.1 hz]; exact hno y hy⟩) (fun y hy => by
            rcases List.mem_append.1 hy with hy | hy
            · exact hl y hy
            · rw [List.mem_singleton.1 hy]; exact hl1) (by simp; omega) h
          refine ⟨(itK x, itV x) :: r, ?_, ?_, ?_, ?_, ?_⟩
          · rw [e1]; simp
          · rw [List.map_cons, List.map_cons, e2, hx]
          · simpa using e3
          · simpa using e4
          · simpa using e5
        · rw [if_pos h3] at h; cases h
      · rw [if_neg h2] at h; exact absurd h h2
/-- A text that is read is the text of its labels, in its order. -/
theorem parse_sound {t : ByteArray} (h : (parseN t).2.2 = 0) : ∃ L, parseN t = (L, 0, 0) ∧ t.data.toList = txt L ∧ Dist L ∧ (∀ x ∈ L, labE x.1 x.2 = 0) ∧ L.length ≤ 32 := by
  unfold parseN at h ⊢
  by_cases h1 : 8192 < t.size
  · rw [if_pos h1] at h; cases h
  · rw [if_neg h1] at h ⊢
    by_cases h0 : t.size = 0
    · rw [if_pos h0]
      refine ⟨[], rfl, ?_, List.Pairwise.nil, fun x hx => by simp at hx, Nat.zero_le _⟩
      have : t.data.toList.length = 0 := by simpa using h0
      rw [List.length_eq_zero_iff.1 this]
      rfl
    · rw [if_neg h0] at h ⊢
      obtain ⟨r, e1, e2, e3, e4, e5⟩ := pr_sound _ [] 0 List.Pairwise.nil (fun x hx => by simp at hx) (Nat.zero_le _) h
      refine ⟨r, by simpa using e1, ?_, by simpa using e3, by simpa using e4, by simpa using e5⟩
      rw [pieces_cut] at e2
      rw [← cut_join 44 t.data.toList, e2]
      rfl
theorem join_len (c : UInt8) (ps : List (List UInt8)) (h : ps ≠ []) : (joinL c ps).length + 1 = (ps.map fun p => p.length + 1).sum := by
  induction ps with
  | nil => exact absurd rfl h
  | cons p ps ih =>
    cases ps with
    | nil => simp [joinL]
    | cons q ps =>
      have := ih (by simp)
      rw [join_cons c _ _ (by simp), List.map_cons, List.sum_cons, ← this, List.length_append, List.length_cons]
      omega
theorem txt_perm {l l' : List Lb} (h : l'.Perm l) : (txt l').length = (txt l).length := by
  by_cases h0 : l = []
  · subst h0
    rw [h.eq_nil]
  · have h0' : l' ≠ [] := fun e => h0 (by subst e; exact h.symm.eq_nil)
    have a := join_len 44 (l.map item) (by simpa using h0)
    have b := join_len 44 (l'.map item) (by simpa using h0')
    have c : ((l'.map item).map fun p => p.length + 1).Perm ((l.map item).map fun p => p.length + 1) := (h.map item).map _
    have d := c.sum_nat
    unfold txt
    omega
/-- A text that is refused, with more behind it. -/
theorem pr_more (ps qs : List ByteArray) (done : List Lb) (p : Nat) (h : (pr ps done p).2.2 ≠ 0) : pr (ps ++ qs) done p = pr ps done p := by
  induction ps generalizing done p with
  | nil => exact absurd rfl h
  | cons x ps ih =>
    simp only [List.cons_append, pr] at h ⊢
    split
    · rfl
    · rename_i h1
      rw [if_neg h1] at h
      split
      · rename_i h2
        rw [if_pos h2] at h
        split
        · rfl
        · rename_i h3
          rw [if_neg h3] at h
          exact ih _ _ h
      · rfl
theorem pr_at (ps : List ByteArray) (done : List Lb) (p : Nat) (h : (pr ps done p).2.2 ≠ 0) : (pr ps done p).1 = [] ∧ ∃ k, k < ps.length ∧ (pr ps done p).2.1 = ((p + ((ps.take k).map fun x => x.size + 1).sum : Nat) : Int) := by
  induction ps generalizing done p with
  | nil => exact absurd rfl h
  | cons x ps ih =>
    simp only [pr] at h ⊢
    split
    · exact ⟨rfl, 0, by simp, by simp⟩
    · rename_i h1
      rw [if_neg h1] at h
      split
      · rename_i h2
        rw [if_pos h2] at h
        split
        · exact ⟨rfl, 0, by simp, by simp⟩
        · rename_i h3
          rw [if_neg h3] at h
          obtain ⟨a, k, b, c⟩ := ih _ _ h
          refine ⟨a, k + 1, by simp; omega, ?_⟩
          rw [c]
          simp
          omega
      · exact ⟨rfl, 0, by simp, by simp⟩
theorem join_at (c : UInt8) (ps : List (List UInt8)) (k : Nat) (hk : k < ps.length) : ((ps.take k).map fun x => x.length + 1).sum ≤ (joinL c ps).length ∧ (0 < ((ps.take k).map fun x => x.length + 1).sum → (joinL c ps)[((ps.take k).map fun x => x.length + 1).sum - 1]? = some c) := by
  induction ps generalizing k with
  | nil => simp at hk
  | cons p ps ih =>
    cases k with
    | zero => simp
    | succ k =>
      cases ps with
      | nil => simp at hk
      | cons q ps =>
        obtain ⟨a, b⟩ := ih k (by simpa using hk)
        rw [join_cons c _ _ (by simp)]
        rw [List.take_succ_cons, List.map_cons, List.sum_cons]
        generalize ((List.take k (q :: ps)).map fun x => x.length + 1).sum = S at *
        refine ⟨by rw [List.length_append, List.length_cons]; omega, fun _ => ?_⟩
        by_cases h0 : S = 0
        · subst h0
          rw [show p.length + 1 + 0 - 1 = p.length by omega, List.getElem?_append_right (Nat.le_refl _)]
          simp
        · have := b (by omega)
          rw [show p.length + 1 + S - 1 = p.length + (1 + (S - 1)) by omega, List.getElem?_append_right (by omega), Nat.add_sub_cancel_left, Nat.add_comm 1, List.getElem?_cons_succ]
          exact this
theorem pieces_more (t m : ByteArray) : pieces (t ++ ⟨#[44]⟩ ++ m) 44 = pieces t 44 ++ pieces m 44 := by
  apply map_data_inj
  rw [List.map_append, pieces_cut, pieces_cut, pieces_cut, ← cut_app]
  congr 1
  simp
/-- Where a text is refused. -/
theorem parse_at {t : ByteArray} (h : (parseN t).2.2 ≠ 0) : (8192 < t.size ∧ parseN t = ([], 0, 39)) ∨ (t.size ≤ 8192 ∧ (parseN t).2.2 ≠ 39 ∧ ∃ a : Nat, (parseN t).2.1 = (a : Int) ∧ a ≤ t.size ∧ (0 < a → at' t (a - 1) = 44)) := by
  by_cases h1 : 8192 < t.size
  · exact Or.inl ⟨h1, by unfold parseN; rw [if_pos h1]⟩
  · right
    have h0 : ¬ t.size = 0 := by
      intro e
      unfold parseN at h
      rw [if_neg h1, if_pos e] at h
      exact h rfl
    have hp : parseN t = pr (pieces t 44) [] 0 := by unfold parseN; rw [if_neg h1, if_neg h0]
    rw [hp] at h ⊢
    obtain ⟨_, k, hk, e⟩ := pr_at _ _ _ h
    refine ⟨by omega, ?_, _, e, ?_⟩
    · have key : ∀ (ps : List ByteArray) (done : List Lb) (p : Nat), (pr ps done p).2.2 ≠ 39 := by
        intro ps
        induction ps with
        | nil => intro done p; simp [pr]
        | cons x ps ih =>
          intro done p
          simp only [pr]
          split
          · simp
          · split
            · split
              · simp
              · exact ih _ _
            · rcases itE_cases x with h | h | h | h <;> rw [h] <;> simp
      exact key _ _ _
    · have hc := pieces_cut t 44
      have hl : ((pieces t 44).take k).map (fun x => x.size + 1) = ((cutL 44 t.data.toList).take k).map fun x => x.length + 1 := by
        rw [← hc, ← List.map_take, List.map_map]
        congr 1
      rw [Nat.zero_add, hl]
      have hk' : k < (cutL 44 t.data.toList).length := by rw [← hc]; simpa using hk
      obtain ⟨a, b⟩ := join_at 44 (cutL 44 t.data.toList) k hk'
      rw [cut_join] at a b
      refine ⟨by simpa using a, fun hpos => ?_⟩
      have := b hpos
      unfold at'
      rw [List.getD_eq_getElem?_getD, this]
      rfl
theorem parse_more {t m : ByteArray} (h : (parseN t).2.2 ≠ 0) (hs : t.size + 1 + m.size ≤ 8192) : (parseN (t ++ ⟨#[44]⟩ ++ m)).2 = (parseN t).2 := by
  have h0 : ¬ t.size = 0 := by
    intro e
    unfold parseN at h
    rw [if_neg (by omega), if_pos e] at h
    exact h rfl
  have hp : parseN t = pr (pieces t 44) [] 0 := by unfold parseN; rw [if_neg (by omega), if_neg h0]
  have hz : (t ++ ⟨#[44]⟩ ++ m).size = t.size + 1 + m.size := by
    rw [ByteArray.size_append, ByteArray.size_append]
    rfl
  rw [hp] at h ⊢
  unfold parseN
  rw [hz, if_neg (by omega), if_neg (by omega), pieces_more, pr_more _ _ _ _ h]
end Go.Proofs.YtnldagpbmphdhabDoor.L
