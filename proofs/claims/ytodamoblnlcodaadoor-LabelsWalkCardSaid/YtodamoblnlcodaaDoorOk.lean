import Derived.Test.YtodamoblnlcodaaDoorMak
namespace Go.Proofs.YtodamoblnlcodaaDoor.L
set_option linter.unusedVariables false
theorem ky_succ (x : Lb) (l : List Lb) (k : Nat) : ky (x :: l) (k + 1) = ky l k := rfl
theorem gt_succ (x : Lb) (l : List Lb) (s : ByteArray) (n k : Nat) : gt (x :: l) s n (k + 1) = gt l s n k := by
  induction n generalizing k with
  | zero => rfl
  | succ n ih =>
    unfold gt
    rw [ky_succ, ih]
    rfl
theorem get_cons (x : Lb) (l : List Lb) (s : ByteArray) : getN (x :: l) s = if x.1 = s then (x.2, true) else getN l s := by
  show (if eqS (ky (x :: l) 0) s = true then (vl (x :: l) 0, true) else gt (x :: l) s l.length (0 + 1)) = _
  rw [gt_succ]
  by_cases h : x.1 = s
  · rw [if_pos h, if_pos (show eqS (ky (x :: l) 0) s = true from eqS_iff.2 h)]
    rfl
  · rw [if_neg h, if_neg (show ¬ eqS (ky (x :: l) 0) s = true from fun e => h (eqS_iff.1 e))]
    rfl
theorem get_no {l : List Lb} {s : ByteArray} (h : (getN l s).2 = false) : getN l s = (ByteArray.empty, false) ∧ ∀ x ∈ l, x.1 ≠ s := by
  induction l with
  | nil => exact ⟨rfl, fun x hx => by simp at hx⟩
  | cons x l ih =>
    rw [get_cons] at h ⊢
    by_cases e : x.1 = s
    · rw [if_pos e] at h; cases h
    · rw [if_neg e] at h ⊢
      refine ⟨(ih h).1, fun y hy => ?_⟩
      rcases List.mem_cons.1 hy with rfl | hy
      · exact e
      · exact (ih h).2 y hy
theorem get_yes {l : List Lb} {s : ByteArray} (h : (getN l s).2 = true) : getN l s = ((getN l s).1, true) ∧ (s, (getN l s).1) ∈ l := by
  induction l with
  | nil => cases h
  | cons x l ih =>
    rw [get_cons] at h ⊢
    by_cases e : x.1 = s
    · rw [if_pos e]
      subst e
      exact ⟨rfl, by simp⟩
    · rw [if_neg e] at h ⊢
      exact ⟨(ih h).1, List.mem_cons_of_mem _ (ih h).2⟩
theorem get_none {l : List Lb} {s : ByteArray} (h : ∀ x ∈ l, x.1 ≠ s) : getN l s = (ByteArray.empty, false) := by
  cases e : (getN l s).2
  · exact (get_no e).1
  · exact absurd rfl (h _ (get_yes e).2)
theorem get_up {l : List Lb} {x : Lb} (hu : Up l) (h : x ∈ l) : getN l x.1 = (x.2, true) := by
  cases e : (getN l x.1).2
  · exact absurd rfl ((get_no e).2 x h)
  · obtain ⟨h1, h2⟩ := get_yes e
    have := up_key hu h h2 rfl
    rw [h1]
    exact congrArg (fun z : Lb => (z.2, true)) this.symm
/-- A label list. -/
structure OkL (l : List Lb) : Prop where
  len : l.length ≤ 32
  up : Up l
  lab : ∀ x ∈ l, labE x.1 x.2 = 0
theorem lab_ok {k v : ByteArray} (h : labE k v = 0) : keyB k = true ∧ valB v = true := by
  unfold labE at h
  split at h
  · cases h
  · rename_i h1
    split at h
    · cases h
    · rename_i h2
      exact ⟨by simpa using h1, by simpa using h2⟩
theorem key_empty : keyB ⟨#[]⟩ = false := by decide +kernel
theorem key_ne {k : ByteArray} (h : keyB k = true) : k ≠ ⟨#[]⟩ := by
  rintro rfl
  rw [key_empty] at h
  cases h
theorem up_at {l : List Lb} (h : Up l) {i j : Nat} (hij : i < j) (hj : j < l.length) : Op.bytesLess (ky l i).toList (ky l j).toList = true := by
  have := List.pairwise_iff_getElem.1 h i j (by omega) hj hij
  rw [kv_get l i (by omega), kv_get l j hj] at this
  exact this
theorem rise_ok {l : List Lb} (h : OkL l) (k : Nat) (hk : k < l.length) : flt l k = 0 := by
  unfold flt
  have hl := h.lab _ (kv_mem l k hk)
  rw [if_pos hl]
  unfold riseE prv
  by_cases h0 : k = 0
  · subst h0
    rw [if_pos rfl, if_neg, if_neg]
    · intro e
      have : (⟨#[]⟩ : ByteArray).toList = [] := by rw [ByteArray.toList_eq]
      rw [this] at e
      cases hh : (ky l 0).toList <;> rw [hh] at e <;> cases e
    · intro e
      exact key_ne (lab_ok hl).1 (eqS_iff.1 e)
  · rw [if_neg h0]
    have := up_at h.up (show k - 1 < k by omega) hk
    obtain ⟨a, b, c⟩ := less_asymm _ _ this
    unfold eqS
    rw [c, a]
    rfl
theorem chk_ok (l : List Lb) (n k : Nat) (h : ∀ j, k ≤ j → j < k + n → flt l j = 0) : chk l n k = (0, 0) := by
  induction n generalizing k with
  | zero => rfl
  | succ n ih =>
    unfold chk
    rw [if_pos (h k (by omega) (by omega))]
    exact ih (k + 1) fun j h1 h2 => h j (by omega) (by omega)
theorem check_ok {l : List Lb} (h : OkL l) : checkN l = (0, 0) := by
  unfold checkN
  rw [if_neg (by have := h.len; omega)]
  exact chk_ok l _ 0 fun j _ hj => rise_ok h j (by omega)
theorem mkS_ok (l : List Lb) (n k : Nat) (h : (mkS l n k).2 = 0) : ∀ j, k ≤ j → j < k + n → mkF l j = 0 := by
  induction n generalizing k with
  | zero => intro j h1 h2; omega
  | succ n ih =>
    unfold mkS at h
    split at h
    · rename_i h0
      intro j h1 h2
      by_cases e : j = k
      · rw [e]; exact h0
      · exact ih (k + 1) h j (by omega) (by omega)
    · rename_i h0
      exact absurd h h0
def Dist (l : List Lb) : Prop := l.Pairwise fun x y => x.1 ≠ y.1
theorem make_ok {l : List Lb} (h : (makeN l).2 = 0) : makeN l = (ByteArray.empty, 0) ∧ l.length ≤ 32 ∧ Dist l ∧ ∀ x ∈ l, labE x.1 x.2 = 0 := by
  unfold makeN at h ⊢
  by_cases hl : 32 < l.length
  · rw [if_pos hl] at h; cases h
  · rw [if_neg hl] at h ⊢
    have each := mkS_ok l _ 0 h
    have lab : ∀ j, j < l.length → labE (ky l j) (vl l j) = 0 ∧ (getN (l.take j) (ky l j)).2 = false := by
      intro j hj
      have := each j (by omega) (by omega)
      unfold mkF at this
      split at this
      · rename_i h0
        split at this
        · cases this
        · rename_i h1
          exact ⟨h0, by simpa using h1⟩
      · rename_i h0
        exact absurd this h0
    refine ⟨?_, by omega, ?_, ?_⟩
    · have key : ∀ n k, (∀ j, k ≤ j → j < k + n → mkF l j = 0) → mkS l n k = (ByteArray.empty, 0) := by
        intro n
        induction n with
        | zero => intro k _; rfl
        | succ n ih =>
          intro k hk
          unfold mkS
          rw [if_pos (hk k (by omega) (by omega))]
          exact ih (k + 1) fun j h1 h2 => hk j (by omega) (by omega)
      exact key _ _ each
    · refine List.pairwise_iff_getElem.2 fun i j hi hj hij => ?_
      have := (get_no (lab j hj).2).2 (l[i]) (by
        rw [List.mem_take_iff_getElem]
        exact ⟨i, by omega, rfl⟩)
      rw [kv_get l j hj]
      exact this
    · intro x hx
      obtain ⟨j, hj, rfl⟩ := mem_kv hx
      exact (lab j hj).1
theorem sorted_ok {l l' : List Lb} (hs : Sorted l l') (hd : Dist l) : Up l' := by
  have d' : l'.Pairwise fun x y => x.1 ≠ y.1 := (hs.1.pairwise_iff (fun {x y} h => Ne.symm h)).2 hd
  refine (List.Pairwise.and hs.2 d').imp ?_
  rintro x y ⟨h1, h2⟩
  rcases less_total x.1.toList y.1.toList with g | g | g
  · exact g
  · exact absurd (bytes_ext g) h2
  · rw [h1] at g; cases g
theorem made_ok {l l' : List Lb} (h : (makeN l).2 = 0) (hs : Sorted l l') : OkL l' := by
  obtain ⟨_, a, b, c⟩ := make_ok h
  exact ⟨by rw [hs.1.length_eq]; exact a, sorted_ok hs b, fun x hx => c x (hs.1.mem_iff.1 hx)⟩
theorem ok_good {l : List Lb} (h : OkL l) (hs : ∀ x ∈ l, x.1.size ≤ maxLen ∧ x.2.size ≤ maxLen) : Good l := ⟨⟨by have := h.len; unfold maxLen; omega, by have := h.len; omega⟩, hs⟩
end Go.Proofs.YtodamoblnlcodaaDoor.L
