import Derived.Test.YtodamoblnlcodaaDoorRfd
namespace Go.Proofs.YtodamoblnlcodaaDoor.L
open Go.RowKit
set_option linter.unusedVariables false
/-- The labels that stand in order, and those that are left. -/
structure RS (l o r : List Lb) : Prop where
  perm : (o ++ r).Perm l
  up : Up o
  ahead : ∀ x ∈ o, ∀ y ∈ r, Lt x y
theorem dist_perm {a b : List Lb} (h : a.Perm b) (hd : Dist b) : Dist a := (h.pairwise_iff (fun {x y} e f => e f.symm)).2 hd
theorem rs_all {l r : List Lb} (h : RS l [] r) {x : Lb} (hx : x ∈ l) : x ∈ r := by
  have := h.perm.mem_iff (a := x)
  simpa using this.2 hx
theorem rs_pass {l o r : List Lb} {y : Lb} (h : RS l (o ++ [y]) r) {x : Lb} (hx : x ∈ l) : Op.bytesLess y.1.toList x.1.toList = true ↔ x ∈ r := by
  constructor
  · intro g
    rcases List.mem_append.1 (h.perm.mem_iff.2 hx) with m | m
    · exfalso
      rcases List.mem_append.1 m with m | m
      · have q : Lt x y := (List.pairwise_append.1 h.up).2.2 x m y (by simp)
        exact lt_irrefl (lt_trans q g)
      · rw [List.mem_singleton.1 m] at g
        exact lt_irrefl (x := y) g
    · exact m
  · intro m
    exact h.ahead y (by simp) x m
theorem rs_next {l o r : List Lb} (hd : Dist l) (h : RS l o r) {x : Lb} (hx : x ∈ r) (hm : ∀ y ∈ r, y = x ∨ Lt x y) : ∃ r', RS l (o ++ [x]) r' := by
  obtain ⟨s, t, rfl⟩ := List.append_of_mem hx
  have hp : (s ++ x :: t).Perm (x :: (s ++ t)) := List.perm_middle
  have hq : (o ++ [x] ++ (s ++ t)).Perm l := by
    rw [List.append_assoc]
    exact (List.Perm.append_left o hp.symm).trans h.perm
  have hd2 : Dist (x :: (s ++ t)) := by
    have := dist_perm hq hd
    rw [List.append_assoc] at this
    exact (List.pairwise_append.1 this).2.1
  refine ⟨s ++ t, hq, ?_, ?_⟩
  · refine List.pairwise_append.2 ⟨h.up, List.pairwise_singleton _ _, fun a ha b hb => ?_⟩
    rw [List.mem_singleton.1 hb]
    exact h.ahead a ha x hx
  · intro a ha b hb
    have hbr : b ∈ s ++ x :: t := hp.mem_iff.2 (by simp [List.mem_append.1 hb])
    rcases List.mem_append.1 ha with ha | ha
    · exact h.ahead a ha b hbr
    · rw [List.mem_singleton.1 ha]
      rcases hm b hbr with e | e
      · exact absurd (by rw [e]) ((List.pairwise_cons.1 hd2).1 b hb)
      · exact e
/-- The least so far of those that pass. -/
def Lea (l : List Lb) (p : ByteArray → Bool) (i : Nat) (a : Int) : Prop := (a = -1 ∧ ∀ j, j < i → p (ky l j) = false) ∨ ∃ q : Nat, a = q ∧ q < i ∧ p (ky l q) = true ∧ ∀ j, j < i → p (ky l j) = true → j = q ∨ Op.bytesLess (ky l q).toList (ky l j).toList = true
theorem lea_skip {l : List Lb} {p : ByteArray → Bool} {i : Nat} {a : Int} (h : Lea l p i a) (c : p (ky l i) = false) : Lea l p (i + 1) a := by
  rcases h with ⟨h1, h2⟩ | ⟨q, h1, h2, h3, h4⟩
  · refine Or.inl ⟨h1, fun j hj => ?_⟩
    by_cases e : j = i
    · rw [e]; exact c
    · exact h2 j (by omega)
  · refine Or.inr ⟨q, h1, by omega, h3, fun j hj hp => ?_⟩
    by_cases e : j = i
    · rw [e, c] at hp; cases hp
    · exact h4 j (by omega) hp
theorem lea_first {l : List Lb} {p : ByteArray → Bool} {i : Nat} (h : ∀ j, j < i → p (ky l j) = false) (c : p (ky l i) = true) : Lea l p (i + 1) i := by
  refine Or.inr ⟨i, rfl, by omega, c, fun j hj hp => ?_⟩
  by_cases e : j = i
  · exact Or.inl e
  · rw [h j (by omega)] at hp; cases hp
theorem lea_take {l : List Lb} {p : ByteArray → Bool} {i q : Nat} (h : ∀ j, j < i → p (ky l j) = true → j = q ∨ Op.bytesLess (ky l q).toList (ky l j).toList = true) (c : p (ky l i) = true) (hl : Op.bytesLess (ky l i).toList (ky l q).toList = true) : Lea l p (i + 1) i := by
  refine Or.inr ⟨i, rfl, by omega, c, fun j hj hp => ?_⟩
  by_cases e : j = i
  · exact Or.inl e
  · rcases h j (by omega) hp with rfl | g
    · exact Or.inr hl
    · exact Or.inr (less_trans _ _ _ hl g)
theorem lea_keep {l : List Lb} {p : ByteArray → Bool} {i q : Nat} (hq : q < i) (h3 : p (ky l q) = true) (h : ∀ j, j < i → p (ky l j) = true → j = q ∨ Op.bytesLess (ky l q).toList (ky l j).toList = true) (hne : (ky l i).toList ≠ (ky l q).toList) (hl : Op.bytesLess (ky l i).toList (ky l q).toList = false) : Lea l p (i + 1) q := by
  refine Or.inr ⟨q, rfl, by omega, h3, fun j hj hp => ?_⟩
  by_cases e : j = i
  · rcases less_total (ky l i).toList (ky l q).toList with g | g | g
    · rw [hl] at g; cases g
    · exact absurd g hne
    · rw [e]; exact Or.inr g
  · exact h j (by omega) hp
theorem dist_ky {l : List Lb} (h : Dist l) {i j : Nat} (hi : i < l.length) (hj : j < l.length) (hne : i ≠ j) : (ky l i).toList ≠ (ky l j).toList := by
  have key : ∀ i j, i < j → j < l.length → (ky l i).toList ≠ (ky l j).toList := by
    intro i j hij hj e
    have := List.pairwise_iff_getElem.1 h i j (by omega) hj hij
    rw [kv_get l i (by omega), kv_get l j hj] at this
    exact this (bytes_ext e)
  rcases Nat.lt_or_ge i j with g | g
  · exact key i j g hj
  · exact fun e => key j i (by omega) hi e.symm
theorem pass_mem {l r : List Lb} {p : ByteArray → Bool} (hp : ∀ x ∈ l, p x.1 = true ↔ x ∈ r) (hsub : ∀ x ∈ r, x ∈ l) {a : Int} (hr : r ≠ []) (h : Lea l p l.length a) : ∃ q : Nat, a = q ∧ q < l.length ∧ (ky l q, vl l q) ∈ r ∧ ∀ y ∈ r, y = (ky l q, vl l q) ∨ Lt (ky l q, vl l q) y := by
  rcases h with ⟨h1, h2⟩ | ⟨q, h1, h2, h3, h4⟩
  · obtain ⟨x, hx⟩ := List.exists_mem_of_ne_nil r hr
    obtain ⟨j, hj, rfl⟩ := mem_kv (hsub x hx)
    have := (hp _ (kv_mem l j hj)).2 hx
    rw [h2 j hj] at this
    cases this
  · refine ⟨q, h1, h2, (hp _ (kv_mem l q h2)).1 h3, fun y hy => ?_⟩
    obtain ⟨j, hj, rfl⟩ := mem_kv (hsub y hy)
    rcases h4 j hj ((hp _ (kv_mem l j hj)).2 hy) with e | e
    · exact Or.inl (by rw [e])
    · exact Or.inr e
theorem rs_sub {l o r : List Lb} (h : RS l o r) : ∀ x ∈ r, x ∈ l := fun x hx => h.perm.mem_iff.1 (by simp [hx])
theorem rs_len {l o r : List Lb} (h : RS l o r) : o.length + r.length = l.length := by
  have := h.perm.length_eq
  rw [List.length_append] at this
  exact this
/-- Which keys pass behind the labels that stand. -/
def pas (o : List Lb) (s : ByteArray) : Bool := match o.getLast? with
  | none => true
  | some y => Op.bytesLess y.1.toList s.toList
theorem pas_snoc (o : List Lb) (y : Lb) (s : ByteArray) : pas (o ++ [y]) s = Op.bytesLess y.1.toList s.toList := by
  unfold pas
  simp
theorem pas_mem {l o r : List Lb} (h : RS l o r) : ∀ x ∈ l, pas o x.1 = true ↔ x ∈ r := by
  intro x hx
  rcases List.eq_nil_or_concat o with e | ⟨o', y, e⟩
  · subst e
    exact ⟨fun _ => rs_all h hx, fun _ => rfl⟩
  · rw [List.concat_eq_append] at e
    subst e
    rw [pas_snoc]
    exact rs_pass h hx
end Go.Proofs.YtodamoblnlcodaaDoor.L
