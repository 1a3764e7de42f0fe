import Derived.Test.YtppblibcbjpfnaaDoorTl7
namespace Go.Proofs.YtppblibcbjpfnaaDoor.L
set_option linter.unusedVariables false
abbrev Up (l : List Tn) : Prop := l.Pairwise fun x y => tltB x y = true
abbrev Di (l : List Tn) : Prop := l.Pairwise fun x y => ¬ sameK x y
theorem sameK_symm {x y : Tn} (h : sameK x y) : sameK y x := ⟨h.1.symm, h.2.symm⟩
theorem di_perm {l l' : List Tn} (hp : l'.Perm l) (h : Di l) : Di l' := (hp.symm.pairwise_iff (fun {x y} h e => h (sameK_symm e))).1 h
theorem sorted_up {l l' : List Tn} (hs : SortedT l l') (hd : Di l) : Up l' := by
  refine (hs.2.and (di_perm hs.1 hd)).imp ?_
  rintro x y ⟨h1, h2⟩
  rcases tlt_total x y with h | h | h
  · exact h
  · exact absurd h h2
  · rw [h1] at h; cases h
theorem up_unique {a b : List Tn} (ha : Up a) (hb : Up b) (h : ∀ x, x ∈ a ↔ x ∈ b) : a = b := by
  induction a generalizing b with
  | nil => cases b with
    | nil => rfl
    | cons y b => exact absurd ((h y).2 (by simp)) (by simp)
  | cons x a ih => cases b with
    | nil => exact absurd ((h x).1 (by simp)) (by simp)
    | cons y b =>
      obtain ⟨a1, a2⟩ := List.pairwise_cons.1 ha
      obtain ⟨b1, b2⟩ := List.pairwise_cons.1 hb
      have irr : ∀ {z : Tn}, tltB z z = true → False := fun {z} e => by rw [tlt_irrefl] at e; cases e
      have e : x = y := by
        rcases List.mem_cons.1 ((h x).1 (by simp)) with e | e
        · exact e
        · rcases List.mem_cons.1 ((h y).2 (by simp)) with f | f
          · exact f.symm
          · exact (irr (tlt_trans _ _ _ (a1 y f) (b1 x e))).elim
      subst e
      rw [ih a2 b2 fun z => ?_]
      constructor
      · intro hz
        rcases List.mem_cons.1 ((h z).1 (by simp [hz])) with e | e
        · rw [e] at hz
          exact (irr (a1 _ hz)).elim
        · exact e
      · intro hz
        rcases List.mem_cons.1 ((h z).2 (by simp [hz])) with e | e
        · rw [e] at hz
          exact (irr (b1 _ hz)).elim
        · exact e
theorem perm_up {a b : List Tn} (ha : Up a) (hb : Up b) (h : a.Perm b) : a = b := up_unique ha hb fun x => h.mem_iff
theorem made_up {l l' : List Tn} (ho : OkT l) (hs : SortedT l l') : OkUp l' := ⟨by rw [hs.1.length_eq]; exact ho.len, fun x hx => ho.each x (hs.1.mem_iff.1 hx), sorted_up hs ho.dist⟩
theorem ok_rev {l : List Tn} (h : OkT l) : OkT l.reverse := ⟨by simpa using h.len, fun x hx => h.each x (by simpa using hx), di_perm (List.reverse_perm l) h.dist⟩
theorem dels_sub (l : List Tn) (k f : ByteArray) : (dels l k f).Sublist l := List.filter_sublist
theorem dels_up {l : List Tn} (h : Up l) (k f : ByteArray) : Up (dels l k f) := h.sublist (dels_sub l k f)
theorem dels_ge {l : List Tn} (h : Di l) (k f : ByteArray) : l.length ≤ (dels l k f).length + 1 := by
  induction l with
  | nil => simp
  | cons x l ih =>
    obtain ⟨h1, h2⟩ := List.pairwise_cons.1 h
    unfold dels at *
    cases e : isK k f x
    · rw [List.filter_cons_of_pos (by rw [e]; rfl)]
      have := ih h2
      simp only [List.length_cons]
      omega
    · rw [List.filter_cons_of_neg (by rw [e]; decide)]
      have : List.filter (fun t => !isK k f t) l = l := by
        rw [List.filter_eq_self]
        intro y hy
        cases e2 : isK k f y
        · rfl
        · exact absurd ⟨(isK_iff.1 e).1.trans (isK_iff.1 e2).1.symm, (isK_iff.1 e).2.trans (isK_iff.1 e2).2.symm⟩ (h1 y hy)
      rw [this]
      simp
theorem dels_same {l : List Tn} {k f : ByteArray} (h : (dels l k f).length = l.length) : dels l k f = l := (dels_sub l k f).eq_of_length h
theorem dels_none (l : List Tn) (k f : ByteArray) : dels (dels l k f) k f = dels l k f := by
  unfold dels
  rw [List.filter_filter]
  simp
/-- The list with a taint put in. -/
structure Put (L W : List Tn) (t : Tn) : Prop where
  okL : OkUp L
  et : tE t = 0
  srt : SortedT (dels L t.1 t.2.2 ++ [t]) W
  room : (dels L t.1 t.2.2).length ≠ 16
theorem Put.d16 {L W : List Tn} {t : Tn} (h : Put L W t) : (dels L t.1 t.2.2).length + 1 ≤ 16 := by
  have := dels_len L t.1 t.2.2
  have := h.okL.len
  have := h.room
  omega
theorem Put.wlen {L W : List Tn} {t : Tn} (h : Put L W t) : W.length = (dels L t.1 t.2.2).length + 1 := by
  rw [h.srt.1.length_eq]
  simp
theorem Put.okW {L W : List Tn} {t : Tn} (h : Put L W t) : OkUp W := by
  refine made_up ⟨?_, fun x hx => ?_, ?_⟩ h.srt
  · rw [List.length_append]
    exact h.d16
  · rcases List.mem_append.1 hx with hx | hx
    · exact h.okL.each x ((dels_sub _ _ _).mem hx)
    · rw [List.mem_singleton.1 hx]; exact h.et
  · refine List.pairwise_append.2 ⟨(dels_up h.okL.up _ _).imp tlt_not, List.pairwise_singleton _ _, fun x hx y hy e => ?_⟩
    rw [List.mem_singleton.1 hy] at e
    have := (List.mem_filter.1 hx).2
    rw [isK_iff.2 e] at this
    cases this
theorem Put.mem {L W : List Tn} {t : Tn} (h : Put L W t) : t ∈ W := h.srt.1.mem_iff.2 (by simp)
theorem Put.dperm {L W : List Tn} {t : Tn} (h : Put L W t) : (dels W t.1 t.2.2).Perm (dels L t.1 t.2.2) := by
  have p : (dels W t.1 t.2.2).Perm (dels (dels L t.1 t.2.2 ++ [t]) t.1 t.2.2) := h.srt.1.filter _
  have e : dels (dels L t.1 t.2.2 ++ [t]) t.1 t.2.2 = dels L t.1 t.2.2 := by
    conv => rhs; rw [← dels_none L t.1 t.2.2]
    unfold dels
    rw [List.filter_append, List.filter_cons_of_neg (by rw [isK_iff.2 ⟨rfl, rfl⟩]; decide)]
    simp
  rw [e] at p
  exact p
theorem Put.deq {L W : List Tn} {t : Tn} (h : Put L W t) : dels W t.1 t.2.2 = dels L t.1 t.2.2 := perm_up (dels_up h.okW.up _ _) (dels_up h.okL.up _ _) h.dperm
theorem Put.again {L W A : List Tn} {t : Tn} (h : Put L W t) (hs : SortedT (dels W t.1 t.2.2 ++ [t]) A) : A = W := by
  rw [h.deq] at hs
  have p : A.Perm W := hs.1.trans h.srt.1.symm
  refine perm_up (sorted_up hs ?_) h.okW.up p
  exact di_perm h.srt.1.symm (h.okW.up.imp tlt_not)
theorem up_good {l l' : List Tn} (hg : GoodT l) (hl : l'.length ≤ l.length) (hm : ∀ x ∈ l', x ∈ l) : GoodT l' := hg.sub hl hm
end Go.Proofs.YtppblibcbjpfnaaDoor.L
