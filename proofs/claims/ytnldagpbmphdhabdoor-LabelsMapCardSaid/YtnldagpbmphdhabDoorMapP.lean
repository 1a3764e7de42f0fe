import Derived.Test.YtnldagpbmphdhabDoorPut
namespace Go.Proofs.YtnldagpbmphdhabDoor.L
set_option linter.unusedVariables false
theorem mem_del {l : List Lb} {s : ByteArray} {x : Lb} : x ∈ delL l s ↔ x ∈ l ∧ x.1 ≠ s := by
  unfold delL
  rw [List.mem_filter]
  constructor
  · rintro ⟨h1, h2⟩
    exact ⟨h1, eqS_ne.1 (by simpa using h2)⟩
  · rintro ⟨h1, h2⟩
    exact ⟨h1, by simpa using eqS_ne.2 h2⟩
theorem up_dist {l : List Lb} (h : Up l) : Dist l := h.imp fun {x y} h e => by
  unfold Lt at h
  rw [e, less_irrefl] at h
  cases h
theorem del_up {l : List Lb} (h : Up l) (s : ByteArray) : Up (delL l s) := h.sublist List.filter_sublist
/-- The list with a label put. -/
structure PutR (l : List Lb) (k v : ByteArray) (l' : List Lb) : Prop where
  ok : OkL l'
  perm : l'.Perm (delL l k ++ [(k, v)])
theorem PutR.mem {l l' : List Lb} {k v : ByteArray} (h : PutR l k v l') (x : Lb) : x ∈ l' ↔ (x ∈ l ∧ x.1 ≠ k) ∨ x = (k, v) := by
  rw [h.perm.mem_iff, List.mem_append, mem_del, List.mem_singleton]
theorem put_ok {l l' : List Lb} {k v : ByteArray} (ho : OkL l) (he : putE l k v = 0) (hs : Sorted (delL l k ++ [(k, v)]) l') : PutR l k v l' := by
  unfold putE at he
  split at he
  · rename_i hl
    split at he
    · cases he
    · rename_i hn
      have hd : Dist (delL l k ++ [(k, v)]) := by
        refine List.pairwise_append.2 ⟨up_dist (del_up ho.up k), List.pairwise_singleton _ _, fun x hx y hy => ?_⟩
        rw [List.mem_singleton.1 hy]
        exact (mem_del.1 hx).2
      have hlen := del_len l k
      refine ⟨⟨?_, sorted_ok hs hd, fun x hx => ?_⟩, hs.1⟩
      · rw [hs.1.length_eq, List.length_append]
        have := ho.len
        simp
        omega
      · rcases List.mem_append.1 (hs.1.mem_iff.1 hx) with h | h
        · exact ho.lab x (mem_del.1 h).1
        · rw [List.mem_singleton.1 h]
          exact hl
  · rename_i hl
    exact absurd he hl
theorem get_congr {a b : List Lb} {s : ByteArray} (ha : Up a) (hb : Up b) (h : ∀ x : Lb, x.1 = s → (x ∈ a ↔ x ∈ b)) : getN a s = getN b s := by
  cases e : (getN a s).2
  · have n := (get_no e).2
    rw [(get_no e).1]
    refine (get_none fun x hx hs => ?_).symm
    exact n x ((h x hs).2 hx) hs
  · obtain ⟨h1, h2⟩ := get_yes e
    rw [h1]
    exact (get_up hb ((h _ rfl).1 h2)).symm
theorem del_one {l : List Lb} (hu : Up l) {x : Lb} (hx : x ∈ l) : (delL l x.1).length + 1 = l.length := by
  induction l with
  | nil => simp at hx
  | cons y l ih =>
    obtain ⟨h1, h2⟩ := List.pairwise_cons.1 hu
    have ne : ∀ z ∈ l, z.1 ≠ y.1 := fun z hz e => by
      have := h1 z hz
      unfold Lt at this
      rw [e, less_irrefl] at this
      cases this
    rcases List.mem_cons.1 hx with rfl | hx
    · unfold delL
      rw [List.filter_cons_of_neg (by simp [eqS_iff.2])]
      rw [List.filter_eq_self.2 fun z hz => by simpa using eqS_ne.2 (ne z hz)]
      rfl
    · unfold delL
      rw [List.filter_cons_of_pos (by simpa using eqS_ne.2 (ne x hx).symm)]
      have := ih h2 hx
      unfold delL at this
      simp
      omega
/-- The law's pure part. -/
theorem map_again {l p q : List Lb} {k v : ByteArray} (hp : PutR l k v p) (hq : PutR p k v q) : q = p := by
  refine up_unique hq.ok.up hp.ok.up fun x => ?_
  rw [hq.mem]
  constructor
  · rintro (⟨h, _⟩ | rfl)
    · exact h
    · exact (hp.mem _).2 (Or.inr rfl)
  · intro h
    rcases (hp.mem x).1 h with ⟨_, h2⟩ | h2
    · exact Or.inl ⟨h, h2⟩
    · exact Or.inr h2
theorem put_mem {l p : List Lb} {k v : ByteArray} (hp : PutR l k v p) : (k, v) ∈ p := (hp.mem _).2 (Or.inr rfl)
theorem put_again {l p : List Lb} {k v : ByteArray} (hl : labE k v = 0) (hp : PutR l k v p) : putE p k v = 0 := by
  unfold putE
  rw [if_pos hl, if_neg]
  have := del_one hp.ok.up (put_mem hp)
  have h32 := hp.ok.len
  simp at this
  omega
theorem put_get {l p : List Lb} {k v : ByteArray} (hp : PutR l k v p) : getN p k = (v, true) := get_up hp.ok.up (put_mem hp)
theorem put_other {l p : List Lb} {k v o : ByteArray} (ho : OkL l) (hp : PutR l k v p) (h : o ≠ k) : getN p o = getN l o := by
  refine get_congr hp.ok.up ho.up fun x hx => ?_
  rw [hp.mem]
  constructor
  · rintro (⟨h1, _⟩ | rfl)
    · exact h1
    · exact absurd hx.symm h
  · intro h1
    exact Or.inl ⟨h1, by rw [hx]; exact h⟩
theorem del_comm (l : List Lb) (a b : ByteArray) : delL (delL l a) b = delL (delL l b) a := by
  unfold delL
  rw [List.filter_filter, List.filter_filter]
  congr 1
  funext x
  exact Bool.and_comm _ _
theorem del_put_len {l p : List Lb} {k v o : ByteArray} (hp : PutR l k v p) (h : o ≠ k) : (delL p o).length = (delL (delL l k) o).length + 1 := by
  have : (delL p o).Perm (delL (delL l k ++ [(k, v)]) o) := hp.perm.filter _
  rw [this.length_eq]
  unfold delL
  rw [List.filter_append, List.length_append]
  congr 1
  rw [List.filter_cons_of_pos (by simpa using eqS_ne.2 h.symm)]
  rfl
theorem map_swap {l p a b c : List Lb} {k v o s : ByteArray} (h : o ≠ k) (hp : PutR l k v p) (ha : PutR p o s a) (hb : PutR l o s b) (hc : PutR b k v c) : a = c := by
  refine up_unique ha.ok.up hc.ok.up fun x => ?_
  rw [ha.mem, hp.mem, hc.mem, hb.mem]
  constructor
  · rintro (⟨⟨h1, h2⟩ | rfl, h3⟩ | rfl)
    · exact Or.inl ⟨Or.inl ⟨h1, h3⟩, h2⟩
    · exact Or.inr rfl
    · exact Or.inl ⟨Or.inr rfl, h⟩
  · rintro (⟨⟨h1, h2⟩ | rfl, h3⟩ | rfl)
    · exact Or.inl ⟨Or.inl ⟨h1, h3⟩, h2⟩
    · exact Or.inr rfl
    · exact Or.inl ⟨Or.inr rfl, h.symm⟩
theorem map_swap_ok {l p b : List Lb} {k v o s : ByteArray} (h : o ≠ k) (hl : labE k v = 0) (hp : PutR l k v p) (hb : PutR l o s b) (he : putE p o s = 0) : putE b k v = 0 := by
  unfold putE at he ⊢
  rw [if_pos hl]
  split at he
  · split at he
    · cases he
    · rename_i hn
      rw [if_neg]
      rw [del_put_len hb h.symm, del_comm, ← del_put_len hp h]
      exact hn
  · rename_i h0
    exact absurd he h0
theorem put_bad {l : List Lb} {k v : ByteArray} (ho : OkL l) (he : putE l k v ≠ 0) : keyB k = false ∨ valB v = false ∨ (getN l k).2 = false ∧ l.length = 32 := by
  unfold putE at he
  split at he
  · split at he
    · rename_i hl hn
      have h32 := ho.len
      have hlen := del_len l k
      refine Or.inr (Or.inr ⟨?_, by omega⟩)
      cases e : (getN l k).2
      · rfl
      · have := del_one ho.up (get_yes e).2
        simp at this
        omega
    · exact absurd rfl he
  · rename_i hl
    unfold labE at hl
    split at hl
    · rename_i h1
      exact Or.inl h1
    · split at hl
      · rename_i h2
        exact Or.inr (Or.inl h2)
      · exact absurd rfl hl
end Go.Proofs.YtnldagpbmphdhabDoor.L
