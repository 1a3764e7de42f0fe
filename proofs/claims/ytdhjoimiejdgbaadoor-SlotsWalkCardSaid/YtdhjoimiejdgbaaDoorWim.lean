import Derived.Test.YtdhjoimiejdgbaaDoorMgF
namespace Go.Proofs.YtdhjoimiejdgbaaDoor.L
open Go.RowKit Bs Go.Maps Go.Shelf
set_option linter.unusedVariables false
theorem app_all {W w4 : World} {M Bo n m : Nat} {v v' : Value} {xs ys : List Value} {tmp : Obj} (hv : Boxed W Bo 90 v) (hrow : W.ownsRow M 92 2 v n xs) (hown' : w4.ownsRow M 92 2 v' m ys) (hgrow : (W.alloc tmp).grownBy w4 v.ownBlock) :
    Boxed w4 Bo 90 v ∧ Boxed (w4.setCell ⟨Bo, 0, none⟩ v') Bo 90 v' ∧ (w4.setCell ⟨Bo, 0, none⟩ v').ownsRow M 92 2 v' m ys ∧ Bx (Bo :: v.ownBlock.toList) W.heap.size W (w4.setCell ⟨Bo, 0, none⟩ v') := by
  have hv1 : Boxed w4 Bo 90 v := (hv.alloc tmp).kept hgrow (hv.not_row (by decide) hrow)
  exact ⟨hv1, hv1.set v', hown'.kept (grownBy_setCell' w4 Bo v') (.inr (hv1.not_row (by decide) hown').symm), bx_app hgrow v'⟩
theorem own_kind {W : World} {M : Nat} {e : TypeId} {size n : Nat} {v : Value} {xs : List Value} (h : W.ownsRow M e size v n xs) {g : Nat} (hg : v.ownBlock = some g) : M ≤ g ∧ ∃ cur, W.heap[g]? = some (.cells cur e (0, 0)) := by
  rcases h.2 with ⟨e, _⟩ | ⟨g', cap, cur, e, hm, hh, _⟩
  · rw [e] at hg; simp [Value.ownBlock] at hg
  · rw [e] at hg; simp [Value.ownBlock] at hg; subst hg; exact ⟨hm, cur, hh⟩
/-- What a walk's body keeps: the books, the snapshot's block. -/
structure Jm (M bb : Nat) (W W' : World) : Prop where
  kb : Kb M W W'
  md : Mid bb (bb + 1) W W'
theorem Jm.trans {M bb : Nat} {A B C : World} (h : Jm M bb A B) (k : Jm M bb B C) : Jm M bb A C := ⟨h.kb.trans k.kb, h.md.trans k.md⟩
theorem Jm.bx {M bb : Nat} {L : List Nat} {W W' : World} (hx : Bx L W.heap.size W W') (h1 : ∀ k ∈ L, k ≠ bb ∧ ∀ o, W.heap[k]? = some o → isBk o = false) (hb : bb < W.heap.size) : Jm M bb W W' :=
  ⟨Kb.bx hx (fun k hk => (h1 k hk).2), hx.size, fun k h2 h3 => hx.block k (by omega) (fun c => by have := (h1 k c).1; omega)⟩
theorem Jm.low {M bb : Nat} {W W' : World} (h : Below W.heap.size W W') (hb : bb < W.heap.size) : Jm M bb W W' := Jm.bx (L := []) (Bx.of h) (fun k hk => (by cases hk)) hb
theorem Wh.books {s W : World} {B : Nat} {G : List Nat} {st : Nat → St} (h : Wh s W B G st) : ∀ k ∈ gsB B st, ∀ o, W.heap[k]? = some o → isBk o = false := fun k c o ho => by
  rcases mem_gs c with rfl | ⟨i, hi, hm⟩
  · obtain ⟨cur, e, _⟩ := h.bb
    rw [e] at ho
    injection ho with ho
    subst ho
    rfl
  · rcases (h.tq i hi).kinds hm with ⟨es, cl, e⟩ | ⟨cur, t, e, ht⟩
    · rw [e] at ho
      injection ho with ho
      subst ho
      rfl
    · rw [e] at ho
      injection ho with ho
      subst ho
      rfl
/-- Where the first walk's memory lies. -/
structure Cx (s : World) (C : List (Nat × Obj)) (M B1 Ba bb : Nat) : Prop where
  c : ∀ p ∈ C, p.1 < M ∧ p.1 ≠ B1 ∧ p.1 ≠ Ba
  b1 : B1 < M ∧ s.heap.size ≤ B1
  ba : Ba < M ∧ s.heap.size ≤ Ba
  ne : B1 ≠ Ba
  bb : ∃ o, (bb, o) ∈ C
theorem Cx.lt {s : World} {C : List (Nat × Obj)} {M B1 Ba bb : Nat} (h : Cx s C M B1 Ba bb) : bb < M ∧ bb ≠ B1 ∧ bb ≠ Ba := by
  obtain ⟨o, ho⟩ := h.bb
  exact h.c _ ho
theorem Im.app {s : World} {B : Nat} {C : List (Nat × Obj)} {M B1 Ba n2 bb : Nat} {pre pre' : List Sn} {W w4 : World} {v v' : Value} {tmp : Obj} (h : Im s B C M B1 Ba n2 pre W) (x : Cx s C M B1 Ba bb)
    (hv : Boxed W B1 90 v) (hrow : W.ownsRow M 92 2 v pre.length (cellsP pre)) (hown' : w4.ownsRow M 92 2 v' pre'.length (cellsP pre')) (hgrow : (W.alloc tmp).grownBy w4 v.ownBlock) :
    Boxed w4 B1 90 v ∧ Boxed (w4.setCell ⟨B1, 0, none⟩ v') B1 90 v' ∧ Im s B C M B1 Ba n2 pre' (w4.setCell ⟨B1, 0, none⟩ v') ∧ Jm M bb W (w4.setCell ⟨B1, 0, none⟩ v') := by
  obtain ⟨y1, y2, y3, y4⟩ := app_all hv hrow hown' hgrow
  have hL : ∀ k ∈ B1 :: v.ownBlock.toList, k = B1 ∨ M ≤ k := fun k hk => by
    rcases List.mem_cons.1 hk with e | hk
    · exact Or.inl e
    · exact Or.inr (own_kind hrow (Option.mem_toList.1 hk)).1
  have hO : ∀ k ∈ B1 :: v.ownBlock.toList, ∃ cur t, W.heap[k]? = some (.cells cur t (0, 0)) ∧ (t = 90 ∨ t = 92) := fun k hk => by
    rcases List.mem_cons.1 hk with rfl | hk
    · exact ⟨_, _, hv, Or.inl rfl⟩
    · obtain ⟨cur, e⟩ := (own_kind hrow (Option.mem_toList.1 hk)).2
      exact ⟨cur, _, e, Or.inr rfl⟩
  have hT : ∀ k ∈ B1 :: v.ownBlock.toList, Ot W k := fun k hk => by
    obtain ⟨cur, t, e, rfl | rfl⟩ := hO k hk
    · exact Ot.of e (OtO.cells (by decide))
    · exact Ot.of e (OtO.cells (by decide))
  obtain ⟨st, h1, h2⟩ := h.wh
  obtain ⟨k, h3, h4⟩ := h.aa
  have hb1 := x.b1
  have hba := x.ba
  have hne := x.ne
  refine ⟨y1, y2, ⟨h.ks.bx y4 (fun p hp c => ?_), ⟨st, h1.frame y4 (fun q hq => ?_) hT, h2⟩, ⟨v', y2, y3⟩, ⟨k, h3, boxed_bx h4 y4 (fun c => ?_)⟩, Nat.le_trans h.sz y4.size⟩, Jm.bx y4 (fun q hq => ⟨?_, fun o ho => ?_⟩) (Nat.lt_of_lt_of_le x.lt.1 h.sz)⟩
  · have := x.c p hp
    rcases hL _ c with e | e <;> omega
  · rcases hL _ hq with e | e <;> omega
  · rcases hL _ c with e | e <;> omega
  · have := x.lt
    rcases hL _ hq with e | e <;> omega
  · obtain ⟨cur, t, e, _⟩ := hO q hq
    rw [e] at ho
    injection ho with ho
    subst ho
    rfl
theorem Im.step {s : World} {B : Nat} {C : List (Nat × Obj)} {M B1 Ba n2 bb : Nat} {pre : List Sn} {W W' : World} {st st' : Nat → St} (h : Im s B C M B1 Ba n2 pre W) (x : Cx s C M B1 Ba bb) (hW : Wh s W B [] st) (hx : Bx (gsB B st) W.heap.size W W') (hW' : Wh s W' B [] st') (hR' : Re st') :
    Im s B C M B1 Ba n2 pre W' ∧ Jm M bb W W' := by
  obtain ⟨k, h3, h4⟩ := h.aa
  refine ⟨⟨h.ks.step hW hx, ⟨st', hW', hR'⟩, h.ls.step hW hx, ⟨k, h3, boxed_bx h4 hx (hW.not_ok h4 (OkO.cells (by decide)))⟩, Nat.le_trans h.sz hx.size⟩, Jm.bx hx (fun q hq => ⟨fun e => ?_, hW.books q hq⟩) (Nat.lt_of_lt_of_le x.lt.1 h.sz)⟩
  subst e
  obtain ⟨o, ho⟩ := x.bb
  exact hW.not_ok (h.ks.has _ ho) (h.ks.ok _ ho) hq
theorem Im.at_ {s : World} {B : Nat} {C : List (Nat × Obj)} {M B1 Ba n2 bb : Nat} {pre : List Sn} {W : World} (h : Im s B C M B1 Ba n2 pre W) (x : Cx s C M B1 Ba bb) (k : Nat) (hk : k ≤ n2) :
    Im s B C M B1 Ba n2 pre (W.setCell ⟨Ba, 0, none⟩ (.int .i64 (k : Int))) ∧ Jm M bb W (W.setCell ⟨Ba, 0, none⟩ (.int .i64 (k : Int))) := by
  obtain ⟨k0, h3, h4⟩ := h.aa
  obtain ⟨st, h1, h2⟩ := h.wh
  have hx := bx_set W Ba 0 (.int .i64 (k : Int))
  have hT : ∀ q ∈ [Ba], Ot W q := fun q hq => by
    obtain rfl := List.mem_singleton.1 hq
    exact Ot.of h4 (OtO.cells (by decide))
  refine ⟨⟨h.ks.bx hx (fun p hp c => ?_), ⟨st, h1.frame hx (fun q hq => ?_) hT, h2⟩, h.ls.bx hx hT (fun q hq cur t f hc => ?_), ⟨k, hk, h4.set _⟩, Nat.le_trans h.sz hx.size⟩, Jm.bx hx (fun q hq => ⟨?_, fun o ho => ?_⟩) (Nat.lt_of_lt_of_le x.lt.1 h.sz)⟩
  · exact (x.c p hp).2.2 (List.mem_singleton.1 c)
  · obtain rfl := List.mem_singleton.1 hq
    exact x.ba.2
  · rw [List.mem_singleton.1 hq, show W.heap[Ba]? = _ from h4] at hc
    injection hc with hc
    injection hc with _ hc _
    subst hc
    decide
  · obtain rfl := List.mem_singleton.1 hq
    exact fun e => x.lt.2.2 e.symm
  · rw [List.mem_singleton.1 hq, show W.heap[Ba]? = _ from h4] at ho
    injection ho with ho
    subst ho
    rfl
end Go.Proofs.YtdhjoimiejdgbaaDoor.L
