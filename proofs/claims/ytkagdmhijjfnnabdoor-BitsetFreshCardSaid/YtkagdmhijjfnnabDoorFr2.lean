import Derived.Test.YtkagdmhijjfnnabDoorFr1
namespace Go.Proofs.YtkagdmhijjfnnabDoor
open Go.RowKit Bs
set_option linter.unusedVariables false
/-- Nothing has turned but the row q of the set v, if v is one. -/
structure Cg (v : Value) (q : Nat) (w w' : World) : Prop where
  os : w'.os = w.os
  tape : w'.tape = w.tape
  output : w'.output = w.output
  size : w.heap.size ≤ w'.heap.size
  block : ∀ k, k < w.heap.size → (v = .pointer none ∨ k ≠ q) → w'.heap[k]? = w.heap[k]?
theorem Cg.low {q : Nat} {w w' : World} (h : Cg (.pointer none) q w w') : Below w.heap.size w w' := ⟨h.os, h.tape, h.output, h.size, fun k hk => h.block k hk (Or.inl rfl)⟩
theorem Cg.chg {p q : Nat} {w w' : World} (h : Cg (.pointer (some ⟨p, 0, none⟩)) q w w') : Chg q w w' := ⟨h.os, h.tape, h.output, h.size, fun k hk hn => h.block k hk (Or.inr hn)⟩
theorem Cg.of {v : Value} {q : Nat} {w w' : World} (h : Chg q w w') (hv : v ≠ .pointer none) : Cg v q w w' := ⟨h.os, h.tape, h.output, h.size, fun k hk hn => by
  rcases hn with e | e
  · exact absurd e hv
  · exact h.block k hk e⟩
theorem Cg.ofB {v : Value} {q : Nat} {w w' : World} (h : Below w.heap.size w w') : Cg v q w w' := ⟨h.os, h.tape, h.output, h.size, fun k hk _ => h.block k hk⟩
theorem turn_g {v : Value} {q n : Nat} {S : Nat → Bool} (i : Int) (w : World) (h : SO w v q n S) (ht : Tab w) :
    Calls Tryd.prog 63 #[v, .int .i64 i] w fun e w' => e = .returned (.tuple #[]) ∧ SO w' v q n (tog n S i) ∧ Tab w' ∧ Cg v q w w' := by
  rcases h with ⟨rfl, rfl, hS⟩ | ⟨p, rfl, h⟩
  · refine (turn_nil i w).mono ?_
    rintro e w' ⟨rfl, hb⟩
    exact ⟨rfl, Or.inl ⟨rfl, rfl, fun j => by simp [tog, hS]⟩, ht.low hb ht.pos, Cg.ofB hb⟩
  · refine (turn_set i w h).mono ?_
    rintro e w' ⟨rfl, hs, hg⟩
    exact ⟨rfl, hs.so, ht.chg hg (ht.ne h), Cg.of hg (by simp)⟩
theorem SetAt.keepG {w w' : World} {v : Value} {p q' n q m : Nat} {S T : Nat → Bool} (h : SetAt w p q' n S) (hv : SO w v q m T) (k : Cg v q w w') (hne : v = .pointer none ∨ q' ≠ q) : SetAt w' p q' n S := by
  rcases hv with ⟨rfl, _, _⟩ | ⟨p0, rfl, h0⟩
  · exact h.low k.low
  · rcases hne with e | e
    · cases e
    · exact h.keep k.chg (h.pne h0) e
theorem SO.keepG {w w' : World} {v v' : Value} {q' n q m : Nat} {S T : Nat → Bool} (h : SO w v' q' n S) (hv : SO w v q m T) (k : Cg v q w w') (hne : v = .pointer none ∨ v' = .pointer none ∨ q' ≠ q) : SO w' v' q' n S := by
  rcases h with h | ⟨p, e, h⟩
  · exact Or.inl h
  · refine Or.inr ⟨p, e, h.keepG hv k ?_⟩
    rcases hne with c | c | c
    · exact Or.inl c
    · rw [e] at c; cases c
    · exact Or.inr c
theorem Hl.keepG {w w' : World} {v r : Value} {lo q m : Nat} {T : Nat → Bool} {zs : List Int} (h : Hl w lo r zs) (hv : SO w v q m T) (k : Cg v q w w') (hne : v = .pointer none ∨ q < lo) : Hl w' lo r zs := by
  rcases hv with ⟨rfl, _, _⟩ | ⟨p0, rfl, h0⟩
  · exact h.low k.low
  · rcases hne with e | e
    · cases e
    · exact h.keep k.chg e
/-- Two sets, or none, or one twice. -/
structure Pr (w : World) (va : Value) (qa na : Nat) (vb : Value) (qb nb : Nat) (s : Bool) (A B : Nat → Bool) : Prop where
  a : SO w va qa na A
  b : SO w vb qb nb B
  same : s = true → va = vb ∧ qa = qb ∧ na = nb ∧ A = B
  ap : s = false → va = .pointer none ∨ vb = .pointer none ∨ qa ≠ qb
theorem Pr.low {w w' : World} {va : Value} {qa na : Nat} {vb : Value} {qb nb : Nat} {s : Bool} {A B : Nat → Bool} (h : Pr w va qa na vb qb nb s A B) (k : Below w.heap.size w w') : Pr w' va qa na vb qb nb s A B :=
  ⟨h.a.low k, h.b.low k, h.same, h.ap⟩
theorem Pr.swap {w : World} {va : Value} {qa na : Nat} {vb : Value} {qb nb : Nat} {s : Bool} {A B : Nat → Bool} (h : Pr w va qa na vb qb nb s A B) : Pr w vb qb nb va qa na s B A :=
  ⟨h.b, h.a, fun e => by obtain ⟨a, b, c, d⟩ := h.same e; exact ⟨a.symm, b.symm, c.symm, d.symm⟩, fun e => by rcases h.ap e with a | a | a; exact Or.inr (Or.inl a); exact Or.inl a; exact Or.inr (Or.inr (Ne.symm a))⟩
theorem Pr.other {w w' : World} {va : Value} {qa na : Nat} {vb : Value} {qb nb : Nat} {s : Bool} {A B T : Nat → Bool} {v : Value} {q m : Nat} (h : Pr w va qa na vb qb nb s A B) (hv : SO w v q m T) (k : Cg v q w w')
    (ha : v = .pointer none ∨ va = .pointer none ∨ qa ≠ q) (hb : v = .pointer none ∨ vb = .pointer none ∨ qb ≠ q) : Pr w' va qa na vb qb nb s A B :=
  ⟨h.a.keepG hv k ha, h.b.keepG hv k hb, h.same, h.ap⟩
/-- The first of the two is turned. -/
theorem Pr.turnA {w w' : World} {va : Value} {qa na : Nat} {vb : Value} {qb nb : Nat} {s : Bool} {A B T : Nat → Bool} (h : Pr w va qa na vb qb nb s A B) (hT : SO w' va qa na T) (k : Cg va qa w w') : Pr w' va qa na vb qb nb s T (bif s then T else B) := by
  refine ⟨hT, ?_, ?_, h.ap⟩
  · cases s
    · refine h.b.keepG h.a k ?_
      rcases h.ap rfl with e | e | e
      · exact Or.inl e
      · exact Or.inr (Or.inl e)
      · exact Or.inr (Or.inr (Ne.symm e))
    · obtain ⟨rfl, rfl, rfl, rfl⟩ := h.same rfl
      exact hT
  · rintro rfl
    obtain ⟨rfl, rfl, rfl, rfl⟩ := h.same rfl
    exact ⟨rfl, rfl, rfl, rfl⟩
/-- What stays while fresh goes on. -/
structure Fk where
  w0 : World
  va : Value
  vb : Value
  qa : Nat
  na : Nat
  qb : Nat
  nb : Nat
  s : Bool
  pc : Nat
  qc : Nat
  pd : Nat
  qd : Nat
  N : Nat
  lo : Nat
  wA : Value
  wB : Value
  wC : Value
  lA : List Int
  lB : List Int
  lC : List Int
structure Fs (x : Fk) (w : World) (A B C D : Nat → Bool) : Prop where
  tab : Tab w
  pr : Pr w x.va x.qa x.na x.vb x.qb x.nb x.s A B
  c : SetAt w x.pc x.qc x.N C
  d : SetAt w x.pd x.qd x.N D
  fa : x.va = .pointer none ∨ x.qa < x.w0.heap.size
  fb : x.vb = .pointer none ∨ x.qb < x.w0.heap.size
  gc : x.w0.heap.size ≤ x.qc
  gd : x.w0.heap.size ≤ x.qd
  cd : x.qc ≠ x.qd
  lc : x.qc < x.lo
  ld : x.qd < x.lo
  hA : Hl w x.lo x.wA x.lA
  hB : Hl w x.lo x.wB x.lB
  hC : Hl w x.lo x.wC x.lC
  os : w.os = x.w0.os
  tape : w.tape = x.w0.tape
  output : w.output = x.w0.output
  size : x.w0.heap.size ≤ w.heap.size
  block : ∀ k, k < x.w0.heap.size → (x.va = .pointer none ∨ k ≠ x.qa) → (x.vb = .pointer none ∨ k ≠ x.qb) → w.heap[k]? = x.w0.heap[k]?
theorem Fs.low {x : Fk} {w w' : World} {A B C D : Nat → Bool} (h : Fs x w A B C D) (k : Below w.heap.size w w') : Fs x w' A B C D :=
  ⟨h.tab.low k h.tab.pos, h.pr.low k, h.c.low k, h.d.low k, h.fa, h.fb, h.gc, h.gd, h.cd, h.lc, h.ld, h.hA.low k, h.hB.low k, h.hC.low k, k.os.trans h.os, k.tape.trans h.tape, k.output.trans h.output, Nat.le_trans h.size k.size,
    fun j hj ha hb => (k.block j (Nat.lt_of_lt_of_le hj h.size)).trans (h.block j hj ha hb)⟩
theorem Fs.turnC {x : Fk} {w w' : World} {A B C D T : Nat → Bool} (h : Fs x w A B C D) (ht : Tab w') (hT : SetAt w' x.pc x.qc x.N T) (k : Chg x.qc w w') : Fs x w' A B T D := by
  have g := Cg.of (v := .pointer (some ⟨x.pc, 0, none⟩)) k (by simp)
  have hs := h.c.so
  have gc := h.gc
  refine ⟨ht, h.pr.other hs g ?_ ?_, hT, h.d.keepG hs g (Or.inr (Ne.symm h.cd)), h.fa, h.fb, h.gc, h.gd, h.cd, h.lc, h.ld, h.hA.keepG hs g (Or.inr h.lc), h.hB.keepG hs g (Or.inr h.lc), h.hC.keepG hs g (Or.inr h.lc), k.os.trans h.os, k.tape.trans h.tape, k.output.trans h.output, Nat.le_trans h.size k.size,
    fun j hj ha hb => (k.block j (Nat.lt_of_lt_of_le hj h.size) (by omega)).trans (h.block j hj ha hb)⟩
  · rcases h.fa with e | e
    · exact Or.inr (Or.inl e)
    · exact Or.inr (Or.inr (by omega))
  · rcases h.fb with e | e
    · exact Or.inr (Or.inl e)
    · exact Or.inr (Or.inr (by omega))
theorem Fs.turnD {x : Fk} {w w' : World} {A B C D T : Nat → Bool} (h : Fs x w A B C D) (ht : Tab w') (hT : SetAt w' x.pd x.qd x.N T) (k : Chg x.qd w w') : Fs x w' A B C T := by
  have g := Cg.of (v := .pointer (some ⟨x.pd, 0, none⟩)) k (by simp)
  have hs := h.d.so
  have gd := h.gd
  refine ⟨ht, h.pr.other hs g ?_ ?_, h.c.keepG hs g (Or.inr h.cd), hT, h.fa, h.fb, h.gc, h.gd, h.cd, h.lc, h.ld, h.hA.keepG hs g (Or.inr h.ld), h.hB.keepG hs g (Or.inr h.ld), h.hC.keepG hs g (Or.inr h.ld), k.os.trans h.os, k.tape.trans h.tape, k.output.trans h.output, Nat.le_trans h.size k.size,
    fun j hj ha hb => (k.block j (Nat.lt_of_lt_of_le hj h.size) (by omega)).trans (h.block j hj ha hb)⟩
  · rcases h.fa with e | e
    · exact Or.inr (Or.inl e)
    · exact Or.inr (Or.inr (by omega))
  · rcases h.fb with e | e
    · exact Or.inr (Or.inl e)
    · exact Or.inr (Or.inr (by omega))
theorem Fs.turnA {x : Fk} {w w' : World} {A B C D T : Nat → Bool} (h : Fs x w A B C D) (ht : Tab w') (hT : SO w' x.va x.qa x.na T) (k : Cg x.va x.qa w w') : Fs x w' T (bif x.s then T else B) C D := by
  have hs := h.pr.a
  have gc := h.gc
  have gd := h.gd
  have lc := h.lc
  have ne : ∀ z, x.w0.heap.size ≤ z → x.va = .pointer none ∨ z ≠ x.qa := fun z hz => by
    rcases h.fa with e | e
    · exact Or.inl e
    · exact Or.inr (by omega)
  have nl : x.va = .pointer none ∨ x.qa < x.lo := by
    rcases h.fa with e | e
    · exact Or.inl e
    · exact Or.inr (by omega)
  exact ⟨ht, h.pr.turnA hT k, h.c.keepG hs k (ne _ gc), h.d.keepG hs k (ne _ gd), h.fa, h.fb, h.gc, h.gd, h.cd, h.lc, h.ld, h.hA.keepG hs k nl, h.hB.keepG hs k nl, h.hC.keepG hs k nl, k.os.trans h.os, k.tape.trans h.tape, k.output.trans h.output, Nat.le_trans h.size k.size,
    fun j hj ha hb => (k.block j (Nat.lt_of_lt_of_le hj h.size) ha).trans (h.block j hj ha hb)⟩
theorem Fs.turnB {x : Fk} {w w' : World} {A B C D T : Nat → Bool} (h : Fs x w A B C D) (ht : Tab w') (hT : SO w' x.vb x.qb x.nb T) (k : Cg x.vb x.qb w w') : Fs x w' (bif x.s then T else A) T C D := by
  have hs := h.pr.b
  have gc := h.gc
  have gd := h.gd
  have lc := h.lc
  have ne : ∀ z, x.w0.heap.size ≤ z → x.vb = .pointer none ∨ z ≠ x.qb := fun z hz => by
    rcases h.fb with e | e
    · exact Or.inl e
    · exact Or.inr (by omega)
  have nl : x.vb = .pointer none ∨ x.qb < x.lo := by
    rcases h.fb with e | e
    · exact Or.inl e
    · exact Or.inr (by omega)
  exact ⟨ht, (h.pr.swap.turnA hT k).swap, h.c.keepG hs k (ne _ gc), h.d.keepG hs k (ne _ gd), h.fa, h.fb, h.gc, h.gd, h.cd, h.lc, h.ld, h.hA.keepG hs k nl, h.hB.keepG hs k nl, h.hC.keepG hs k nl, k.os.trans h.os, k.tape.trans h.tape, k.output.trans h.output, Nat.le_trans h.size k.size,
    fun j hj ha hb => (k.block j (Nat.lt_of_lt_of_le hj h.size) hb).trans (h.block j hj ha hb)⟩
/-- Turned twice, the two are what they were. -/
theorem bif_back {s : Bool} {A B T : Nat → Bool} (h : s = true → A = B) : (bif s then A else (bif s then T else B)) = B := by
  cases s
  · rfl
  · exact h rfl
end Go.Proofs.YtkagdmhijjfnnabDoor
