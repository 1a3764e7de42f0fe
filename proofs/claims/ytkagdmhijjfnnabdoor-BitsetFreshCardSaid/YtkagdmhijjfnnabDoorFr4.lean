import Derived.Test.YtkagdmhijjfnnabDoorFr3
namespace Go.Proofs.YtkagdmhijjfnnabDoor
open Go.RowKit Bs
set_option linter.unusedVariables false
theorem SO.set {w : World} {p q n : Nat} {S : Nat → Bool} (h : SO w (.pointer (some ⟨p, 0, none⟩)) q n S) : SetAt w p q n S := by
  rcases h with ⟨e, _, _⟩ | ⟨p', e, h⟩
  · cases e
  · injection e with e; injection e with e; injection e with e
    rw [e]; exact h
theorem so_nil (w : World) : SO w (.pointer none) 0 0 (fun _ => false) := Or.inl ⟨rfl, rfl, fun _ => rfl⟩
theorem SO.pne {w : World} {v : Value} {p q n q' n' : Nat} {S T : Nat → Bool} (h : SetAt w p q n S) (h' : SO w v q' n' T) : v = .pointer none ∨ p ≠ q' := by
  rcases h' with ⟨e, _, _⟩ | ⟨p', e, h'⟩
  · exact Or.inl e
  · exact Or.inr (h.pne h')
theorem SetAt.keepX {w w' : World} {va vb : Value} {p q n qa na qb nb : Nat} {S A B : Nat → Bool} (h : SetAt w p q n S) (ha : SO w va qa na A) (hb : SO w vb qb nb B) (k : Cx va vb qa qb w w') (h1 : va = .pointer none ∨ q ≠ qa) (h2 : vb = .pointer none ∨ q ≠ qb) : SetAt w' p q n S := by
  have e1 := k.block p h.plt (SO.pne h ha) (SO.pne h hb)
  have e2 := k.block q h.qlt h1 h2
  obtain ⟨ws, x, hx⟩ := h
  exact ⟨ws, ⟨e1.trans x.hp, e2.trans x.hq, x.ne, x.hn, x.hl, x.wd, x.cl⟩, hx⟩
/-- What stays while the law goes on. -/
structure Fp where
  w0 : World
  n : Nat
  vA : Value
  vB : Value
  vC : Value
  pa : Nat
  qa : Nat
  pb : Nat
  qb : Nat
  po : Nat
  qo : Nat
  pz : Nat
  qz : Nat
  Sa : Nat → Bool
  Sb : Nat → Bool
  So : Nat → Bool
  Sz : Nat → Bool
structure Fl (x : Fp) (w : World) : Prop where
  tab : Tab w
  xa : XAll w x.w0.heap.size x.n x.vA x.vB x.vC
  a : SetAt w x.pa x.qa x.n x.Sa
  b : SetAt w x.pb x.qb x.n x.Sb
  o : SetAt w x.po x.qo x.n x.So
  z : SetAt w x.pz x.qz 0 x.Sz
  ga : x.w0.heap.size < x.qa
  gb : x.w0.heap.size < x.qb
  go : x.w0.heap.size < x.qo
  gz : x.w0.heap.size < x.qz
  ab : x.qa ≠ x.qb
  ao : x.qa ≠ x.qo
  az : x.qa ≠ x.qz
  bo : x.qb ≠ x.qo
  bz : x.qb ≠ x.qz
  oz : x.qo ≠ x.qz
  low : Below x.w0.heap.size x.w0 w
theorem Fl.next {x : Fp} {w w' : World} {va vb : Value} {u v : Nat} (h : Fl x w) (k : Cx va vb u v w w') (ht : Tab w') (hu : va = .pointer none ∨ x.w0.heap.size < u) (hv : vb = .pointer none ∨ x.w0.heap.size < v)
    (a : SetAt w' x.pa x.qa x.n x.Sa) (b : SetAt w' x.pb x.qb x.n x.Sb) (o : SetAt w' x.po x.qo x.n x.So) (z : SetAt w' x.pz x.qz 0 x.Sz) : Fl x w' := by
  have blk : ∀ j, j ≤ x.w0.heap.size → j < w.heap.size → w'.heap[j]? = w.heap[j]? := fun j hj hl => by
    refine k.block j hl ?_ ?_
    · rcases hu with e | e
      · exact Or.inl e
      · exact Or.inr (by omega)
    · rcases hv with e | e
      · exact Or.inl e
      · exact Or.inr (by omega)
  have cel : ∀ off, w'.cell? ⟨x.w0.heap.size, off, none⟩ = w.cell? ⟨x.w0.heap.size, off, none⟩ := fun off => World.cell?_of_block (w := w) (blk _ (Nat.le_refl _) h.xa.lt)
  have sz := h.low.size
  exact ⟨ht, ⟨(cel 0).trans h.xa.c0, (cel 1).trans h.xa.c1, (cel 2).trans h.xa.c2, (cel 3).trans h.xa.c3⟩, a, b, o, z, h.ga, h.gb, h.go, h.gz, h.ab, h.ao, h.az, h.bo, h.bz, h.oz,
    ⟨k.os.trans h.low.os, k.tape.trans h.low.tape, k.output.trans h.low.output, Nat.le_trans h.low.size k.size, fun j hj => (blk j (by omega) (by omega)).trans (h.low.block j hj)⟩⟩
theorem Fl.drewN {x : Fp} {w : World} (h : Fl x w) (m : Nat) : Fl x (w.drewN m) :=
  ⟨h.tab, ⟨h.xa.c0, h.xa.c1, h.xa.c2, h.xa.c3⟩, h.a.drewN m, h.b.drewN m, h.o.drewN m, h.z.drewN m, h.ga, h.gb, h.go, h.gz, h.ab, h.ao, h.az, h.bo, h.bz, h.oz, h.low.trans ((belowDrewN m).mono h.low.size)⟩
theorem all_four (w : World) (a b c d : Addr) : Calls Tryd.prog 32 #[.slice (some ⟨w.heap.size, 0, none⟩) 4 4] (w.alloc (.cells #[.pointer (some a), .pointer (some b), .pointer (some c), .pointer (some d)] 27)) fun e w' => e = .returned (.bool true) ∧ w' = w.alloc (.cells #[.pointer (some a), .pointer (some b), .pointer (some c), .pointer (some d)] 27) := by
  refine all_any w.heap.size 4 4 (fun j => match j with | 0 => a | 1 => b | 2 => c | _ => d) _ (by decide) ?_
  intro j hj
  match j, hj with
  | 0, _ => simp
  | 1, _ => simp
  | 2, _ => simp
  | 3, _ => simp
theorem fresh_ab {x : Fp} {w : World} (h : Fl x w) (kind : Nat) (hk : kind < 6) (i : Int) :
    Calls Tryd.prog 43 #[.int .i64 kind, .pointer (some ⟨x.pa, 0, none⟩), .pointer (some ⟨x.pb, 0, none⟩), .int .i64 i] w fun e w' => e = .returned (.bool true) ∧ Fl x w' := by
  refine (fresh_any (s := false) kind hk i w h.tab ⟨h.a.so, h.b.so, (fun e => by cases e), fun _ => Or.inr (Or.inr h.ab)⟩).mono ?_
  rintro e w' ⟨rfl, ht, pr, k⟩
  exact ⟨rfl, h.next k ht (Or.inr h.ga) (Or.inr h.gb) pr.a.set pr.b.set (h.o.keepX (h.a.so) (h.b.so) k (Or.inr h.ao.symm) (Or.inr h.bo.symm)) (h.z.keepX (h.a.so) (h.b.so) k (Or.inr h.az.symm) (Or.inr h.bz.symm))⟩
theorem fresh_aa {x : Fp} {w : World} (h : Fl x w) (kind : Nat) (hk : kind < 6) (i : Int) :
    Calls Tryd.prog 43 #[.int .i64 kind, .pointer (some ⟨x.pa, 0, none⟩), .pointer (some ⟨x.pa, 0, none⟩), .int .i64 i] w fun e w' => e = .returned (.bool true) ∧ Fl x w' := by
  refine (fresh_any (s := true) kind hk i w h.tab ⟨h.a.so, h.a.so, fun _ => ⟨rfl, rfl, rfl, rfl⟩, fun e => by cases e⟩).mono ?_
  rintro e w' ⟨rfl, ht, pr, k⟩
  exact ⟨rfl, h.next k ht (Or.inr h.ga) (Or.inr h.ga) pr.a.set (h.b.keepX (h.a.so) (h.a.so) k (Or.inr h.ab.symm) (Or.inr h.ab.symm)) (h.o.keepX (h.a.so) (h.a.so) k (Or.inr h.ao.symm) (Or.inr h.ao.symm)) (h.z.keepX (h.a.so) (h.a.so) k (Or.inr h.az.symm) (Or.inr h.az.symm))⟩
theorem fresh_ao {x : Fp} {w : World} (h : Fl x w) (kind : Nat) (hk : kind < 6) (i : Int) :
    Calls Tryd.prog 43 #[.int .i64 kind, .pointer (some ⟨x.pa, 0, none⟩), .pointer (some ⟨x.po, 0, none⟩), .int .i64 i] w fun e w' => e = .returned (.bool true) ∧ Fl x w' := by
  refine (fresh_any (s := false) kind hk i w h.tab ⟨h.a.so, h.o.so, (fun e => by cases e), fun _ => Or.inr (Or.inr h.ao)⟩).mono ?_
  rintro e w' ⟨rfl, ht, pr, k⟩
  exact ⟨rfl, h.next k ht (Or.inr h.ga) (Or.inr h.go) pr.a.set (h.b.keepX (h.a.so) (h.o.so) k (Or.inr h.ab.symm) (Or.inr h.bo)) pr.b.set (h.z.keepX (h.a.so) (h.o.so) k (Or.inr h.az.symm) (Or.inr h.oz.symm))⟩
theorem fresh_oa {x : Fp} {w : World} (h : Fl x w) (kind : Nat) (hk : kind < 6) (i : Int) :
    Calls Tryd.prog 43 #[.int .i64 kind, .pointer (some ⟨x.po, 0, none⟩), .pointer (some ⟨x.pa, 0, none⟩), .int .i64 i] w fun e w' => e = .returned (.bool true) ∧ Fl x w' := by
  refine (fresh_any (s := false) kind hk i w h.tab ⟨h.o.so, h.a.so, (fun e => by cases e), fun _ => Or.inr (Or.inr h.ao.symm)⟩).mono ?_
  rintro e w' ⟨rfl, ht, pr, k⟩
  exact ⟨rfl, h.next k ht (Or.inr h.go) (Or.inr h.ga) pr.b.set (h.b.keepX (h.o.so) (h.a.so) k (Or.inr h.bo) (Or.inr h.ab.symm)) pr.a.set (h.z.keepX (h.o.so) (h.a.so) k (Or.inr h.oz.symm) (Or.inr h.az.symm))⟩
theorem fresh_az {x : Fp} {w : World} (h : Fl x w) (kind : Nat) (hk : kind < 6) (i : Int) :
    Calls Tryd.prog 43 #[.int .i64 kind, .pointer (some ⟨x.pa, 0, none⟩), .pointer (some ⟨x.pz, 0, none⟩), .int .i64 i] w fun e w' => e = .returned (.bool true) ∧ Fl x w' := by
  refine (fresh_any (s := false) kind hk i w h.tab ⟨h.a.so, h.z.so, (fun e => by cases e), fun _ => Or.inr (Or.inr h.az)⟩).mono ?_
  rintro e w' ⟨rfl, ht, pr, k⟩
  exact ⟨rfl, h.next k ht (Or.inr h.ga) (Or.inr h.gz) pr.a.set (h.b.keepX (h.a.so) (h.z.so) k (Or.inr h.ab.symm) (Or.inr h.bz)) (h.o.keepX (h.a.so) (h.z.so) k (Or.inr h.ao.symm) (Or.inr h.oz)) pr.b.set⟩
theorem fresh_za {x : Fp} {w : World} (h : Fl x w) (kind : Nat) (hk : kind < 6) (i : Int) :
    Calls Tryd.prog 43 #[.int .i64 kind, .pointer (some ⟨x.pz, 0, none⟩), .pointer (some ⟨x.pa, 0, none⟩), .int .i64 i] w fun e w' => e = .returned (.bool true) ∧ Fl x w' := by
  refine (fresh_any (s := false) kind hk i w h.tab ⟨h.z.so, h.a.so, (fun e => by cases e), fun _ => Or.inr (Or.inr h.az.symm)⟩).mono ?_
  rintro e w' ⟨rfl, ht, pr, k⟩
  exact ⟨rfl, h.next k ht (Or.inr h.gz) (Or.inr h.ga) pr.b.set (h.b.keepX (h.z.so) (h.a.so) k (Or.inr h.bz) (Or.inr h.ab.symm)) (h.o.keepX (h.z.so) (h.a.so) k (Or.inr h.oz) (Or.inr h.ao.symm)) pr.a.set⟩
theorem fresh_an {x : Fp} {w : World} (h : Fl x w) (kind : Nat) (hk : kind < 6) (i : Int) :
    Calls Tryd.prog 43 #[.int .i64 kind, .pointer (some ⟨x.pa, 0, none⟩), .pointer none, .int .i64 i] w fun e w' => e = .returned (.bool true) ∧ Fl x w' := by
  refine (fresh_any (s := false) kind hk i w h.tab ⟨h.a.so, so_nil _, (fun e => by cases e), fun _ => Or.inr (Or.inl rfl)⟩).mono ?_
  rintro e w' ⟨rfl, ht, pr, k⟩
  exact ⟨rfl, h.next k ht (Or.inr h.ga) (Or.inl rfl) pr.a.set (h.b.keepX (h.a.so) (so_nil _) k (Or.inr h.ab.symm) (Or.inl rfl)) (h.o.keepX (h.a.so) (so_nil _) k (Or.inr h.ao.symm) (Or.inl rfl)) (h.z.keepX (h.a.so) (so_nil _) k (Or.inr h.az.symm) (Or.inl rfl))⟩
theorem fresh_nb {x : Fp} {w : World} (h : Fl x w) (kind : Nat) (hk : kind < 6) (i : Int) :
    Calls Tryd.prog 43 #[.int .i64 kind, .pointer none, .pointer (some ⟨x.pb, 0, none⟩), .int .i64 i] w fun e w' => e = .returned (.bool true) ∧ Fl x w' := by
  refine (fresh_any (s := false) kind hk i w h.tab ⟨so_nil _, h.b.so, (fun e => by cases e), fun _ => Or.inl rfl⟩).mono ?_
  rintro e w' ⟨rfl, ht, pr, k⟩
  exact ⟨rfl, h.next k ht (Or.inl rfl) (Or.inr h.gb) (h.a.keepX (so_nil _) (h.b.so) k (Or.inl rfl) (Or.inr h.ab)) pr.b.set (h.o.keepX (so_nil _) (h.b.so) k (Or.inl rfl) (Or.inr h.bo.symm)) (h.z.keepX (so_nil _) (h.b.so) k (Or.inl rfl) (Or.inr h.bz.symm))⟩
end Go.Proofs.YtkagdmhijjfnnabDoor
