import Derived.Test.YtkagdmhijjfnnabDoorGrow
namespace Go.Proofs.YtkagdmhijjfnnabDoor
open Go.RowKit Bs
/-- A new set: its blocks did not lie in w; nothing of w has turned. -/
structure Fresh (w w' : World) (p q n : Nat) (S : Nat → Bool) : Prop where
  hp : w.heap.size ≤ p
  hq : w.heap.size ≤ q
  at' : SetAt w' p q n S
  low : Below w.heap.size w w'
theorem sized_yes (n : Int) (w : World) (h0 : 0 ≤ n) (h1 : n ≤ 65536) : Calls Tryd.prog 7 #[.int .i64 n] w fun e w' => e = .returned (.bool true) ∧ w' = w := by
  refine (sized_any n w).mono ?_
  rintro e w' ⟨rfl, rfl⟩
  exact ⟨by simp [h0, h1], rfl⟩
theorem sized_no (n : Int) (w : World) (h : ¬ (0 ≤ n ∧ n ≤ 65536)) : Calls Tryd.prog 7 #[.int .i64 n] w fun e w' => e = .returned (.bool false) ∧ w' = w := by
  refine (sized_any n w).mono ?_
  rintro e w' ⟨rfl, rfl⟩
  exact ⟨by rw [decide_eq_false h], rfl⟩
/-- The places of a list that lie in the universe. -/
def sOf (n : Nat) (zs : List Int) (i : Nat) : Bool := decide ((i : Int) ∈ inU n zs zs.length)
theorem of_new (n : Nat) (v : Value) (zs : List Int) (w : World) (hn : n ≤ 65536) (hreach : zs.length * 8 ≤ 140737488351232) (h : Ints w v zs) :
    Calls Tryd.prog 8 #[.int .i64 n, v] w fun e w' => ∃ p q, e = .returned (.pointer (some ⟨p, 0, none⟩)) ∧ Fresh w w' p q n (sOf n zs) := by
  refine (of_any n v zs w hn hreach h).mono ?_
  rintro e w' ⟨p, q, rfl, a, b, c, d⟩
  exact ⟨p, q, rfl, a, b, c, d⟩
theorem new_new (n : Nat) (w : World) (hn : n ≤ 65536) : Calls Tryd.prog 56 #[.int .i64 n] w fun e w' => ∃ p q, e = .returned (.tuple #[.pointer (some ⟨p, 0, none⟩), .int .i64 0]) ∧ Fresh w w' p q n (fun _ => false) := by
  refine (new_ok n w hn).mono ?_
  rintro e w' ⟨rfl, a, b⟩
  exact ⟨_, _, rfl, by omega, Nat.le_refl _, ⟨_, a, fun i => mem_zero _ _⟩, b⟩
theorem clone_new {p q n : Nat} {S : Nat → Bool} (w : World) (h : SetAt w p q n S) :
    Calls Tryd.prog 26 #[.pointer (some ⟨p, 0, none⟩)] w fun e w' => ∃ p q, e = .returned (.pointer (some ⟨p, 0, none⟩)) ∧ Fresh w w' p q n S := by
  refine (clone_set w h).mono ?_
  rintro e w' ⟨rfl, a, b⟩
  exact ⟨_, _, rfl, by omega, Nat.le_refl _, a, b⟩
theorem and_new {p q n p' q' n' : Nat} {S T : Nat → Bool} (w : World) (h : SetAt w p q n S) (h' : SetAt w p' q' n' T) :
    Calls Tryd.prog 27 #[.pointer (some ⟨p, 0, none⟩), .pointer (some ⟨p', 0, none⟩)] w fun e w' => ∃ p q, e = .returned (.pointer (some ⟨p, 0, none⟩)) ∧ Fresh w w' p q (max n n') (fun i => S i && T i) := by
  refine (and_any w h h').mono ?_
  rintro e w' ⟨rfl, a, b⟩
  exact ⟨_, _, rfl, by omega, Nat.le_refl _, a, b⟩
theorem or_new {p q n p' q' n' : Nat} {S T : Nat → Bool} (w : World) (h : SetAt w p q n S) (h' : SetAt w p' q' n' T) :
    Calls Tryd.prog 28 #[.pointer (some ⟨p, 0, none⟩), .pointer (some ⟨p', 0, none⟩)] w fun e w' => ∃ p q, e = .returned (.pointer (some ⟨p, 0, none⟩)) ∧ Fresh w w' p q (max n n') (fun i => S i || T i) := by
  refine (or_any w h h').mono ?_
  rintro e w' ⟨rfl, a, b⟩
  exact ⟨_, _, rfl, by omega, Nat.le_refl _, a, b⟩
theorem andnot_new {p q n p' q' n' : Nat} {S T : Nat → Bool} (w : World) (h : SetAt w p q n S) (h' : SetAt w p' q' n' T) :
    Calls Tryd.prog 29 #[.pointer (some ⟨p, 0, none⟩), .pointer (some ⟨p', 0, none⟩)] w fun e w' => ∃ p q, e = .returned (.pointer (some ⟨p, 0, none⟩)) ∧ Fresh w w' p q (max n n') (fun i => S i && !T i) := by
  refine (andnot_any w h h').mono ?_
  rintro e w' ⟨rfl, a, b⟩
  exact ⟨_, _, rfl, by omega, Nat.le_refl _, a, b⟩
/-- The three cells of x that are read. -/
structure XAt (w : World) (X : Nat) (n : Int) (vA vB : Value) : Prop where
  c0 : w.cell? ⟨X, 0, none⟩ = some (.int .i64 n)
  c1 : w.cell? ⟨X, 1, none⟩ = some vA
  c2 : w.cell? ⟨X, 2, none⟩ = some vB
theorem XAt.lt {w : World} {X : Nat} {n : Int} {vA vB : Value} (h : XAt w X n vA vB) : X < w.heap.size := block_lt_of_cell h.c0
theorem XAt.low {w w' : World} {X : Nat} {n : Int} {vA vB : Value} (h : XAt w X n vA vB) (k : Below w.heap.size w w') : XAt w' X n vA vB :=
  ⟨(k.cell (p := ⟨X, 0, none⟩) h.lt).trans h.c0, (k.cell (p := ⟨X, 1, none⟩) h.lt).trans h.c1, (k.cell (p := ⟨X, 2, none⟩) h.lt).trans h.c2⟩
theorem XAt.keep {w w' : World} {X a : Nat} {n : Int} {vA vB : Value} (h : XAt w X n vA vB) (k : Chg a w w') (ha : X ≠ a) : XAt w' X n vA vB :=
  ⟨(k.cell (p := ⟨X, 0, none⟩) ha h.lt).trans h.c0, (k.cell (p := ⟨X, 1, none⟩) ha h.lt).trans h.c1, (k.cell (p := ⟨X, 2, none⟩) ha h.lt).trans h.c2⟩
theorem XAt.drew {w : World} {X : Nat} {n : Int} {vA vB : Value} (h : XAt w X n vA vB) : XAt w.drew X n vA vB := ⟨h.c0, h.c1, h.c2⟩
theorem XAt.drewN {w : World} {X : Nat} {n : Int} {vA vB : Value} (h : XAt w X n vA vB) (m : Nat) : XAt (w.drewN m) X n vA vB := ⟨h.c0, h.c1, h.c2⟩
theorem SetAt.drew {w : World} {p q n : Nat} {S : Nat → Bool} (h : SetAt w p q n S) : SetAt w.drew p q n S := h.low (Below.refl _ _).drew
theorem SetAt.drewN {w : World} {p q n : Nat} {S : Nat → Bool} (h : SetAt w p q n S) (m : Nat) : SetAt (w.drewN m) p q n S := h.low (belowDrewN m)
end Go.Proofs.YtkagdmhijjfnnabDoor
