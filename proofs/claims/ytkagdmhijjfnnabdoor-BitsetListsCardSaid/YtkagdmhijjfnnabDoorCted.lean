import Derived.Test.YtkagdmhijjfnnabDoorOnes
namespace Go.Proofs.YtkagdmhijjfnnabDoor
open Go.RowKit Bs
theorem lowAlloc (w : World) (o : Obj) : Below w.heap.size w (w.alloc o) := (Below.refl _ _).alloc (Nat.le_refl _) _
/-- x as it is boxed: all four cells. -/
structure XAll (w : World) (X : Nat) (n : Int) (vA vB vC : Value) : Prop where
  c0 : w.cell? ⟨X, 0, none⟩ = some (.int .i64 n)
  c1 : w.cell? ⟨X, 1, none⟩ = some vA
  c2 : w.cell? ⟨X, 2, none⟩ = some vB
  c3 : w.cell? ⟨X, 3, none⟩ = some vC
theorem XAll.lt {w : World} {X : Nat} {n : Int} {vA vB vC : Value} (h : XAll w X n vA vB vC) : X < w.heap.size := block_lt_of_cell h.c0
theorem XAll.low {w w' : World} {X : Nat} {n : Int} {vA vB vC : Value} (h : XAll w X n vA vB vC) (k : Below w.heap.size w w') : XAll w' X n vA vB vC :=
  ⟨(k.cell (p := ⟨X, 0, none⟩) h.lt).trans h.c0, (k.cell (p := ⟨X, 1, none⟩) h.lt).trans h.c1, (k.cell (p := ⟨X, 2, none⟩) h.lt).trans h.c2, (k.cell (p := ⟨X, 3, none⟩) h.lt).trans h.c3⟩
theorem XAll.drew {w : World} {X : Nat} {n : Int} {vA vB vC : Value} (h : XAll w X n vA vB vC) : XAll w.drew X n vA vB vC := ⟨h.c0, h.c1, h.c2, h.c3⟩
/-- The beginning of a law over x: x is laid, awake is asked. -/
theorem begin_all (N : Int) (vA vB vC : Value) (w : World) (ht : Tab w) : Calls Tryd.prog 6 #[] (w.alloc (.cells #[.int .i64 N, vA, vB, vC] 24)) fun e w' => e = .returned (.bool true) ∧ XAll w' w.heap.size N vA vB vC ∧ Below w.heap.size w w' ∧ w.heap.size + 1 ≤ w'.heap.size := by
  have hb := lowAlloc w (.cells #[.int .i64 N, vA, vB, vC] 24)
  refine (awake_any _ (ht.low hb ht.pos)).mono ?_
  rintro e w' ⟨rfl, h⟩
  have hx : XAll (w.alloc (.cells #[.int .i64 N, vA, vB, vC] 24)) w.heap.size N vA vB vC := ⟨by simp, by simp, by simp, by simp⟩
  exact ⟨rfl, hx.low h, belowT hb h, by have := h.size; simpa using this⟩
/-- The same memory and streams: draws alone lie between. -/
structure Like (w w' : World) : Prop where
  heap : w'.heap = w.heap
  os : w'.os = w.os
  tape : w'.tape = w.tape
  output : w'.output = w.output
theorem Like.refl (w : World) : Like w w := ⟨rfl, rfl, rfl, rfl⟩
theorem Like.drewN {w w' : World} (h : Like w w') (m : Nat) : Like w (w'.drewN m) := ⟨h.heap, h.os, h.tape, h.output⟩
theorem Like.drew {w w' : World} (h : Like w w') : Like w w'.drew := ⟨h.heap, h.os, h.tape, h.output⟩
theorem Like.low {w w' : World} (h : Like w w') : Below w.heap.size w w' := ⟨h.os, h.tape, h.output, by rw [h.heap]; exact Nat.le_refl _, fun _ _ => by rw [h.heap]⟩
theorem Like.cell {w w' : World} (h : Like w w') (a : Addr) : w'.cell? a = w.cell? a := World.cell?_of_block (w := w) (by rw [h.heap])
theorem has_set {p q n : Nat} {S : Nat → Bool} (k : Nat) (w : World) (h : SetAt w p q n S) (hk : k < n) :
    Calls Tryd.prog 9 #[.pointer (some ⟨p, 0, none⟩), .int .i64 k] w fun e w' => e = .returned (.bool (S k)) ∧ ∃ m, w' = w.drewN m := by
  obtain ⟨ws, x, hx⟩ := h
  refine (has_yes p q n k ws w x hk).mono ?_
  rintro e w' ⟨rfl, hw⟩
  exact ⟨by rw [hx], hw⟩
theorem has_true {p q n : Nat} {S : Nat → Bool} (k : Nat) (w : World) (h : SetAt w p q n S) (hk : k < n) (ht : S k = true) :
    Calls Tryd.prog 9 #[.pointer (some ⟨p, 0, none⟩), .int .i64 k] w fun e w' => e = .returned (.bool true) ∧ ∃ m, w' = w.drewN m := by
  have := has_set k w h hk
  rwa [ht] at this
end Go.Proofs.YtkagdmhijjfnnabDoor
