import Derived.Test.YtkagdmhijjfnnabDoorPlain
import Derived.WalkKit
import Derived.WalkSpells
import Derived.Laws.Rows
import Derived.WalkLawsBesides
namespace Go.Proofs.YtkagdmhijjfnnabDoor
open Go.RowKit Bs

/-- A row of words. -/
def row (ws : List Nat) : Array Value := (ws.map fun x : Nat => Value.int .u64 (x : Int)).toArray
theorem row_get (ws : List Nat) (i : Nat) (h : i < ws.length) : (row ws)[i]? = some (.int .u64 ((ws.getD i 0 : Nat) : Int)) := by
  simp [row, List.getD_eq_getElem?_getD, List.getElem?_eq_getElem h]
theorem row_size (ws : List Nat) : (row ws).size = ws.length := by simp [row]
theorem row_set (ws : List Nat) (i x : Nat) : (row ws).setIfInBounds i (.int .u64 (x : Int)) = row (ws.set i x) := by
  simp only [row, List.setIfInBounds_toArray]
  congr 1
  rw [List.map_set]
theorem row_zero (k : Nat) : row (List.replicate k 0) = Array.replicate k (.int .u64 0) := by simp [row]

/-- All streams are as they were; of what lay in w nothing has turned but block a. -/
structure Chg (a : Nat) (w w' : World) : Prop where
  os : w'.os = w.os
  tape : w'.tape = w.tape
  output : w'.output = w.output
  size : w.heap.size ≤ w'.heap.size
  block : ∀ k, k < w.heap.size → k ≠ a → w'.heap[k]? = w.heap[k]?

theorem Chg.of {a : Nat} {w w' : World} (h : Below w.heap.size w w') : Chg a w w' := ⟨h.os, h.tape, h.output, h.size, fun k hk _ => h.block k hk⟩
theorem Chg.refl (a : Nat) (w : World) : Chg a w w := ⟨rfl, rfl, rfl, Nat.le_refl _, fun _ _ _ => rfl⟩
theorem Chg.trans {a : Nat} {x y z : World} (h : Chg a x y) (k : Chg a y z) : Chg a x z :=
  ⟨k.os.trans h.os, k.tape.trans h.tape, k.output.trans h.output, Nat.le_trans h.size k.size, fun i hi ha => (k.block i (Nat.lt_of_lt_of_le hi h.size) ha).trans (h.block i hi ha)⟩
theorem Chg.drew {a : Nat} {w : World} : Chg a w w.drew := ⟨rfl, rfl, rfl, Nat.le_refl _, fun _ _ _ => rfl⟩
theorem Chg.setCell {a : Nat} {w : World} (o : Nat) (v : Value) : Chg a w (w.setCell ⟨a, o, none⟩ v) :=
  ⟨rfl, rfl, rfl, by simp, fun k _ hk => Below.heap_setCell _ _ _ _ hk⟩
/-- A change of a block that did not lie in the first world is none of it. -/
theorem Chg.below {a B : Nat} {w w1 w2 : World} (h : Below B w w1) (k : Chg a w1 w2) (hB : B ≤ a) (hs : B ≤ w1.heap.size) : Below B w w2 :=
  ⟨k.os.trans h.os, k.tape.trans h.tape, k.output.trans h.output, Nat.le_trans h.size k.size, fun i hi => (k.block i (by omega) (by omega)).trans (h.block i hi)⟩
theorem belowT {w w1 w2 : World} (h : Below w.heap.size w w1) (k : Below w1.heap.size w1 w2) : Below w.heap.size w w2 := h.trans (k.mono h.size)
theorem belowDrewN {w : World} (n : Nat) : Below w.heap.size w (w.drewN n) := ⟨rfl, rfl, rfl, Nat.le_refl _, fun _ _ => rfl⟩

/-- BLOCK p IS A SET: a struct of a size and a slice over block q, whose row is ws. -/
structure IsSet (w : World) (p q n : Nat) (ws : List Nat) : Prop where
  hp : w.heap[p]? = some (.cells #[.int .i64 (n : Int), .slice (some ⟨q, 0, none⟩) ws.length ws.length] 58 (0, 0))
  hq : w.heap[q]? = some (.cells (row ws) 56 (0, 0))
  ne : p ≠ q
  hn : n ≤ 65536
  hl : ws.length = nw n
  wd : Wd ws
  cl : Tidy n ws

theorem lt_of_block {w : World} {k : Nat} {o : Obj} (h : w.heap[k]? = some o) : k < w.heap.size := by
  apply Classical.byContradiction; intro c
  rw [Array.getElem?_eq_none (by omega)] at h; cases h
theorem IsSet.plt {w : World} {p q n : Nat} {ws : List Nat} (h : IsSet w p q n ws) : p < w.heap.size := lt_of_block h.hp
theorem IsSet.qlt {w : World} {p q n : Nat} {ws : List Nat} (h : IsSet w p q n ws) : q < w.heap.size := lt_of_block h.hq
theorem IsSet.c0 {w : World} {p q n : Nat} {ws : List Nat} (h : IsSet w p q n ws) : w.cell? ⟨p, 0, none⟩ = some (.int .i64 n) := by rw [cell_of_row w p 0 _ _ _ h.hp]; rfl
theorem IsSet.c1 {w : World} {p q n : Nat} {ws : List Nat} (h : IsSet w p q n ws) : w.cell? ⟨p, 1, none⟩ = some (.slice (some ⟨q, 0, none⟩) ws.length ws.length) := by rw [cell_of_row w p 1 _ _ _ h.hp]; rfl
theorem IsSet.cw {w : World} {p q n : Nat} {ws : List Nat} (h : IsSet w p q n ws) (i : Nat) (hi : i < ws.length) : w.cell? ⟨q, i, none⟩ = some (.int .u64 ((ws.getD i 0 : Nat) : Int)) := by
  rw [cell_of_row w q i _ _ _ h.hq, row_get ws i hi]
theorem IsSet.fz {w : World} {p q n : Nat} {ws : List Nat} (h : IsSet w p q n ws) (i : Nat) : w.frozen? ⟨q, i, none⟩ = false := frozen_of_row w q i _ _ h.hq
theorem IsSet.len {w : World} {p q n : Nat} {ws : List Nat} (h : IsSet w p q n ws) : ws.length ≤ 1024 := by have a := h.hl; have b := h.hn; unfold nw at a; omega
theorem IsSet.keep {w w' : World} {p q n a : Nat} {ws : List Nat} (h : IsSet w p q n ws) (k : Chg a w w') (hp : p ≠ a) (hq : q ≠ a) : IsSet w' p q n ws :=
  ⟨(k.block p h.plt hp).trans h.hp, (k.block q h.qlt hq).trans h.hq, h.ne, h.hn, h.hl, h.wd, h.cl⟩
theorem IsSet.low {w w' : World} {p q n : Nat} {ws : List Nat} (h : IsSet w p q n ws) (k : Below w.heap.size w w') : IsSet w' p q n ws :=
  ⟨(k.block p h.plt).trans h.hp, (k.block q h.qlt).trans h.hq, h.ne, h.hn, h.hl, h.wd, h.cl⟩
/-- The same struct block holds one set. -/
theorem IsSet.same {w : World} {p q q' n n' : Nat} {ws ws' : List Nat} (h : IsSet w p q n ws) (h' : IsSet w p q' n' ws') : q = q' ∧ n = n' ∧ ws = ws' := by
  have e := h.hp.symm.trans h'.hp
  simp at e
  obtain ⟨e1, rfl, _⟩ := e
  refine ⟨rfl, by omega, ?_⟩
  have f := h.hq.symm.trans h'.hq
  simp [row] at f
  have inj : Function.Injective (fun x : Nat => Value.int IntKind.u64 (x : Int)) := by
    intro a b hab; simp at hab; omega
  exact (List.map_inj_right (fun a b => @inj a b)).1 f
/-- The words of a set turn. -/
theorem IsSet.put {w w' : World} {p q n : Nat} {ws ws' : List Nat} (h : IsSet w p q n ws) (k : Chg q w w') (hq : w'.heap[q]? = some (.cells (row ws') 56 (0, 0))) (hl : ws'.length = ws.length) (wd : Wd ws') (cl : Tidy n ws') : IsSet w' p q n ws' :=
  ⟨by rw [hl]; exact (k.block p h.plt h.ne).trans h.hp, hq, h.ne, h.hn, hl.trans h.hl, wd, cl⟩
theorem heap_drewN (w : World) (n : Nat) : (w.drewN n).heap = w.heap := rfl
end Go.Proofs.YtkagdmhijjfnnabDoor
