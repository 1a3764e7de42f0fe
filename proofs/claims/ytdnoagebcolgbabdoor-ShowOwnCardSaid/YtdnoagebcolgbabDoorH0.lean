import Derived.WalkKit
import Derived.WalkSpells
import Derived.WalkLawsBesides
import Derived.Handy
import Derived.Test.YtdnoagebcolgbabDoorProg
import Derived.Deep.QuietTactic
import Derived.Deep.RegionHeld3
import Derived.BigQuiet
import Derived.OwnWalk
import Derived.Laws.AppendOwnNone
import Derived.RangeFuncBox
import Derived.Deep.Cut
namespace Go.Proofs.YtdnoagebcolgbabDoor.L
open Go.RowKit
set_option linter.unusedVariables false
theorem hid {p : Prop} (h : p) : Hid p := h
theorem ret_bool {a b : Bool} (h : a = b) : Ending.returned (.bool a) = .returned (.bool b) := by rw [h]
theorem below_drewN {B : Nat} {a w : World} (h : Below B a w) (n : Nat) : Below B a (w.drewN n) := ⟨h.os, h.tape, h.output, h.size, h.block⟩
theorem belowA (w : World) (o : Obj) : Below w.heap.size w (w.alloc o) := (Below.refl _ _).alloc (Nat.le_refl _) _
theorem lt_blk {W : World} {k : Nat} {o : Obj} (h : W.heap[k]? = some o) : k < W.heap.size := (Array.getElem?_eq_some_iff.1 h).1
/-- What a kind's parts hold. -/
structure Fm where
  cl : Int
  kd : Int
  ls : Int
  ms : Int
  tx : Bool
  lo : Int
  hi : Int
def fmv (f : Fm) : Value := .agg #[.int .i64 f.cl, .int .i64 f.kd, .int .i64 f.ls, .int .i64 f.ms, .bool f.tx, .int .i64 f.lo, .int .i64 f.hi]
def fmO (k : Int) : Fm :=
  if k = 1 ∨ k = 2 then ⟨1, 0, 0, 0, false, 0, 0⟩
  else if k = 3 then ⟨1, 1, 1, 1, false, 0, 0⟩
  else if k = 4 ∨ k = 5 then ⟨1, 1, 2, 1000, false, 0, 0⟩
  else if k = 6 then ⟨1, 2, 2, 2, false, 1, 6⟩
  else if k = 7 then ⟨1, 2, 2, 2, false, 0, 1⟩
  else if k = 8 ∨ k = 9 then ⟨1, 1, 1, 1, true, 0, 0⟩
  else if k = 10 then ⟨1, 0, 0, 0, true, 0, 0⟩
  else if k = 11 then ⟨3, 0, 0, 0, true, 0, 0⟩
  else if k = 12 then ⟨3, 0, 0, 0, false, -999999999999999999, 999999999999999999⟩
  else if k = 13 then ⟨2, 3, 0, 64, false, 0, 0⟩
  else if k = 14 ∨ k = 18 then ⟨2, 0, 0, 0, true, 1, 3⟩
  else if k = 15 ∨ k = 16 ∨ k = 17 then ⟨2, 0, 0, 0, false, 1, 3⟩
  else if k = 19 then ⟨2, 2, 1, 1, false, 0, 0⟩
  else if k = 20 then ⟨2, 1, 1, 1, true, 0, 0⟩
  else ⟨0, 0, 0, 0, false, 0, 0⟩
theorem kind_cases (k : Int) : (k = 1 ∨ k = 2 ∨ k = 3 ∨ k = 4 ∨ k = 5 ∨ k = 6 ∨ k = 7 ∨ k = 8 ∨ k = 9 ∨ k = 10 ∨ k = 11 ∨ k = 12 ∨ k = 13 ∨ k = 14 ∨ k = 15 ∨ k = 16 ∨ k = 17 ∨ k = 18 ∨ k = 19 ∨ k = 20) ∨ (k < 1 ∨ 20 < k) := by omega
end Go.Proofs.YtdnoagebcolgbabDoor.L
