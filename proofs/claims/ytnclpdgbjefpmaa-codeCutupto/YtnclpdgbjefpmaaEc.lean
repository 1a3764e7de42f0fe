import Derived.WalkKit
import Derived.WalkSpells
import Derived.WalkLawsBesides
import Derived.Handy
import Derived.Deep.QuietTactic
import Derived.BigQuiet
import Derived.RegionTactic
import Derived.ChangeAlike
import Derived.BigRegion
import Derived.OwnWalk
import Derived.Deep.Cut
import Derived.Deep.CutRange
import Derived.Shelf.RegionOpen
import Derived.Laws.AppendOwnNone
import Derived.Laws.Rows
import Derived.Laws.OwnMore
import Derived.Test.YtnclpdgbjefpmaaEb
namespace Go.Proofs.Ytnclpdgbjefpmaa.L
open Go.RowKit
set_option linter.unusedVariables false
set_option linter.unusedSimpArgs false
theorem hid {p : Prop} (h : p) : Hid p := h
theorem belowA (w : World) (o : Obj) : Below w.heap.size w (w.alloc o) := (Below.refl _ _).alloc (Nat.le_refl _) _
theorem below_drewN {B : Nat} {a w : World} (h : Below B a w) (n : Nat) : Below B a (w.drewN n) := ⟨h.os, h.tape, h.output, h.size, h.block⟩
theorem bch {w a b : World} (h1 : Below w.heap.size w a) (h2 : Below a.heap.size a b) : Below w.heap.size w b := h1.trans (h2.mono h1.size)
theorem lt_blk {W : World} {k : Nat} {o : Obj} (h : W.heap[k]? = some o) : k < W.heap.size := (Array.getElem?_eq_some_iff.1 h).1
/-- A row of values of one cell each that can be read. -/
def RdV (W : World) (a : Option Addr) (vs : List Value) : Prop := vs.length = 0 ∨ ∃ b off, a = some ⟨b, off, none⟩ ∧ b < W.heap.size ∧ ∀ j, j < vs.length → W.cell? ⟨b, off + j, none⟩ = some (vs.getD j undef)
theorem RdV.low {W W' : World} {a : Option Addr} {vs : List Value} (h : RdV W a vs) (k : Below W.heap.size W W') : RdV W' a vs := by
  rcases h with h | ⟨b, off, rfl, h2, h3⟩
  · exact Or.inl h
  · exact Or.inr ⟨b, off, rfl, Nat.lt_of_lt_of_le h2 k.size, fun j hj => (k.cell (p := ⟨b, off + j, none⟩) h2).trans (h3 j hj)⟩
/-- Of each element: may it stand there, is it behind the one ahead. -/
def risV (n : Nat) (m lt : Nat → Bool) : Bool := (List.range n).all fun j => m j && (j == 0 || lt j)
theorem risV_iff {n : Nat} {m lt : Nat → Bool} : risV n m lt = true ↔ ∀ j, j < n → m j = true ∧ (0 < j → lt j = true) := by
  unfold risV
  rw [List.all_eq_true]
  constructor
  · intro h j hj
    have := h j (by simpa using hj)
    simp only [Bool.and_eq_true, Bool.or_eq_true, beq_iff_eq] at this
    exact ⟨this.1, fun h0 => this.2.resolve_left (by omega)⟩
  · intro h j hj
    have := h j (by simpa using hj)
    simp only [Bool.and_eq_true, Bool.or_eq_true, beq_iff_eq]
    refine ⟨this.1, ?_⟩
    by_cases h0 : j = 0
    · exact Or.inl h0
    · exact Or.inr (this.2 (by omega))
def inR (n lo hi : Int) : Bool := decide (lo ≤ n ∧ n ≤ hi)
theorem within_any (n lo hi : Int) (w : World) : Calls Try.prog 40 #[.int .i64 n, .int .i64 lo, .int .i64 hi] w fun e w' => e = .returned (.bool (inR n lo hi)) ∧ w' = w := by
  unfold inR
  by_cases h1 : lo ≤ n
  · by_cases h2 : n ≤ hi
    · have e1 : decide (lo ≤ n) = true := by simpa using h1
      have e2 : decide (n ≤ hi) = true := by simpa using h2
      rw [show decide (lo ≤ n ∧ n ≤ hi) = true by simp [h1, h2]]
      go_enter Try.func40, Try.ntmps40
      go_wp2
      go_ret
      exact ⟨rfl, rfl⟩
    · have e1 : decide (lo ≤ n) = true := by simpa using h1
      have e2 : decide (n ≤ hi) = false := by simpa using h2
      rw [show decide (lo ≤ n ∧ n ≤ hi) = false by simp [h2]]
      go_enter Try.func40, Try.ntmps40
      go_wp2
      go_ret
      exact ⟨rfl, rfl⟩
  · have e1 : decide (lo ≤ n) = false := by simpa using h1
    rw [show decide (lo ≤ n ∧ n ≤ hi) = false by simp [h1]]
    go_enter Try.func40, Try.ntmps40
    go_wp2
    go_ret
    exact ⟨rfl, rfl⟩
theorem isshort_any (s : ByteArray) (w : World) : Calls Try.prog 42 #[.string s] w fun e w' => e = .returned (.bool (decide ((s.size : Int) ≤ 127))) ∧ w' = w := by
  go_enter Try.func42, Try.ntmps42
  go_wp2
  go_ret
  exact ⟨rfl, rfl⟩
theorem isnum_any (n : Int) (w : World) : Calls Try.prog 45 #[.int .i64 n] w fun e w' => e = .returned (.bool (inR n (-1000000000000000000) 1000000000000000000)) ∧ w' = w := by
  have H := hid (within_any n (-1000000000000000000) 1000000000000000000 w)
  go_enter Try.func45, Try.ntmps45
  go_wp2_with fail
  refine H.out.mono ?_
  rintro e w1 ⟨rfl, rfl⟩
  go_wp2_with fail
  go_ret
  exact ⟨rfl, rfl⟩
end Go.Proofs.Ytnclpdgbjefpmaa.L
