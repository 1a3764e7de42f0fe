import Derived.Test.YtdnoagebcolgbabDoorHY
import Derived.Test.YtdnoagebcolgbabDoorHD
namespace Go.Proofs.YtdnoagebcolgbabDoor.L
open Go.RowKit Go.Shelf
set_option linter.unusedVariables false
/-- A row of texts of one's own. -/
abbrev tcells (l : List (List UInt8)) : List Value := l.map (fun x => Value.string (S x))
abbrev OwnS (w : World) (base : Nat) (v : Value) (l : List (List UInt8)) : Prop := w.ownsRow base 9 1 v l.length (tcells l)
theorem owns_set {W : World} {base g L cap : Nat} {zs : List (List UInt8)} (h : OwnS W base (.slice (some ⟨g, 0, none⟩) L cap) zs) (hL : L = zs.length) (x : Nat) (v : List UInt8) :
    OwnS (W.setCell ⟨g, x, none⟩ (.string (S v))) base (.slice (some ⟨g, 0, none⟩) L cap) (zs.set x v) ∧ W.grownBy (W.setCell ⟨g, x, none⟩ (.string (S v))) (some g) := by
  subst hL
  have := World.ownsRow.stored h x (.string (S v))
  refine ⟨?_, this.2⟩
  unfold OwnS tcells
  rw [List.length_set, List.map_set]
  exact this.1
theorem owns_cell {W : World} {base g L cap : Nat} {zs : List (List UInt8)} (h : OwnS W base (.slice (some ⟨g, 0, none⟩) L cap) zs) (hL : L = zs.length) (j : Nat) (hj : j < L) : W.cell? ⟨g, j, none⟩ = some (.string (S (zs.getD j []))) ∧ W.frozen? ⟨g, j, none⟩ = false := by
  subst hL
  refine ⟨?_, World.ownsRow.frozenAt h j⟩
  rw [World.ownsRow.cellAt h j (by omega), List.getElem?_map, List.getElem?_eq_getElem hj, List.getD_eq_getElem?_getD, List.getElem?_eq_getElem hj]
  rfl
theorem owns_made (w : World) (n base : Nat) (hn : n ≤ 1000) (hb : base ≤ w.heap.size) : OwnS (w.alloc (.cells (madeCells #[.string ⟨#[]⟩] n) 9)) base (.slice (some ⟨w.heap.size, 0, none⟩) n n) (List.replicate n []) := by
  have h := World.ownsRow_lit (base := base) (e := 9) (size := 1) w (madeCells #[.string ⟨#[]⟩] n) n hb (by unfold maxLen; omega) (by rw [size_madeCells]; simp)
  unfold OwnS tcells
  rw [List.length_replicate, List.map_replicate, ← toList_madeCells_one]
  exact h
theorem owns_low {w w' : World} {base : Nat} {v : Value} {zs : List (List UInt8)} (h : OwnS w base v zs) (hk : Below w.heap.size w w') : OwnS w' base v zs :=
  World.ownsRow.kept (row := none) h ⟨hk.os, hk.tape, hk.output, hk.size, fun k hkl _ => hk.block k hkl⟩ (by cases v.ownBlock <;> simp)
theorem owns_lt {w : World} {base g L cap : Nat} {zs : List (List UInt8)} (h : OwnS w base (.slice (some ⟨g, 0, none⟩) L cap) zs) : base ≤ g ∧ g < w.heap.size := by
  rcases h.2 with ⟨e, _⟩ | ⟨g', cap', cur, e, hb, hg, _⟩
  · cases e
  · cases e
    exact ⟨hb, lt_blk hg⟩
end Go.Proofs.YtdnoagebcolgbabDoor.L
