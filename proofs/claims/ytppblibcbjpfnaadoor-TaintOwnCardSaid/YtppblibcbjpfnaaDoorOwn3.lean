import Derived.Test.YtppblibcbjpfnaaDoorOwn4
import Derived.Test.YtppblibcbjpfnaaDoorTpp
import Derived.Laws.MakeOwn
import Derived.Deep.RegionHeld3
namespace Go.Proofs.YtppblibcbjpfnaaDoor.L
open Go.RowKit
set_option linter.unusedVariables false
/-- Rows of one's own, each in a block of its own. -/
structure Fam (W : World) (base n : Nat) (f : Nat → Value) (M : Nat → List Tn) : Prop where
  own : ∀ j, j < n → OwnT W base (f j) (M j)
  apart : ∀ i j, i < n → j < n → i ≠ j → (f i).ownBlock = none ∨ (f i).ownBlock ≠ (f j).ownBlock
  short : ∀ j, j < n → (M j).length * 48 ≤ 140737488351232
theorem grown_put3 (W : World) (g o : Nat) (a b c : Value) : W.grownBy (put3 W g o a b c) (some g) :=
  ⟨by unfold put3; rw [Go.Sort.setCell_eq, Go.Sort.setCell_eq, Go.Sort.setCell_eq]; rfl, by unfold put3; rw [Go.Sort.setCell_eq, Go.Sort.setCell_eq, Go.Sort.setCell_eq]; rfl, by unfold put3; rw [Go.Sort.setCell_eq, Go.Sort.setCell_eq, Go.Sort.setCell_eq]; rfl, by rw [put3_size]; exact Nat.le_refl _, fun k _ hk => put3_other W a b c (fun e => hk (by rw [e]))⟩
theorem below_put3 {base : Nat} {W W' : World} (h : Below base W W') {g o : Nat} (hg : base ≤ g) (a b c : Value) : Below base W (put3 W' g o a b c) := below_set (below_set (below_set h g o a hg) g (o + 1) b hg) g (o + 2) c hg
theorem Fam.set {W : World} {base n : Nat} {f : Nat → Value} {M : Nat → List Tn} (h : Fam W base n f M) {p g cp k : Nat} (hp : p < n) (hf : f p = .slice (some ⟨g, 0, none⟩) (M p).length cp) (hk : k < (M p).length) (x y z : ByteArray) :
    Fam (put3 W g (k * 3) (.string x) (.string y) (.string z)) base n f (fun j => if j = p then (M p).set k (x, y, z) else M j) := by
  refine ⟨fun j hj => ?_, h.apart, fun j hj => ?_⟩
  · by_cases e : j = p
    · subst e
      simp only [if_true]
      have := h.own j hj
      rw [hf] at this ⊢
      exact own_put3 x y z this hk
    · simp only [if_neg e]
      refine (h.own j hj).kept (grown_put3 W g _ _ _ _) ?_
      have := h.apart j p hj hp e
      rw [hf] at this
      exact this
  · by_cases e : j = p
    · subst e
      simp only [if_true, List.length_set]
      exact h.short j hj
    · simp only [if_neg e]
      exact h.short j hj
theorem Fam.low {W W' : World} {base n : Nat} {f : Nat → Value} {M : Nat → List Tn} (h : Fam W base n f M) (hb : Below W.heap.size W W') : Fam W' base n f M := ⟨fun j hj => ownG_low (h.own j hj) hb, h.apart, h.short⟩
theorem infoS : (Tryd.prog.info? 26).map (fun i => (i.zero, i.size, i.bytes)) = some (some (.slice none 0 0), 1, 24) := by kernel_rfl
theorem made9 : madeCells (Value.slice none 0 0).cells (Int.toNat 9 * 1) = #[.slice none 0 0, .slice none 0 0, .slice none 0 0, .slice none 0 0, .slice none 0 0, .slice none 0 0, .slice none 0 0, .slice none 0 0, .slice none 0 0] := by
  show madeCells (Value.slice none 0 0).cells 9 = Array.replicate 9 (Value.slice none 0 0)
  apply Array.ext
  · simp [madeCells]
  · intro i h1 h2
    simp [madeCells, Value.cells, Nat.mod_one]
theorem make9 (W : World) : (Instr.makeSlice 65 (.int .i64 9) (.int .i64 9)).run Tryd.prog W = .ok (.slice (some ⟨W.heap.size, 0, none⟩) 9 9) (W.alloc (.cells #[.slice none 0 0, .slice none 0 0, .slice none 0 0, .slice none 0 0, .slice none 0 0, .slice none 0 0, .slice none 0 0, .slice none 0 0, .slice none 0 0] 26)) := by
  obtain ⟨i0, hi, hz0, hz1, hz2⟩ := info_parts infoS
  have h := run_makeSlice (P := Tryd.prog) W 65 26 i0 (.slice none 0 0) Tryd.underlying65 hi hz0 .i64 .i64 9 9 (by decide) (by decide) (by rw [hz1]; decide) (by rw [hz2]; decide) (by decide)
  rw [hz1, made9] at h
  exact h
def sOwn : ByteArray := ⟨#[111, 119, 110]⟩
def MO (p n : Nat) : List Tn := (List.range n).map fun k => (mk3 p k, sOwn, ⟨#[]⟩)
/-- The first places of a row are marked. -/
def Mkd (l : List Tn) (p q : Nat) : Prop := ∀ k, k < q → l[k]? = some (mk3 p k, sOwn, ⟨#[]⟩)
theorem mkd_next {l : List Tn} {p q : Nat} (h : Mkd l p q) (hq : q < l.length) : Mkd (l.set q (mk3 p q, sOwn, ⟨#[]⟩)) p (q + 1) := by
  intro k hk
  rw [List.getElem?_set]
  by_cases e : q = k
  · subst e
    simp [hq]
  · rw [if_neg e]
    exact h k (by omega)
end Go.Proofs.YtppblibcbjpfnaaDoor.L
