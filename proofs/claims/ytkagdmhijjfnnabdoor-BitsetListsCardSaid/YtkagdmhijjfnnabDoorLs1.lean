import Derived.Test.YtkagdmhijjfnnabDoorApr
import Derived.Test.YtkagdmhijjfnnabDoorNl7
namespace Go.Proofs.YtkagdmhijjfnnabDoor
open Go.RowKit Bs
set_option linter.unusedVariables false
def mkI (p k : Nat) : Value := .int .i64 (-1000 * ((p : Int) + 1) - (k : Int) % 7)
def bhI (p k : Nat) : Value := .int .i64 (1000000 * ((p : Int) + 1) + (k : Int))
theorem infoSI : (Tryd.prog.info? 22).map (fun i => (i.zero, i.size, i.bytes)) = some (some (.slice none 0 0), 1, 24) := by kernel_rfl
theorem infoI : (Tryd.prog.info? 3).map (fun i => (i.zero, i.size, i.bytes)) = some (some (.int .i64 0), 1, 8) := by kernel_rfl
theorem info_prts {o : Option TypeInfo} {z : Value} {s b : Nat} (h : o.map (fun i => (i.zero, i.size, i.bytes)) = some (some z, s, b)) : ∃ i, o = some i ∧ i.zero = some z ∧ i.size = s ∧ i.bytes = b := by
  cases o with
  | none => simp at h
  | some i => simp at h; exact ⟨i, rfl, h.1, h.2.1, h.2.2⟩
theorem made5 : madeCells (Value.slice none 0 0).cells (Int.toNat 5 * 1) = #[.slice none 0 0, .slice none 0 0, .slice none 0 0, .slice none 0 0, .slice none 0 0] := by
  show madeCells (Value.slice none 0 0).cells 5 = Array.replicate 5 (Value.slice none 0 0)
  apply Array.ext
  · simp [madeCells]
  · intro i h1 h2
    simp [madeCells, Value.cells, Nat.mod_one]
theorem make5 (W : World) : (Instr.makeSlice 53 (.int .i64 5) (.int .i64 5)).run Tryd.prog W = .ok (.slice (some ⟨W.heap.size, 0, none⟩) 5 5) (W.alloc (.cells #[.slice none 0 0, .slice none 0 0, .slice none 0 0, .slice none 0 0, .slice none 0 0] 22)) := by
  obtain ⟨i0, hi, hz0, hz1, hz2⟩ := info_prts infoSI
  have h := run_makeSlice (P := Tryd.prog) W 53 22 i0 (.slice none 0 0) Tryd.underlying53 hi hz0 .i64 .i64 5 5 (by decide) (by decide) (by rw [hz1]; decide) (by rw [hz2]; decide) (by decide)
  rw [hz1, made5] at h
  exact h
end Go.Proofs.YtkagdmhijjfnnabDoor
