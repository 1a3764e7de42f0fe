import Derived.Test.YtkagdmhijjfnnabDoorLs1
namespace Go.Proofs.YtkagdmhijjfnnabDoor
open Go.RowKit Bs
set_option linter.unusedVariables false
def mkW (p k : Nat) : Value := .int .u64 (1000 * ((p : Int) + 1) + (k : Int) % 7)
def bhW (p k : Nat) : Value := .int .u64 (1000000 * ((p : Int) + 1) + (k : Int))
theorem infoSW : (Tryd.prog.info? 36).map (fun i => (i.zero, i.size, i.bytes)) = some (some (.slice none 0 0), 1, 24) := by kernel_rfl
theorem infoW : (Tryd.prog.info? 56).map (fun i => (i.zero, i.size, i.bytes)) = some (some (.int .u64 0), 1, 8) := by kernel_rfl
theorem made3 : madeCells (Value.slice none 0 0).cells (Int.toNat 3 * 1) = #[.slice none 0 0, .slice none 0 0, .slice none 0 0] := by
  show madeCells (Value.slice none 0 0).cells 3 = Array.replicate 3 (Value.slice none 0 0)
  apply Array.ext
  · simp [madeCells]
  · intro i h1 h2
    simp [madeCells, Value.cells, Nat.mod_one]
theorem make3 (W : World) : (Instr.makeSlice 74 (.int .i64 3) (.int .i64 3)).run Tryd.prog W = .ok (.slice (some ⟨W.heap.size, 0, none⟩) 3 3) (W.alloc (.cells #[.slice none 0 0, .slice none 0 0, .slice none 0 0] 36)) := by
  obtain ⟨i0, hi, hz0, hz1, hz2⟩ := info_prts infoSW
  have h := run_makeSlice (P := Tryd.prog) W 74 36 i0 (.slice none 0 0) Tryd.underlying74 hi hz0 .i64 .i64 3 3 (by decide) (by decide) (by rw [hz1]; decide) (by rw [hz2]; decide) (by decide)
  rw [hz1, made3] at h
  exact h
end Go.Proofs.YtkagdmhijjfnnabDoor
