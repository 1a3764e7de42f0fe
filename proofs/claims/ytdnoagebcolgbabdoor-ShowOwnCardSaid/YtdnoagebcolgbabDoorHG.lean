import Derived.Test.YtdnoagebcolgbabDoorHF
import Derived.Laws.StructEq
namespace Go.Proofs.YtdnoagebcolgbabDoor.L
open Go.RowKit Go.Shelf
set_option linter.unusedVariables false
set_option linter.unusedSimpArgs false
set_option maxRecDepth 100000 in
theorem eq_causes (w : World) : (Op.equalIn 9999 51 (.agg #[.int .i64 0, .int .i64 0, .int .i64 0, .string ⟨#[]⟩, .int .i64 0, .int .i64 0, .int .i64 0, .string ⟨#[]⟩, .int .i64 0, .int .i64 0, .int .i64 0, .string ⟨#[]⟩, .int .i64 0, .int .i64 0, .int .i64 0, .string ⟨#[]⟩]) (.agg #[.int .i64 0, .int .i64 0, .int .i64 0, .string ⟨#[]⟩, .int .i64 0, .int .i64 0, .int .i64 0, .string ⟨#[]⟩, .int .i64 0, .int .i64 0, .int .i64 0, .string ⟨#[]⟩, .int .i64 0, .int .i64 0, .int .i64 0, .string ⟨#[]⟩])).run Tryd.prog w = .ok true w := by
  kernel_rfl
theorem flds : (Tryd.prog.fieldsOf 53).toList = [{ name := "Code", type := 3, offset := 0, embedded := false, tag := "", pkgPath := "", byteOffset := 0 }, { name := "At", type := 3, offset := 1, embedded := false, tag := "", pkgPath := "", byteOffset := 8 }, { name := "Name", type := 9, offset := 2, embedded := false, tag := "", pkgPath := "", byteOffset := 16 }, { name := "Causes", type := 51, offset := 3, embedded := false, tag := "", pkgPath := "", byteOffset := 32 }] := by
  kernel_rfl
theorem str53 : Tryd.prog.underlying 53 = some (.struct (Tryd.prog.fieldsOf 53)) := by kernel_rfl
theorem held53 : Tryd.prog.stoodInHeld 53 = false := by kernel_rfl
theorem guard53 : Tryd.prog.eqGuardType Tryd.prog.depth 53 = false := by kernel_rfl
theorem p0 (c a : Int) (w : World) : (part 3 #[.int .i64 c, .int .i64 a, .string ⟨#[]⟩, .int .i64 0, .int .i64 0, .int .i64 0, .string ⟨#[]⟩, .int .i64 0, .int .i64 0, .int .i64 0, .string ⟨#[]⟩, .int .i64 0, .int .i64 0, .int .i64 0, .string ⟨#[]⟩, .int .i64 0, .int .i64 0, .int .i64 0, .string ⟨#[]⟩] 0).run Tryd.prog w = .ok (.int .i64 c) w := by kernel_rfl
theorem p1 (c a : Int) (w : World) : (part 3 #[.int .i64 c, .int .i64 a, .string ⟨#[]⟩, .int .i64 0, .int .i64 0, .int .i64 0, .string ⟨#[]⟩, .int .i64 0, .int .i64 0, .int .i64 0, .string ⟨#[]⟩, .int .i64 0, .int .i64 0, .int .i64 0, .string ⟨#[]⟩, .int .i64 0, .int .i64 0, .int .i64 0, .string ⟨#[]⟩] 1).run Tryd.prog w = .ok (.int .i64 a) w := by kernel_rfl
theorem p2 (c a : Int) (w : World) : (part 9 #[.int .i64 c, .int .i64 a, .string ⟨#[]⟩, .int .i64 0, .int .i64 0, .int .i64 0, .string ⟨#[]⟩, .int .i64 0, .int .i64 0, .int .i64 0, .string ⟨#[]⟩, .int .i64 0, .int .i64 0, .int .i64 0, .string ⟨#[]⟩, .int .i64 0, .int .i64 0, .int .i64 0, .string ⟨#[]⟩] 2).run Tryd.prog w = .ok (.string ⟨#[]⟩) w := by kernel_rfl
theorem p3 (c a : Int) (w : World) : (part 51 #[.int .i64 c, .int .i64 a, .string ⟨#[]⟩, .int .i64 0, .int .i64 0, .int .i64 0, .string ⟨#[]⟩, .int .i64 0, .int .i64 0, .int .i64 0, .string ⟨#[]⟩, .int .i64 0, .int .i64 0, .int .i64 0, .string ⟨#[]⟩, .int .i64 0, .int .i64 0, .int .i64 0, .string ⟨#[]⟩] 3).run Tryd.prog w = .ok (.agg #[.int .i64 0, .int .i64 0, .int .i64 0, .string ⟨#[]⟩, .int .i64 0, .int .i64 0, .int .i64 0, .string ⟨#[]⟩, .int .i64 0, .int .i64 0, .int .i64 0, .string ⟨#[]⟩, .int .i64 0, .int .i64 0, .int .i64 0, .string ⟨#[]⟩]) w := by kernel_rfl
theorem eq53 (c a : Int) (w : World) : (Op.equalIn 10000 53 (.agg #[.int .i64 c, .int .i64 a, .string ⟨#[]⟩, .int .i64 0, .int .i64 0, .int .i64 0, .string ⟨#[]⟩, .int .i64 0, .int .i64 0, .int .i64 0, .string ⟨#[]⟩, .int .i64 0, .int .i64 0, .int .i64 0, .string ⟨#[]⟩, .int .i64 0, .int .i64 0, .int .i64 0, .string ⟨#[]⟩]) (.agg #[.int .i64 c, .int .i64 a, .string ⟨#[]⟩, .int .i64 0, .int .i64 0, .int .i64 0, .string ⟨#[]⟩, .int .i64 0, .int .i64 0, .int .i64 0, .string ⟨#[]⟩, .int .i64 0, .int .i64 0, .int .i64 0, .string ⟨#[]⟩, .int .i64 0, .int .i64 0, .int .i64 0, .string ⟨#[]⟩])).run Tryd.prog w = .ok true w := by
  have e0 := p0 c a
  have e1 := p1 c a
  have e2 := p2 c a
  have e3 := p3 c a
  rw [run_equalIn_struct w 9999 53 _ _ str53 held53, flds]
  generalize (#[.int .i64 c, .int .i64 a, .string ⟨#[]⟩, .int .i64 0, .int .i64 0, .int .i64 0, .string ⟨#[]⟩, .int .i64 0, .int .i64 0, .int .i64 0, .string ⟨#[]⟩, .int .i64 0, .int .i64 0, .int .i64 0, .string ⟨#[]⟩, .int .i64 0, .int .i64 0, .int .i64 0, .string ⟨#[]⟩] : Array Value) = X at *
  have i0 : ∀ (x : Int) (w : World), (Op.equalIn 9999 3 (.int .i64 x) (.int .i64 x)).run Tryd.prog w = .ok true w := fun x w => by
    rw [run_equalIn_int w 9998 3 .i64 .i64 x x (by kernel_rfl)]
    simp
  have i2 : ∀ (w : World), (Op.equalIn 9999 9 (.string ⟨#[]⟩) (.string ⟨#[]⟩)).run Tryd.prog w = .ok true w := fun w => by
    rw [run_equalIn_string w 9998 9 _ _ (by kernel_rfl)]
    simp
  have i3 := eq_causes
  simp [Op.eqFields, Sem.run_bind, e0, e1, e2, e3, i0, i2, i3]
theorem run_eq53 (c a : Int) (w : World) : (binOp .eql 53 (.agg #[.int .i64 c, .int .i64 a, .string ⟨#[]⟩, .int .i64 0, .int .i64 0, .int .i64 0, .string ⟨#[]⟩, .int .i64 0, .int .i64 0, .int .i64 0, .string ⟨#[]⟩, .int .i64 0, .int .i64 0, .int .i64 0, .string ⟨#[]⟩, .int .i64 0, .int .i64 0, .int .i64 0, .string ⟨#[]⟩]) (.agg #[.int .i64 c, .int .i64 a, .string ⟨#[]⟩, .int .i64 0, .int .i64 0, .int .i64 0, .string ⟨#[]⟩, .int .i64 0, .int .i64 0, .int .i64 0, .string ⟨#[]⟩, .int .i64 0, .int .i64 0, .int .i64 0, .string ⟨#[]⟩, .int .i64 0, .int .i64 0, .int .i64 0, .string ⟨#[]⟩])).run Tryd.prog w = .ok (.bool true) w := by
  rw [run_eql_struct, eq53]
  rfl
set_option maxHeartbeats 4000000 in
theorem refusal_nil (x : Int) (w : World) : Calls Tryd.prog 10 #[.nilIface, .int .i64 0, .int .i64 x] w fun e w' => e = .returned (.bool true) ∧ w' = w := by
  go_enter Tryd.func10, Tryd.ntmps10
  go_wp2_with fail
  exact bodyPost_ret (v := .bool true) (by simp [results, Tryd.results10]) rfl ⟨rfl, rfl⟩
set_option maxHeartbeats 4000000 in
set_option maxRecDepth 100000 in
theorem refusal_yes (N c : Nat) (a : Int) (w : World) (h : Flt w N c a) (h0 : c ≠ 0) : Calls Tryd.prog 10 #[fv N, .int .i64 (c : Int), .int .i64 a] w fun e w' => e = .returned (.bool true) ∧ Below w.heap.size w w' := by
  have HR := hid (read_yes N c a w h h0)
  have h0' : ((c : Int) == 0) = false := by simpa using h0
  clear h
  go_enter Tryd.func10, Tryd.ntmps10
  have g53 := guard53
  have q53 := run_eq53 (c : Int) a
  go_wp2_with (go_at_call 17; refine HR.out.mono ?_; rintro e w1 ⟨rfl, l1⟩; have L1 := hid l1; clear l1)
  exact bodyPost_ret (v := .bool true) (by simp [results, Tryd.results10]) rfl ⟨rfl, L1.out⟩
end Go.Proofs.YtdnoagebcolgbabDoor.L
