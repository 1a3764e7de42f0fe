import Derived.Test.YtnclpdgbjefpmaaEg
namespace Go.Proofs.Ytnclpdgbjefpmaa.L
open Go.RowKit
set_option linter.unusedVariables false
set_option linter.unusedSimpArgs false
def fitB (u : Bool) (x : Int) : Bool := if u = true then inR x 0 65535 else decide (x = 0)
def opsB (i : Ins) : Bool := fitB (us i.op).1 i.a && (fitB (us i.op).2.1 i.b && fitB (us i.op).2.2 i.c)
def insB (i : Ins) : Bool := inR i.op 1 36 && opsB i
def insV (i : Ins) : Array Value := #[.int .i64 i.op, .int .i64 i.a, .int .i64 i.b, .int .i64 i.c]
theorem run_ix0 (a b c : Value) (w : World) : (Instr.index 124 (.agg #[a, b, c]) (.int .i64 0)).run Try.prog w = .ok a w := by kernel_rfl
theorem run_ix1 (a b c : Value) (w : World) : (Instr.index 124 (.agg #[a, b, c]) (.int .i64 1)).run Try.prog w = .ok b w := by kernel_rfl
theorem run_ix2 (a b c : Value) (w : World) : (Instr.index 124 (.agg #[a, b, c]) (.int .i64 2)).run Try.prog w = .ok c w := by kernel_rfl
/-- One operand's turn. -/
theorem fit_no {u : Bool} {x : Int} (h : fitB u x = false) : (u = true ∧ inR x 0 65535 = false) ∨ (u = false ∧ x ≠ 0) := by
  unfold fitB at h
  cases u
  · right; simpa using h
  · left; simpa using h
theorem fit_yes {u : Bool} {x : Int} (h : fitB u x = true) : (u = true ∧ inR x 0 65535 = true) ∨ (u = false ∧ x = 0) := by
  unfold fitB at h
  cases u
  · right; simpa using h
  · left; simpa using h
set_option maxHeartbeats 8000000 in
set_option maxRecDepth 100000 in
theorem opsfit_any (i : Ins) (w : World) : Calls Try.prog 87 #[.agg (insV i)] w fun e w' => e = .returned (.bool (opsB i)) ∧ Below w.heap.size w w' := by
  obtain ⟨o, a, b, c⟩ := i
  have HU := hid (fun W => uses_any o W)
  have HB1 := hid (show Below w.heap.size w ((w.alloc (.cells #[.int .i64 o, .int .i64 a, .int .i64 b, .int .i64 c] 68)).alloc (.cells #[.int .i64 a, .int .i64 b, .int .i64 c] 123)) from bch (belowA w _) (belowA _ _))
  have HX1 := hid (show ((w.alloc (.cells #[.int .i64 o, .int .i64 a, .int .i64 b, .int .i64 c] 68)).alloc (.cells #[.int .i64 a, .int .i64 b, .int .i64 c] 123)).heap[w.heap.size]? = some (.cells #[.int .i64 o, .int .i64 a, .int .i64 b, .int .i64 c] 68 (0, 0)) from ((belowA (w.alloc (.cells #[.int .i64 o, .int .i64 a, .int .i64 b, .int .i64 c] 68)) _).block _ (by simp)).trans (heap_alloc_new w _))
  have HY1 := hid (show ((w.alloc (.cells #[.int .i64 o, .int .i64 a, .int .i64 b, .int .i64 c] 68)).alloc (.cells #[.int .i64 a, .int .i64 b, .int .i64 c] 123)).heap[w.heap.size + 1]? = some (.cells #[.int .i64 a, .int .i64 b, .int .i64 c] 123 (0, 0)) from (by have h1 := heap_alloc_new (w.alloc (.cells #[.int .i64 o, .int .i64 a, .int .i64 b, .int .i64 c] 68)) (.cells #[.int .i64 a, .int .i64 b, .int .i64 c] 123); rw [World.size_alloc] at h1; exact h1))
  unfold insV opsB
  simp only
  go_enter Try.func87, Try.ntmps87
  go_wp2_with fail
  generalize ((w.alloc (.cells #[.int .i64 o, .int .i64 a, .int .i64 b, .int .i64 c] 68)).alloc (.cells #[.int .i64 a, .int .i64 b, .int .i64 c] 123)) = W1 at *
  refine (HU.out W1).mono ?_
  rintro e W2 ⟨rfl, l2⟩
  unfold usV
  have HL2 := hid (bch HB1.out l2)
  have HY2 := hid ((l2.block _ (lt_blk HY1.out)).trans HY1.out)
  clear l2
  obtain ⟨q0, hq0⟩ : ∃ u, u = (us o).1 := ⟨_, rfl⟩
  obtain ⟨q1, hq1⟩ : ∃ u, u = (us o).2.1 := ⟨_, rfl⟩
  obtain ⟨q2, hq2⟩ : ∃ u, u = (us o).2.2 := ⟨_, rfl⟩
  rw [← hq0, ← hq1, ← hq2]
  have HU0 := hid hq0
  have HU1 := hid hq1
  have HU2 := hid hq2
  clear hq0 hq1 hq2 HU
  have HW := hid (fun n W => within_any n 0 65535 W)
  have y0 : W2.cell? ⟨w.heap.size + 1, 0, none⟩ = some (.int .i64 a) := cell_of_row _ _ 0 _ _ _ HY2.out
  have y1 : W2.cell? ⟨w.heap.size + 1, 1, none⟩ = some (.int .i64 b) := cell_of_row _ _ 1 _ _ _ HY2.out
  have y2 : W2.cell? ⟨w.heap.size + 1, 2, none⟩ = some (.int .i64 c) := cell_of_row _ _ 2 _ _ _ HY2.out
  generalize w.heap.size + 1 = g at *
  go_wp2_with fail
  clear y0 y1 y2
  go_loopw [16] (fun i wr => ∃ k : Nat, k ≤ 3 ∧ i = .int .i64 k ∧ Hid (wr = W2) ∧ Hid ((0 < k → fitB q0 a = true) ∧ (1 < k → fitB q1 b = true) ∧ (2 < k → fitB q2 c = true))) (fun i _ => 3 - (intOf i).toNat)
  case atStart => exact ⟨0, Nat.zero_le _, rfl, hid (by first | rfl | trivial), hid ⟨fun h => absurd h (by omega), fun h => absurd h (by omega), fun h => absurd h (by omega)⟩⟩
  case round =>
    obtain ⟨k, hk, rfl, HZ, HK⟩ := hrel
    obtain rfl := HZ.out
    have hk4 : k = 0 ∨ k = 1 ∨ k = 2 ∨ k = 3 := by omega
    rcases hk4 with rfl | rfl | rfl | rfl
    · have hix := run_ix0
      have y : wr.cell? ⟨g, 0, none⟩ = some (.int .i64 a) := cell_of_row _ _ 0 _ _ _ HY2.out
      cases hf : fitB q0 a with
      | true =>
        have HV := hid hf
        rcases fit_yes hf with ⟨rfl, hr⟩ | ⟨rfl, rfl⟩
        · have HR := hid (HW.out a wr)
          rw [hr] at HR
          clear hr hf
          go_wp2_with fail
          refine HR.out.mono ?_
          rintro e w1 ⟨rfl, rfl⟩
          go_wp2_with fail
          exact ⟨⟨1, by omega, by go_num, hid (by first | rfl | trivial), hid ⟨fun _ => (by first | exact HV.out | trivial), fun h => absurd h (by omega), fun h => absurd h (by omega)⟩⟩, by simp [intOf]⟩
        · clear hf
          go_wp2_with fail
          exact ⟨⟨1, by omega, by go_num, hid (by first | rfl | trivial), hid ⟨fun _ => (by first | exact HV.out | trivial), fun h => absurd h (by omega), fun h => absurd h (by omega)⟩⟩, by simp [intOf]⟩
      | false =>
        have HV := hid hf
        rcases fit_no hf with ⟨rfl, hr⟩ | ⟨rfl, hx⟩
        · have HR := hid (HW.out a wr)
          rw [hr] at HR
          clear hr hf
          go_wp2_with fail
          refine HR.out.mono ?_
          rintro e w1 ⟨rfl, rfl⟩
          go_wp2_with fail
          go_ret
          exact ⟨(show Ending.returned (.bool false) = _ from by rw [← HU0.out, ← HU1.out, ← HU2.out, HV.out]; simp), HL2.out⟩
        · clear hf
          have hx2 : (a != 0) = true := by simpa using hx
          go_wp2_with fail
          go_ret
          exact ⟨(show Ending.returned (.bool false) = _ from by rw [← HU0.out, ← HU1.out, ← HU2.out, HV.out]; simp), HL2.out⟩
    · have hix := run_ix1
      have y : wr.cell? ⟨g, 1, none⟩ = some (.int .i64 b) := cell_of_row _ _ 1 _ _ _ HY2.out
      cases hf : fitB q1 b with
      | true =>
        have HV := hid hf
        rcases fit_yes hf with ⟨rfl, hr⟩ | ⟨rfl, rfl⟩
        · have HR := hid (HW.out b wr)
          rw [hr] at HR
          clear hr hf
          go_wp2_with fail
          refine HR.out.mono ?_
          rintro e w1 ⟨rfl, rfl⟩
          go_wp2_with fail
          exact ⟨⟨2, by omega, by go_num, hid (by first | rfl | trivial), hid ⟨fun _ => (by first | exact HK.out.1 (by omega) | trivial), fun _ => (by first | exact HV.out | trivial), fun h => absurd h (by omega)⟩⟩, by simp [intOf]⟩
        · clear hf
          go_wp2_with fail
          exact ⟨⟨2, by omega, by go_num, hid (by first | rfl | trivial), hid ⟨fun _ => (by first | exact HK.out.1 (by omega) | trivial), fun _ => (by first | exact HV.out | trivial), fun h => absurd h (by omega)⟩⟩, by simp [intOf]⟩
      | false =>
        have HV := hid hf
        rcases fit_no hf with ⟨rfl, hr⟩ | ⟨rfl, hx⟩
        · have HR := hid (HW.out b wr)
          rw [hr] at HR
          clear hr hf
          go_wp2_with fail
          refine HR.out.mono ?_
          rintro e w1 ⟨rfl, rfl⟩
          go_wp2_with fail
          go_ret
          exact ⟨(show Ending.returned (.bool false) = _ from by rw [← HU0.out, ← HU1.out, ← HU2.out, HV.out]; simp), HL2.out⟩
        · clear hf
          have hx2 : (b != 0) = true := by simpa using hx
          go_wp2_with fail
          go_ret
          exact ⟨(show Ending.returned (.bool false) = _ from by rw [← HU0.out, ← HU1.out, ← HU2.out, HV.out]; simp), HL2.out⟩
    · have hix := run_ix2
      have y : wr.cell? ⟨g, 2, none⟩ = some (.int .i64 c) := cell_of_row _ _ 2 _ _ _ HY2.out
      cases hf : fitB q2 c with
      | true =>
        have HV := hid hf
        rcases fit_yes hf with ⟨rfl, hr⟩ | ⟨rfl, rfl⟩
        · have HR := hid (HW.out c wr)
          rw [hr] at HR
          clear hr hf
          go_wp2_with fail
          refine HR.out.mono ?_
          rintro e w1 ⟨rfl, rfl⟩
          go_wp2_with fail
          exact ⟨⟨3, by omega, by go_num, hid (by first | rfl | trivial), hid ⟨fun _ => (by first | exact HK.out.1 (by omega) | trivial), fun _ => (by first | exact HK.out.2.1 (by omega) | trivial), fun _ => (by first | exact HV.out | trivial)⟩⟩, by simp [intOf]⟩
        · clear hf
          go_wp2_with fail
          exact ⟨⟨3, by omega, by go_num, hid (by first | rfl | trivial), hid ⟨fun _ => (by first | exact HK.out.1 (by omega) | trivial), fun _ => (by first | exact HK.out.2.1 (by omega) | trivial), fun _ => (by first | exact HV.out | trivial)⟩⟩, by simp [intOf]⟩
      | false =>
        have HV := hid hf
        rcases fit_no hf with ⟨rfl, hr⟩ | ⟨rfl, hx⟩
        · have HR := hid (HW.out c wr)
          rw [hr] at HR
          clear hr hf
          go_wp2_with fail
          refine HR.out.mono ?_
          rintro e w1 ⟨rfl, rfl⟩
          go_wp2_with fail
          go_ret
          exact ⟨(show Ending.returned (.bool false) = _ from by rw [← HU0.out, ← HU1.out, ← HU2.out, HV.out]; simp), HL2.out⟩
        · clear hf
          have hx2 : (c != 0) = true := by simpa using hx
          go_wp2_with fail
          go_ret
          exact ⟨(show Ending.returned (.bool false) = _ from by rw [← HU0.out, ← HU1.out, ← HU2.out, HV.out]; simp), HL2.out⟩
    · have H3 := hid (And.intro (HK.out.1 (by omega)) (And.intro (HK.out.2.1 (by omega)) (HK.out.2.2 (by omega))))
      go_wp2_with fail
      go_ret
      exact ⟨(show Ending.returned (.bool true) = _ from by rw [← HU0.out, ← HU1.out, ← HU2.out, H3.out.1, H3.out.2.1, H3.out.2.2]; rfl), HL2.out⟩
end Go.Proofs.Ytnclpdgbjefpmaa.L
