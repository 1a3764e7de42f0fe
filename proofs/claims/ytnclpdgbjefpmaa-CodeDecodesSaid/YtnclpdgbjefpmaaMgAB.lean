import Derived.Test.YtnclpdgbjefpmaaEg
namespace Go.Proofs.Ytnclpdgbjefpmaa.L
open Go.RowKit
set_option linter.unusedVariables false
set_option linter.unusedSimpArgs false
def fitB (u : Bool) (x : Int) : Bool := if u = true then inR x 0 65535 else decide (x = 0)
def opsB (i : Ins) : Bool := fitB (us i.op).1 i.a && (fitB (us i.op).2.1 i.b && fitB (us i.op).2.2 i.c)
def insB (i : Ins) : Bool := inR i.op 1 36 && opsB i
def insV (i : Ins) : Array Value := #[.int .i64 i.op, .int .i64 i.a, .int .i64 i.b, .int .i64 i.c]
theorem run_ix0 (a b c : Value) (w : World) : (Instr.index 124 (.agg #[a, b, c]) (.int .i64 0)).run Try.prog w = .ok a w := by kernel_rfl
theorem run_ix1 (a b c : Value) (w : World) : (Instr.index 124 (.agg #[a, b, c]) (.int .i64 1)).run Try.prog w = .ok b w := by kernel_rfl
theorem run_ix2 (a b c : Value) (w : World) : (Instr.index 124 (.agg #[a, b, c]) (.int .i64 2)).run Try.prog w = .ok c w := by kernel_rfl
/-- One operand's turn. -/
theorem fit_no {u : Bool} {x : Int} (h : fitB u x = false) : (u = true ∧ inR x 0 65535 = false) ∨ (u = false ∧ x ≠ 0) := by
  unfold fitB at h
  cases u
  · right; simpa using h
  · left; simpa using h
theorem fit_yes {u : Bool} {x : Int} (h : fitB u x = true) : (u = true ∧ inR x 0 65535 = true) ∨ (u = false ∧ x = 0) := by
  unfold fitB at h
  cases u
  · right; simpa using h
  · left; simpa using h
set_option maxHeartbeats 8000000 in
set_option maxRecDepth 100000 in
theorem opsfit_any (i : Ins) (w : World) : Calls Try.prog 87 #[.agg (insV i)] w fun e w' => e = .returned (.bool (opsB i)) ∧ Below w.heap.size w w' := by
  obtain ⟨o, a, b, c⟩ := i
  have HU := hid (fun W => uses_any o W)
  have HB1 := hid (show Below w.heap.size w ((w.alloc (.cells #[.int .i64 o, .int .i64 a, .int .i64 b, .int .i64 c] 68)).alloc (.cells #[.int .i64 a, .int .i64 b, .int .i64 c] 123)) from bch (belowA w _) (belowA _ _))
  have HX1 := hid (show ((w.alloc (.cells #[.int .i64 o, .int .i64 a, .int .i64 b, .int .i64 c] 68)).alloc (.cells #[.int .i64 a, .int .i64 b, .int .i64 c] 123)).heap[w.heap.size]? = some (.cells #[.int .i64 o, .int .i64 a, .int .i64 b, .int .i64 c] 68 (0, 0)) from ((belowA (w.alloc (.cells #[.int .i64 o, .int .i64 a, .int .i64 b, .int .i64 c] 68)) _).block _ (by simp)).trans (heap_alloc_new w _))
  have HY1 := hid (show ((w.alloc (.cells #[.int .i64 o, .int .i64 a, .int .i64 b, .int .i64 c] 68)).alloc (.cells #[.int .i64 a, .int .i64 b, .int .i64 c] 123)).heap[w.heap.size + 1]? = some (.cells #[.int .i64 a, .int .i64 b, .int .i64 c] 123 (0, 0)) from (by have h1 := heap_alloc_new (w.alloc (.cells #[.int .i64 o, .int .i64 a, .int .i64 b, .int .i64 c] 68)) (.cells #[.int .i64 a, .int .i64 b, .int .i64 c] 123); rw [World.size_alloc] at h1; exact h1))
  unfold insV opsB
  simp only
  go_enter Try.func87, Try.ntmps87
  go_wp2_with fail
  generalize ((w.alloc (.cells #[.int .i64 o, .int .i64 a, .int .i64 b, .int .i64 c] 68)).alloc (.cells #[.int .i64 a, .int .i64 b, .int .i64 c] 123)) = W1 at *
  refine (HU.out W1).mono ?_
  rintro e W2 ⟨rfl, l2⟩
  unfold usV
  have HL2 := hid (bch HB1.out l2)
  have HY2 := hid ((l2.block _ (lt_blk HY1.out)).trans HY1.out)
  clear l2
  obtain ⟨q0, hq0⟩ : ∃ u, u = (us o).1 := ⟨_, rfl⟩
  obtain ⟨q1, hq1⟩ : ∃ u, u = (us o).2.1 := ⟨_, rfl⟩
  obtain ⟨q2, hq2⟩ : ∃ u, u = (us o).2.2 := ⟨_, rfl⟩
  rw [← hq0, ← hq1, ← hq2]
  have HU0 := hid hq0
  have HU1 := hid hq1
  have HU2 := hid hq2
  clear hq0 hq1 hq2 HU
  have HW := hid (fun n W => within_any n 0 65535 W)
  have y0 : W2.cell? ⟨w.heap.size + 1, 0, none⟩ = some (.int .i64 a) := cell_of_row _ _ 0 _ _ _ HY2.out
  have y1 : W2.cell? ⟨w.heap.size + 1, 1, none⟩ = some (.int .i64 b) := cell_of_row _ _ 1 _ _ _ HY2.out
  have y2 : W2.cell? ⟨w.heap.size + 1, 2, none⟩ = some (.int .i64 c) := cell_of_row _ _ 2 _ _ _ HY2.out
  generalize w.heap.size + 1 = g at *
  go_wp2_with fail
  clear y0 y1 y2
  go_loopw [16] (fun i wr => ∃ k : Nat, k ≤ 3 ∧ i = .int .i64 k ∧ Hid (wr = W2) ∧ Hid ((0 < k → fitB q0 a = true) ∧ (1 < k → fitB q1 b = true) ∧ (2 < k → fitB q2 c = true))) (fun i _ => 3 - (intOf i).toNat)
  case atStart => exact ⟨0, Nat.zero_le _, rfl, hid (by first | rfl | trivial), hid ⟨fun h => absurd h (by omega), fun h => absurd h (by omega), fun h => absurd h (by omega)⟩⟩
  case round =>
    obtain ⟨k, hk, rfl, HZ, HK⟩ := hrel
    obtain rfl := HZ.out
    have hk4 : k = 0 ∨ k = 1 ∨ k = 2 ∨ k = 3 := by omega
    rcases hk4 with rfl | rfl | rfl | rfl
    · have hix := run_ix0
      have y : wr.cell? ⟨g, 0, none⟩ = some (.int .i64 a) := cell_of_row _ _ 0 _ _ _ HY2.out
      cases hf : fitB q0 a with
      | true =>
        have HV := hid hf
        rcases fit_yes hf with ⟨rfl, hr⟩ | ⟨rfl, rfl⟩
        · have HR := hid (HW.out a wr)
          rw [hr] at HR
          clear hr hf
          go_wp2_with fail
          refine HR.out.mono ?_
          rintro e w1 ⟨rfl, rfl⟩
          go_wp2_with fail
          exact ⟨⟨1, by omega, by go_num, hid (by first | rfl | trivial), hid ⟨fun _ => (by first | exact HV.out | trivial), fun h => absurd h (by omega), fun h => absurd h (by omega)⟩⟩, by simp [intOf]⟩
        · clear hf
          go_wp2_with fail
          exact ⟨⟨1, by omega, by go_num, hid (by first | rfl | trivial), hid ⟨fun _ => (by first | exact HV.out | trivial), fun h => absurd h (by omega), fun h => absurd h (by omega)⟩⟩, by simp [intOf]⟩
      | false =>
        have HV := hid hf
        rcases fit_no hf with ⟨rfl, hr⟩ | ⟨rfl, hx⟩
        · have HR := hid (HW.out a wr)
          rw [hr] at HR
          clear hr hf
          go_wp2_with fail
          refine HR.out.mono ?_
          rintro e w1 ⟨rfl, rfl⟩
          go_wp2_with fail
          go_ret
          exact ⟨(show Ending.returned (.bool false) = _ from by rw [← HU0.out, ← HU1.out, ← HU2.out, HV.out]; simp), HL2.out⟩
        · clear hf
          have hx2 : (a != 0) = true := by simpa using hx
          go_wp2_with fail
          go_ret
          exact ⟨(show Ending.returned (.bool false) = _ from by rw [← HU0.out, ← HU1.out, ← HU2.out, HV.out]; simp), HL2.out⟩
    · have hix := run_ix1
      have y : wr.cell? ⟨g, 1, none⟩ = some (.int .i64 b) := cell_of_row _ _ 1 _ _ _ HY2.out
      cases hf : fitB q1 b with
      | true =>
        have HV := hid hf
        rcases fit_yes hf with ⟨rfl, hr⟩ | ⟨rfl, rfl⟩
        · have HR := hid (HW.out b wr)
          rw [hr] at HR
          clear hr hf
          go_wp2_with fail
          refine HR.out.mono ?_
          rintro e w1 ⟨rfl, rfl⟩
          go_wp2_with fail
          exact ⟨⟨2, by omega, by go_num, hid (by first | rfl | trivial), hid ⟨fun _ => (by first | exact HK.out.1 (by omega) | trivial), fun _ => (by first | exact HV.out | trivial), fun h => absurd h (by omega)⟩⟩, by simp [intOf]⟩
        · clear hf
          go_wp2_with fail
          exact ⟨⟨2, by omega, by go_num, hid (by first | rfl | trivial), hid ⟨fun _ => (by first | exact HK.out.1 (by omega) | trivial), fun _ => (by first | exact HV.out | trivial), fun h => absurd h (by omega)⟩⟩, by simp [intOf]⟩
      | false =>
        have HV := hid hf
        rcases fit_no hf with ⟨rfl, hr⟩ | ⟨rfl, hx⟩
        · have HR := hid (HW.out b wr)
          rw [hr] at HR
          clear hr hf
          go_wp2_with fail
          refine HR.out.mono ?_
          rintro e w1 ⟨rfl, rfl⟩
          go_wp2_with fail
          go_ret
          exact ⟨(show Ending.returned (.bool false) = _ from by rw [← HU0.out, ← HU1.out, ← HU2.out, HV.out]; simp), HL2.out⟩
        · clear hf
          have hx2 : (b != 0) = true := by simpa using hx
          go_wp2_with fail
          go_ret
          exact ⟨(show Ending.returned (.bool false) = _ from by rw [← HU0.out, ← HU1.out, ← HU2.out, HV.out]; simp), HL2.out⟩
    · have hix := run_ix2
      have y : wr.cell? ⟨g, 2, none⟩ = some (.int .i64 c) := cell_of_row _ _ 2 _ _ _ HY2.out
      cases hf : fitB q2 c with
      | true =>
        have HV := hid hf
        rcases fit_yes hf with ⟨rfl, hr⟩ | ⟨rfl, rfl⟩
        · have HR := hid (HW.out c wr)
          rw [hr] at HR
          clear hr hf
          go_wp2_with fail
          refine HR.out.mono ?_
          rintro e w1 ⟨rfl, rfl⟩
          go_wp2_with fail
          exact ⟨⟨3, by omega, by go_num, hid (by first | rfl | trivial), hid ⟨fun _ => (by first | exact HK.out.1 (by omega) | trivial), fun _ => (by first | exact HK.out.2.1 (by omega) | trivial), fun _ => (by first | exact HV.out | trivial)⟩⟩, by simp [intOf]⟩
        · clear hf
          go_wp2_with fail
          exact ⟨⟨3, by omega, by go_num, hid (by first | rfl | trivial), hid ⟨fun _ => (by first | exact HK.out.1 (by omega) | trivial), fun _ => (by first | exact HK.out.2.1 (by omega) | trivial), fun _ => (by first | exact HV.out | trivial)⟩⟩, by simp [intOf]⟩
      | false =>
        have HV := hid hf
        rcases fit_no hf with ⟨rfl, hr⟩ | ⟨rfl, hx⟩
        · have HR := hid (HW.out c wr)
          rw [hr] at HR
          clear hr hf
          go_wp2_with fail
          refine HR.out.mono ?_
          rintro e w1 ⟨rfl, rfl⟩
          go_wp2_with fail
          go_ret
          exact ⟨(show Ending.returned (.bool false) = _ from by rw [← HU0.out, ← HU1.out, ← HU2.out, HV.out]; simp), HL2.out⟩
        · clear hf
          have hx2 : (c != 0) = true := by simpa using hx
          go_wp2_with fail
          go_ret
          exact ⟨(show Ending.returned (.bool false) = _ from by rw [← HU0.out, ← HU1.out, ← HU2.out, HV.out]; simp), HL2.out⟩
    · have H3 := hid (And.intro (HK.out.1 (by omega)) (And.intro (HK.out.2.1 (by omega)) (HK.out.2.2 (by omega))))
      go_wp2_with fail
      go_ret
      exact ⟨(show Ending.returned (.bool true) = _ from by rw [← HU0.out, ← HU1.out, ← HU2.out, H3.out.1, H3.out.2.1, H3.out.2.2]; rfl), HL2.out⟩
end Go.Proofs.Ytnclpdgbjefpmaa.L
namespace Go.Proofs.Ytnclpdgbjefpmaa.L
open Go.RowKit
set_option linter.unusedVariables false
set_option linter.unusedSimpArgs false
/-- A row of instructions that can be read. -/
def RdC (W : World) (a : Option Addr) (l : List Ins) : Prop := l.length = 0 ∨ ∃ b off, a = some ⟨b, off, none⟩ ∧ b < W.heap.size ∧ ∀ j, j < l.length → W.cell? ⟨b, off + j * 4, none⟩ = some (.int .i64 (l.getD j default).op) ∧ W.cell? ⟨b, off + j * 4 + 1, none⟩ = some (.int .i64 (l.getD j default).a) ∧ W.cell? ⟨b, off + j * 4 + 2, none⟩ = some (.int .i64 (l.getD j default).b) ∧ W.cell? ⟨b, off + j * 4 + 3, none⟩ = some (.int .i64 (l.getD j default).c)
theorem RdC.low {W W' : World} {a : Option Addr} {l : List Ins} (h : RdC W a l) (k : Below W.heap.size W W') : RdC W' a l := by
  rcases h with h | ⟨b, off, rfl, h2, h3⟩
  · exact Or.inl h
  · refine Or.inr ⟨b, off, rfl, Nat.lt_of_lt_of_le h2 k.size, fun j hj => ?_⟩
    obtain ⟨c0, c1, c2, c3⟩ := h3 j hj
    exact ⟨(k.cell (p := ⟨b, off + j * 4, none⟩) h2).trans c0, (k.cell (p := ⟨b, off + j * 4 + 1, none⟩) h2).trans c1, (k.cell (p := ⟨b, off + j * 4 + 2, none⟩) h2).trans c2, (k.cell (p := ⟨b, off + j * 4 + 3, none⟩) h2).trans c3⟩
theorem all_getD {α : Type} {l : List α} {p : α → Bool} {d : α} : l.all p = true ↔ ∀ j, j < l.length → p (l.getD j d) = true := by
  rw [List.all_eq_true]
  constructor
  · intro h j hj
    rw [List.getD_eq_getElem?_getD, List.getElem?_eq_getElem hj]
    exact h _ (List.getElem_mem hj)
  · intro h x hx
    obtain ⟨j, hj, e⟩ := List.getElem_of_mem hx
    have := h j hj
    rw [List.getD_eq_getElem?_getD, List.getElem?_eq_getElem hj] at this
    rw [← e]
    exact this
set_option maxHeartbeats 8000000 in
set_option maxRecDepth 100000 in
theorem haveform_any (a : Option Addr) (l : List Ins) (cap : Nat) (w : World) (hl : l.length ≤ 140737488355328) (h : RdC w a l) : Calls Try.prog 53 #[.slice a l.length cap] w fun e w' => e = .returned (.bool (l.all insB)) ∧ Below w.heap.size w w' := by
  obtain ⟨L, hL⟩ : ∃ L, L = l.length := ⟨_, rfl⟩
  rw [← hL] at hl ⊢
  have HL := hid hL
  have HR := hid h
  have HW := hid (fun n W => within_any n 1 36 W)
  have HO := hid (fun i W => opsfit_any i W)
  clear hL h
  have hLm : L ≤ maxLen := by unfold maxLen; omega
  go_enter Try.func53, Try.ntmps53
  go_wp2_with fail
  go_loopw [7] (fun i wr => ∃ k : Nat, k ≤ L ∧ i = .int .i64 k ∧ Hid (Below w.heap.size w wr) ∧ Hid (∀ j, j < k → insB (l.getD j default) = true)) (fun i _ => L - (intOf i).toNat)
  case atStart => exact ⟨0, Nat.zero_le _, rfl, hid (Below.refl _ _), hid (fun j hj => absurd hj (Nat.not_lt_zero j))⟩
  case round =>
    obtain ⟨k, hk, rfl, HB, HK⟩ := hrel
    by_cases hlt : k < L
    · rcases HR.out.low HB.out with h0 | ⟨b, off, rfl, hb, hc⟩
      · have := HL.out; omega
      obtain ⟨c0, c1, c2, c3⟩ := hc k (by rw [← HL.out]; exact hlt)
      clear hc
      obtain ⟨i, hi⟩ : ∃ i, i = l.getD k default := ⟨_, rfl⟩
      rw [← hi] at c0 c1 c2 c3
      have HI := hid hi
      obtain ⟨o, x, y, z⟩ := i
      clear hi
      simp only at c0 c1 c2 c3
      have g1 : (k : Int) < (L : Int) := by omega
      have g2 : (0 : Int) ≤ (k : Int) := by omega
      go_upto_region 4 with fail
      have HB2 := hid (belowA wr (.cells #[.int .i64 o, .int .i64 x, .int .i64 y, .int .i64 z] 68))
      have HX2 := hid (heap_alloc_new wr (.cells #[.int .i64 o, .int .i64 x, .int .i64 y, .int .i64 z] 68))
      have HL2 := hid (bch HB.out HB2.out)
      generalize wr.alloc (.cells #[.int .i64 o, .int .i64 x, .int .i64 y, .int .i64 z] 68) = W2 at *
      generalize wr.heap.size = g at *
      clear c0 c1 c2 c3
      have d0 : W2.cell? ⟨g, 0, none⟩ = some (.int .i64 o) := cell_of_row _ _ 0 _ _ _ HX2.out
      have d1 : W2.cell? ⟨g, 1, none⟩ = some (.int .i64 x) := cell_of_row _ _ 1 _ _ _ HX2.out
      have d2 : W2.cell? ⟨g, 2, none⟩ = some (.int .i64 y) := cell_of_row _ _ 2 _ _ _ HX2.out
      have d3 : W2.cell? ⟨g, 3, none⟩ = some (.int .i64 z) := cell_of_row _ _ 3 _ _ _ HX2.out
      have HWk := hid (HW.out o W2)
      cases h1 : inR o 1 36 with
      | false =>
        rw [h1] at HWk
        have HF := hid (show l.all insB = false from by
          cases hr : l.all insB with
          | false => rfl
          | true =>
            have := (all_getD (d := default)).1 hr k (by rw [← HL.out]; exact hlt)
            rw [← HI.out] at this
            unfold insB at this
            rw [h1] at this
            cases this)
        clear h1
        go_wp2_with fail
        refine HWk.out.mono ?_
        rintro e w1 ⟨rfl, rfl⟩
        go_wp2_with fail
        go_ret
        exact ⟨by rw [HF.out]; rfl, HL2.out⟩
      | true =>
        rw [h1] at HWk
        have H1 := hid h1
        clear h1
        go_wp2_with fail
        refine HWk.out.mono ?_
        rintro e w1 ⟨rfl, rfl⟩
        go_wp2_with fail
        refine (show Calls Try.prog 87 #[.agg #[.int .i64 o, .int .i64 x, .int .i64 y, .int .i64 z]] w1 _ from HO.out ⟨o, x, y, z⟩ w1).mono ?_
        rintro e w3 ⟨rfl, l3⟩
        have HL3 := hid (bch HL2.out l3)
        clear l3
        cases h2 : opsB ⟨o, x, y, z⟩ with
        | false =>
          have HF := hid (show l.all insB = false from by
            cases hr : l.all insB with
            | false => rfl
            | true =>
              have := (all_getD (d := default)).1 hr k (by rw [← HL.out]; exact hlt)
              rw [← HI.out] at this
              unfold insB at this
              rw [h2, Bool.and_false] at this
              cases this)
          clear h2
          go_wp2_with fail
          go_ret
          exact ⟨by rw [HF.out]; rfl, HL3.out⟩
        | true =>
          have H2 := hid h2
          clear h2
          go_wp2_with fail
          refine ⟨⟨k + 1, by omega, by go_num, hid HL3.out, hid fun j hj => ?_⟩, by simp [intOf]; omega⟩
          by_cases hj2 : j < k
          · exact HK.out j hj2
          · obtain rfl : j = k := by omega
            rw [← HI.out]
            unfold insB
            rw [H1.out, H2.out]
            rfl
    · obtain rfl : k = L := by omega
      have HF := hid (show l.all insB = true from (all_getD (d := default)).2 (by rw [← HL.out]; exact HK.out))
      go_wp2_with fail
      go_ret
      exact ⟨by rw [HF.out]; rfl, HB.out⟩
end Go.Proofs.Ytnclpdgbjefpmaa.L
