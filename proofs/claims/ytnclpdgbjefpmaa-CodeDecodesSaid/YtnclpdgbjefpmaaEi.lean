import Derived.Test.YtnclpdgbjefpmaaEh
namespace Go.Proofs.Ytnclpdgbjefpmaa.L
open Go.RowKit
set_option linter.unusedVariables false
set_option linter.unusedSimpArgs false
/-- A row of instructions that can be read. -/
def RdC (W : World) (a : Option Addr) (l : List Ins) : Prop := l.length = 0 ∨ ∃ b off, a = some ⟨b, off, none⟩ ∧ b < W.heap.size ∧ ∀ j, j < l.length → W.cell? ⟨b, off + j * 4, none⟩ = some (.int .i64 (l.getD j default).op) ∧ W.cell? ⟨b, off + j * 4 + 1, none⟩ = some (.int .i64 (l.getD j default).a) ∧ W.cell? ⟨b, off + j * 4 + 2, none⟩ = some (.int .i64 (l.getD j default).b) ∧ W.cell? ⟨b, off + j * 4 + 3, none⟩ = some (.int .i64 (l.getD j default).c)
theorem RdC.low {W W' : World} {a : Option Addr} {l : List Ins} (h : RdC W a l) (k : Below W.heap.size W W') : RdC W' a l := by
  rcases h with h | ⟨b, off, rfl, h2, h3⟩
  · exact Or.inl h
  · refine Or.inr ⟨b, off, rfl, Nat.lt_of_lt_of_le h2 k.size, fun j hj => ?_⟩
    obtain ⟨c0, c1, c2, c3⟩ := h3 j hj
    exact ⟨(k.cell (p := ⟨b, off + j * 4, none⟩) h2).trans c0, (k.cell (p := ⟨b, off + j * 4 + 1, none⟩) h2).trans c1, (k.cell (p := ⟨b, off + j * 4 + 2, none⟩) h2).trans c2, (k.cell (p := ⟨b, off + j * 4 + 3, none⟩) h2).trans c3⟩
theorem all_getD {α : Type} {l : List α} {p : α → Bool} {d : α} : l.all p = true ↔ ∀ j, j < l.length → p (l.getD j d) = true := by
  rw [List.all_eq_true]
  constructor
  · intro h j hj
    rw [List.getD_eq_getElem?_getD, List.getElem?_eq_getElem hj]
    exact h _ (List.getElem_mem hj)
  · intro h x hx
    obtain ⟨j, hj, e⟩ := List.getElem_of_mem hx
    have := h j hj
    rw [List.getD_eq_getElem?_getD, List.getElem?_eq_getElem hj] at this
    rw [← e]
    exact this
set_option maxHeartbeats 8000000 in
set_option maxRecDepth 100000 in
theorem haveform_any (a : Option Addr) (l : List Ins) (cap : Nat) (w : World) (hl : l.length ≤ 140737488355328) (h : RdC w a l) : Calls Try.prog 53 #[.slice a l.length cap] w fun e w' => e = .returned (.bool (l.all insB)) ∧ Below w.heap.size w w' := by
  obtain ⟨L, hL⟩ : ∃ L, L = l.length := ⟨_, rfl⟩
  rw [← hL] at hl ⊢
  have HL := hid hL
  have HR := hid h
  have HW := hid (fun n W => within_any n 1 36 W)
  have HO := hid (fun i W => opsfit_any i W)
  clear hL h
  have hLm : L ≤ maxLen := by unfold maxLen; omega
  go_enter Try.func53, Try.ntmps53
  go_wp2_with fail
  go_loopw [7] (fun i wr => ∃ k : Nat, k ≤ L ∧ i = .int .i64 k ∧ Hid (Below w.heap.size w wr) ∧ Hid (∀ j, j < k → insB (l.getD j default) = true)) (fun i _ => L - (intOf i).toNat)
  case atStart => exact ⟨0, Nat.zero_le _, rfl, hid (Below.refl _ _), hid (fun j hj => absurd hj (Nat.not_lt_zero j))⟩
  case round =>
    obtain ⟨k, hk, rfl, HB, HK⟩ := hrel
    by_cases hlt : k < L
    · rcases HR.out.low HB.out with h0 | ⟨b, off, rfl, hb, hc⟩
      · have := HL.out; omega
      obtain ⟨c0, c1, c2, c3⟩ := hc k (by rw [← HL.out]; exact hlt)
      clear hc
      obtain ⟨i, hi⟩ : ∃ i, i = l.getD k default := ⟨_, rfl⟩
      rw [← hi] at c0 c1 c2 c3
      have HI := hid hi
      obtain ⟨o, x, y, z⟩ := i
      clear hi
      simp only at c0 c1 c2 c3
      have g1 : (k : Int) < (L : Int) := by omega
      have g2 : (0 : Int) ≤ (k : Int) := by omega
      go_upto_region 4 with fail
      have HB2 := hid (belowA wr (.cells #[.int .i64 o, .int .i64 x, .int .i64 y, .int .i64 z] 68))
      have HX2 := hid (heap_alloc_new wr (.cells #[.int .i64 o, .int .i64 x, .int .i64 y, .int .i64 z] 68))
      have HL2 := hid (bch HB.out HB2.out)
      generalize wr.alloc (.cells #[.int .i64 o, .int .i64 x, .int .i64 y, .int .i64 z] 68) = W2 at *
      generalize wr.heap.size = g at *
      clear c0 c1 c2 c3
      have d0 : W2.cell? ⟨g, 0, none⟩ = some (.int .i64 o) := cell_of_row _ _ 0 _ _ _ HX2.out
      have d1 : W2.cell? ⟨g, 1, none⟩ = some (.int .i64 x) := cell_of_row _ _ 1 _ _ _ HX2.out
      have d2 : W2.cell? ⟨g, 2, none⟩ = some (.int .i64 y) := cell_of_row _ _ 2 _ _ _ HX2.out
      have d3 : W2.cell? ⟨g, 3, none⟩ = some (.int .i64 z) := cell_of_row _ _ 3 _ _ _ HX2.out
      have HWk := hid (HW.out o W2)
      cases h1 : inR o 1 36 with
      | false =>
        rw [h1] at HWk
        have HF := hid (show l.all insB = false from by
          cases hr : l.all insB with
          | false => rfl
          | true =>
            have := (all_getD (d := default)).1 hr k (by rw [← HL.out]; exact hlt)
            rw [← HI.out] at this
            unfold insB at this
            rw [h1] at this
            cases this)
        clear h1
        go_wp2_with fail
        refine HWk.out.mono ?_
        rintro e w1 ⟨rfl, rfl⟩
        go_wp2_with fail
        go_ret
        exact ⟨by rw [HF.out]; rfl, HL2.out⟩
      | true =>
        rw [h1] at HWk
        have H1 := hid h1
        clear h1
        go_wp2_with fail
        refine HWk.out.mono ?_
        rintro e w1 ⟨rfl, rfl⟩
        go_wp2_with fail
        refine (show Calls Try.prog 87 #[.agg #[.int .i64 o, .int .i64 x, .int .i64 y, .int .i64 z]] w1 _ from HO.out ⟨o, x, y, z⟩ w1).mono ?_
        rintro e w3 ⟨rfl, l3⟩
        have HL3 := hid (bch HL2.out l3)
        clear l3
        cases h2 : opsB ⟨o, x, y, z⟩ with
        | false =>
          have HF := hid (show l.all insB = false from by
            cases hr : l.all insB with
            | false => rfl
            | true =>
              have := (all_getD (d := default)).1 hr k (by rw [← HL.out]; exact hlt)
              rw [← HI.out] at this
              unfold insB at this
              rw [h2, Bool.and_false] at this
              cases this)
          clear h2
          go_wp2_with fail
          go_ret
          exact ⟨by rw [HF.out]; rfl, HL3.out⟩
        | true =>
          have H2 := hid h2
          clear h2
          go_wp2_with fail
          refine ⟨⟨k + 1, by omega, by go_num, hid HL3.out, hid fun j hj => ?_⟩, by simp [intOf]; omega⟩
          by_cases hj2 : j < k
          · exact HK.out j hj2
          · obtain rfl : j = k := by omega
            rw [← HI.out]
            unfold insB
            rw [H1.out, H2.out]
            rfl
    · obtain rfl : k = L := by omega
      have HF := hid (show l.all insB = true from (all_getD (d := default)).2 (by rw [← HL.out]; exact HK.out))
      go_wp2_with fail
      go_ret
      exact ⟨by rw [HF.out]; rfl, HB.out⟩
end Go.Proofs.Ytnclpdgbjefpmaa.L
