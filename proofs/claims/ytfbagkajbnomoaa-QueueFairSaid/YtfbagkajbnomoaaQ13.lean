import Derived.Test.YtfbagkajbnomoaaQ12
namespace Go.Proofs.Ytfbagkajbnomoaa.L
open Go.RowKit Rg Qu
set_option linter.unusedVariables false
set_option linter.unusedSimpArgs false
/-- A list filled up to a place. -/
def cpN (l : List Wt) (k : Nat) : List Wt := l.take k ++ List.replicate (l.length - k) default
theorem cpN_len {l : List Wt} {k : Nat} (hk : k ≤ l.length) : (cpN l k).length = l.length := by
  unfold cpN
  rw [List.length_append, List.length_take, List.length_replicate]
  omega
theorem cpN_set {l : List Wt} {k : Nat} (hk : k < l.length) : cpN l (k + 1) = (cpN l k).set k l[k] := by
  unfold cpN
  have e : (l.take k).length = k := by rw [List.length_take]; omega
  rw [List.set_append_right _ _ (by omega), e, Nat.sub_self, show l.length - k = (l.length - (k + 1)) + 1 by omega, List.replicate_succ, List.set_cons_zero, List.take_succ_eq_append_getElem hk, List.append_assoc]
  rfl
theorem cpN_all (l : List Wt) {k : Nat} (hk : k = l.length) : cpN l k = l := by
  subst hk
  unfold cpN
  rw [List.take_length, Nat.sub_self, List.replicate_zero, List.append_nil]
theorem cpN_zero (l : List Wt) : cpN l 0 = List.replicate l.length default := by unfold cpN; simp
theorem rowW_rep (n : Nat) : (madeCells (Value.agg #[.string ⟨#[]⟩, .int .i64 0, .int .i64 0, .int .i64 0, .int .i64 0, .bool false]).cells (n * 6)).toList = rowX wtV (List.replicate n default) := by
  apply List.ext_getElem?
  intro i
  by_cases hi : i < n * 6
  · have h1 := rowX_at wtV_size (List.replicate n (default : Wt)) (j := i / 6) (q := i % 6) (by rw [List.length_replicate]; omega) (by omega)
    rw [show i / 6 * 6 + i % 6 = i by omega] at h1
    rw [h1, List.getD_eq_getElem?_getD, List.getElem?_replicate, if_pos (by omega), Array.getElem?_toList, Array.getElem?_eq_getElem (by rw [size_madeCells]; exact hi)]
    congr 1
    simp only [madeCells, Array.getElem_map, Array.getElem_range]
    have hq : i % 6 = 0 ∨ i % 6 = 1 ∨ i % 6 = 2 ∨ i % 6 = 3 ∨ i % 6 = 4 ∨ i % 6 = 5 := by omega
    have hs : (Value.agg #[.string ⟨#[]⟩, .int .i64 0, .int .i64 0, .int .i64 0, .int .i64 0, .bool false]).cells.size = 6 := rfl
    rw [hs]
    rcases hq with e | e | e | e | e | e <;> rw [e] <;> rfl
  · rw [List.getElem?_eq_none (by rw [Array.length_toList, size_madeCells]; omega), List.getElem?_eq_none (by rw [rowW_len, List.length_replicate]; omega)]
theorem made_own {w : World} {e : TypeId} {n : Nat} (hn : n ≤ maxLen) : (w.alloc (.cells (madeCells (Value.agg #[.string ⟨#[]⟩, .int .i64 0, .int .i64 0, .int .i64 0, .int .i64 0, .bool false]).cells (n * 6)) e)).ownsRow w.heap.size e 6 (.slice (some ⟨w.heap.size, 0, none⟩) n n) n (rowX wtV (List.replicate n default)) := by
  refine ⟨by rw [rowW_len, List.length_replicate], Or.inr ⟨w.heap.size, n, _, rfl, Nat.le_refl _, heap_alloc_new w _, Nat.le_refl _, hn, by rw [size_madeCells], ?_⟩⟩
  rw [rowW_rep, List.take_of_length_le (by rw [rowW_len, List.length_replicate]; exact Nat.le_refl _)]
/-- All six cells of an element are written. -/
theorem row_set6 {W : World} {B g cp : Nat} {e : TypeId} {l : List Wt} (h : W.ownsRow B e 6 (.slice (some ⟨g, 0, none⟩) l.length cp) l.length (rowX wtV l)) {k : Nat} (hk : k < l.length) (y : Wt) :
    ((((((W.setCell ⟨g, k * 6, none⟩ (.string y.name)).setCell ⟨g, k * 6 + 1, none⟩ (.int .i64 y.pr)).setCell ⟨g, k * 6 + 2, none⟩ (.int .i64 y.seq)).setCell ⟨g, k * 6 + 3, none⟩ (.int .i64 y.tries)).setCell ⟨g, k * 6 + 4, none⟩ (.int .i64 y.til)).setCell ⟨g, k * 6 + 5, none⟩ (.bool y.asl)).ownsRow B e 6 (.slice (some ⟨g, 0, none⟩) (l.set k y).length cp) (l.set k y).length (rowX wtV (l.set k y)) ∧
    W.grownBy ((((((W.setCell ⟨g, k * 6, none⟩ (.string y.name)).setCell ⟨g, k * 6 + 1, none⟩ (.int .i64 y.pr)).setCell ⟨g, k * 6 + 2, none⟩ (.int .i64 y.seq)).setCell ⟨g, k * 6 + 3, none⟩ (.int .i64 y.tries)).setCell ⟨g, k * 6 + 4, none⟩ (.int .i64 y.til)).setCell ⟨g, k * 6 + 5, none⟩ (.bool y.asl)) (some g) := by
  have hs : ∀ (m : List Wt) (a b : Wt), (m.set k a).set k b = m.set k b := fun m a b => List.set_set ..
  have s0 := row_setc h hk (q := 0) (by decide) (.string y.name) { l[k] with name := y.name } rfl rfl
  have s1 := row_setc s0.1 (by rw [List.length_set]; exact hk) (q := 1) (by decide) (.int .i64 y.pr) { l[k] with name := y.name, pr := y.pr } (by rw [List.getElem_set_self]; rfl) (hs _ _ _).symm
  have s2 := row_setc s1.1 (by rw [List.length_set]; exact hk) (q := 2) (by decide) (.int .i64 y.seq) { l[k] with name := y.name, pr := y.pr, seq := y.seq } (by rw [List.getElem_set_self]; rfl) (hs _ _ _).symm
  have s3 := row_setc s2.1 (by rw [List.length_set]; exact hk) (q := 3) (by decide) (.int .i64 y.tries) { l[k] with name := y.name, pr := y.pr, seq := y.seq, tries := y.tries } (by rw [List.getElem_set_self]; rfl) (hs _ _ _).symm
  have s4 := row_setc s3.1 (by rw [List.length_set]; exact hk) (q := 4) (by decide) (.int .i64 y.til) { l[k] with name := y.name, pr := y.pr, seq := y.seq, tries := y.tries, til := y.til } (by rw [List.getElem_set_self]; rfl) (hs _ _ _).symm
  have s5 := row_setc s4.1 (by rw [List.length_set]; exact hk) (q := 5) (by decide) (.bool y.asl) y (by rw [List.getElem_set_self]; rfl) (hs _ _ _).symm
  exact ⟨s5.1, gb_trans s0.2 (gb_trans s1.2 (gb_trans s2.2 (gb_trans s3.2 (gb_trans s4.2 s5.2))))⟩
set_option maxHeartbeats 4000000 in
set_option maxRecDepth 100000 in
theorem list_any {w : World} {B qb : Nat} {v : Value} {l : List Wt} {nx : Int} (h : Qm w B qb v l nx) (hl : l.length ≤ 2048) :
    Calls Try.prog 14 #[.pointer (some ⟨qb, 0, none⟩)] w fun e w' => ∃ v', e = .returned v' ∧ w'.ownsRow w.heap.size 40 6 v' l.length (rowX wtV l) ∧ Below w.heap.size w w' := by
  obtain ⟨i4, hi, hz0, hz1, hz2⟩ := info_parts infoW
  obtain ⟨_, a, c, rfl, hr⟩ := own_w h.row
  have HQ := hid h
  have HLN := hid (len_any h hl)
  obtain ⟨n, hn⟩ : ∃ n, n = l.length := ⟨_, rfl⟩
  have HN := hid hn
  rw [← hn] at HQ HLN hl ⊢
  have hmax : n ≤ 9223372036854775807 := by omega
  have hmk := run_make (P := Try.prog) w 27 40 i4 _ Try.underlying27 hi hz0 .i64 .i64 (n : Int) (n : Int) (by omega) (Int.le_refl _) (by rw [hz2]; omega) (by omega)
  rw [hz1, Int.toNat_natCast] at hmk
  have HO := hid (made_own (w := w) (e := 40) (n := n) (by unfold maxLen; omega))
  have HB1 := hid (belowA w (.cells (madeCells (Value.agg #[.string ⟨#[]⟩, .int .i64 0, .int .i64 0, .int .i64 0, .int .i64 0, .bool false]).cells (n * 6)) 40))
  generalize w.alloc (.cells (madeCells (Value.agg #[.string ⟨#[]⟩, .int .i64 0, .int .i64 0, .int .i64 0, .int .i64 0, .bool false]).cells (n * 6)) 40) = W1 at *
  obtain ⟨N, hN⟩ : ∃ N, N = w.heap.size := ⟨_, rfl⟩
  rw [← hN] at hmk HO
  have HNN := hid hN
  clear h hr hn hi hz0 hz1 hz2 hN
  go_enter Try.func14, Try.ntmps14
  go_wp2_with fail
  refine HLN.out.mono ?_
  rintro e w2 ⟨rfl, rfl⟩
  go_wp2_with fail
  clear hmk
  go_loopw [4, 10] (fun _ s8 wr => ∃ k : Nat, k ≤ n ∧ s8 = .int .i64 (k : Int) ∧ Hid (wr.ownsRow N 40 6 (.slice (some ⟨N, 0, none⟩) n n) n (rowX wtV (cpN l k)) ∧ Below w2.heap.size w2 wr)) (fun _ i _ => n - (intOf i).toNat)
  case atStart => exact ⟨0, Nat.zero_le _, rfl, hid ⟨by rw [cpN_zero, ← HN.out]; exact HO.out, HB1.out⟩⟩
  case round =>
    obtain ⟨k, hk, rfl, HS⟩ := hrel
    by_cases hlt : k < n
    · have g1 : (k : Int) < (n : Int) := by omega
      have g2 : (0 : Int) ≤ (k : Int) := by omega
      have hkl : k < l.length := by rw [← HN.out]; exact hlt
      have hkc : k < (cpN l k).length := by rw [cpN_len (by omega)]; exact hkl
      have HQR := hid (HQ.out.low HS.out.2)
      have y1 : wr.cell? ⟨qb, 0, none⟩ = some (.slice a n c) := cell_of_row wr _ 0 _ _ _ HQR.out.box
      obtain ⟨_, a2, c2, e2, r2⟩ := own_w HQR.out.row
      obtain ⟨g, off, ha, hgb, c0, c1, c2', c3, c4, c5⟩ := cell_w r2 hkl
      injection e2 with e2 e2n e3
      subst e2 ha
      clear e2n e3 r2 hgb
      have hrow : wr.ownsRow N 40 6 (.slice (some ⟨N, 0, none⟩) (cpN l k).length n) (cpN l k).length (rowX wtV (cpN l k)) := by
        rw [cpN_len (by omega), ← HN.out]; exact HS.out.1
      obtain ⟨o, ho⟩ : ∃ o, o = (cpN l k)[k]'hkc := ⟨_, rfl⟩
      have d0 : wr.cell? ⟨N, k * 6, none⟩ = some (.string ((cpN l k)[k]'hkc).name) := row_cell hrow hkc (q := 0) (by decide)
      have d1 : wr.cell? ⟨N, k * 6 + 1, none⟩ = some (.int .i64 ((cpN l k)[k]'hkc).pr) := row_cell hrow hkc (q := 1) (by decide)
      have d2 : wr.cell? ⟨N, k * 6 + 2, none⟩ = some (.int .i64 ((cpN l k)[k]'hkc).seq) := row_cell hrow hkc (q := 2) (by decide)
      have d3 : wr.cell? ⟨N, k * 6 + 3, none⟩ = some (.int .i64 ((cpN l k)[k]'hkc).tries) := row_cell hrow hkc (q := 3) (by decide)
      have d4 : wr.cell? ⟨N, k * 6 + 4, none⟩ = some (.int .i64 ((cpN l k)[k]'hkc).til) := row_cell hrow hkc (q := 4) (by decide)
      have d5 : wr.cell? ⟨N, k * 6 + 5, none⟩ = some (.bool ((cpN l k)[k]'hkc).asl) := row_cell hrow hkc (q := 5) (by decide)
      have fz : ∀ j, wr.frozen? ⟨N, j, none⟩ = false := row_soft hrow
      have H6 := hid (row_set6 hrow hkc l[k])
      rw [← ho] at d0 d1 d2 d3 d4 d5
      have HKL := hid hkl
      obtain ⟨y, hy⟩ : ∃ y, y = l[k]'hkl := ⟨_, rfl⟩
      rw [← hy] at c0 c1 c2' c3 c4 c5 H6
      have HST := hid (show cpN l (k + 1) = (cpN l k).set k y from by rw [hy]; exact cpN_set hkl)
      clear ho hrow hkc hy hkl
      go_wp2_with fail
      refine ⟨⟨k + 1, by omega, by go_num, hid ?_⟩, by simp [intOf]; omega⟩
      obtain ⟨o6, g6⟩ := H6.out
      rw [← HST.out, cpN_len (by have := HKL.out; omega), ← HN.out] at o6
      refine ⟨o6, ?_⟩
      have b := HS.out.2
      exact ⟨g6.os.trans b.os, g6.tape.trans b.tape, g6.output.trans b.output, Nat.le_trans b.size g6.size, fun j hj => (g6.block j (Nat.lt_of_lt_of_le hj b.size) (fun e => by injection e with e; have := HNN.out; omega)).trans (b.block j hj)⟩
    · have g1 : ¬ (k : Int) < (n : Int) := by omega
      have hkn : k = l.length := by rw [← HN.out]; omega
      have HKN := hid hkn
      clear hkn
      go_wp2_with fail
      go_ret
      refine ⟨_, by first | rfl | simp, ?_, HS.out.2⟩
      have o := HS.out.1
      rw [cpN_all l HKN.out] at o
      rw [← HNN.out]
      exact o
end Go.Proofs.Ytfbagkajbnomoaa.L
