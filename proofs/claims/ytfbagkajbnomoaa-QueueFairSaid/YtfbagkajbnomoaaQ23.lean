import Derived.Test.YtfbagkajbnomoaaQ22
namespace Go.Proofs.Ytfbagkajbnomoaa.L
open Go.RowKit Rg Qu Go.Maps
set_option linter.unusedVariables false
set_option linter.unusedSimpArgs false
/-- What Restore answers. -/
def RstP (w : World) (l : List Wt) (next : Int) (e : Ending) (w' : World) : Prop :=
  (Oki l next ∧ ∃ qb v, e = .returned (.tuple #[.pointer (some ⟨qb, 0, none⟩), .int .i64 0]) ∧ w.heap.size ≤ qb ∧ Qm w' w.heap.size qb v l next ∧ Below w.heap.size w w') ∨
  (¬ Oki l next ∧ e = .returned (.tuple #[.pointer none, .int .i64 255]) ∧ Below w.heap.size w w')
theorem oki_iff (l : List Wt) (next : Int) : Oki l next ↔ (0 ≤ next ∧ next ≤ 1099511627776) ∧ l.length ≤ 2048 ∧ (∀ x, x ∈ l → mayP x next) ∧ (l.Pairwise (fun a b => a.name ≠ b.name) ∧ l.Pairwise (fun a b => a.seq ≠ b.seq)) ∧ OrdP l := by
  constructor
  · intro h
    refine ⟨⟨h.nx0, h.nx1⟩, h.few, fun x hx => ?_, ⟨(oki_okq h).names, (oki_okq h).seqs⟩, fun i hi => h.next i hi⟩
    obtain ⟨i, hi, rfl⟩ := List.getElem_of_mem hx
    exact h.may i hi
  · rintro ⟨⟨h0, h1⟩, h2, h3, ⟨h4, h5⟩, h6⟩
    exact ⟨h0, h1, h2, fun i hi => h3 _ (List.getElem_mem hi), fun i hi => h6 i hi, fun i j hi hj => ⟨List.pairwise_iff_getElem.1 h4 j i (by omega) hi hj, List.pairwise_iff_getElem.1 h5 j i (by omega) hi hj⟩⟩
set_option maxHeartbeats 8000000 in
set_option maxRecDepth 100000 in
theorem restore_any (l : List Wt) (a : Option Addr) (c : Nat) (next : Int) (w : World) (h : RdG wtV 6 w a l) (hl : l.length ≤ 140737488355328) (hnm : ∀ x, x ∈ l → x.name.size ≤ maxLen) :
    Calls Try.prog 27 #[.slice a l.length c, .int .i64 next] w fun e w' => RstP w l next e w' := by
  have HIF := hid (oki_iff l next)
  have HT := hid (istime_any next)
  by_cases h1 : 0 ≤ next ∧ next ≤ 1099511627776
  · rw [show decide (0 ≤ next ∧ next ≤ 1099511627776) = true by simpa using h1] at HT
    have H1 := hid h1
    have HR := hid h
    have HNM := hid hnm
    by_cases h2 : l.length ≤ 2048
    · obtain ⟨i4, hi, hz0, hz1, hz2⟩ := info_parts infoD
      obtain ⟨n, hn⟩ : ∃ n, n = l.length := ⟨_, rfl⟩
      have HN := hid hn
      rw [← hn] at h2 hl ⊢
      have hmax : n ≤ 9223372036854775807 := by omega
      have g0 : ¬ (2048 : Int) < (n : Int) := by omega
      have hmk := run_make (P := Try.prog) w 59 63 i4 _ Try.underlying59 hi hz0 .i64 .i64 (n : Int) (n : Int) (by omega) (Int.le_refl _) (by rw [hz2]; omega) (by omega)
      rw [hz1, Int.toNat_natCast] at hmk
      have HO := hid (made_own (w := w) (e := 63) (n := n) (by unfold maxLen; omega))
      have HB1 := hid (belowA w (.cells (madeCells (Value.agg #[.string ⟨#[]⟩, .int .i64 0, .int .i64 0, .int .i64 0, .int .i64 0, .bool false]).cells (n * 6)) 63))
      generalize w.alloc (.cells (madeCells (Value.agg #[.string ⟨#[]⟩, .int .i64 0, .int .i64 0, .int .i64 0, .int .i64 0, .bool false]).cells (n * 6)) 63) = W1 at *
      obtain ⟨N, hN⟩ : ∃ N, N = w.heap.size := ⟨_, rfl⟩
      rw [← hN] at hmk HO
      have HNN := hid hN
      clear h hn hi hz0 hz1 hz2 hN h1 hnm
      go_enter Try.func27, Try.ntmps27
      go_wp2_with fail
      refine (HT.out _).mono ?_
      rintro e w2 ⟨rfl, rfl⟩
      go_wp2_with fail
      clear hmk
      go_loopw [7, 22] (fun _ s8 wr => ∃ k : Nat, k ≤ n ∧ s8 = .int .i64 (k : Int) ∧ Hid (wr.ownsRow N 63 6 (.slice (some ⟨N, 0, none⟩) n n) n (rowX wtV (cpN l k)) ∧ Below w2.heap.size w2 wr)) (fun _ i _ => n - (intOf i).toNat)
      case atStart => exact ⟨0, Nat.zero_le _, rfl, hid ⟨by rw [cpN_zero, ← HN.out]; exact HO.out, HB1.out⟩⟩
      case round =>
        obtain ⟨k, hk, rfl, HS⟩ := hrel
        by_cases hlt : k < n
        · have g1 : (k : Int) < (n : Int) := by omega
          have g2 : (0 : Int) ≤ (k : Int) := by omega
          have hkl : k < l.length := by rw [← HN.out]; exact hlt
          have hkc : k < (cpN l k).length := by rw [cpN_len (by omega)]; exact hkl
          obtain ⟨b, off, ha, hgb, c0, c1, c2', c3, c4, c5⟩ := cell_w (HR.out.low HS.out.2) hkl
          subst ha
          obtain ⟨y, hy⟩ : ∃ y, y = l[k]'hkl := ⟨_, rfl⟩
          rw [← hy] at c0 c1 c2' c3 c4 c5
          have HST := hid (show cpN l (k + 1) = (cpN l k).set k y from by rw [hy]; exact cpN_set hkl)
          have HBX := hid (belowA wr (.cells #[.string y.name, .int .i64 y.pr, .int .i64 y.seq, .int .i64 y.tries, .int .i64 y.til, .bool y.asl] 40))
          have HXX := hid (heap_alloc_new wr (.cells #[.string y.name, .int .i64 y.pr, .int .i64 y.seq, .int .i64 y.tries, .int .i64 y.til, .bool y.asl] 40))
          have HKC := hid hkc
          have HKL := hid hkl
          clear hy hgb hkc
          go_upto_region 7 with fail
          generalize wr.alloc (.cells #[.string y.name, .int .i64 y.pr, .int .i64 y.seq, .int .i64 y.tries, .int .i64 y.til, .bool y.asl] 40) = V at *
          obtain ⟨pb, hpb⟩ : ∃ b, b = wr.heap.size := ⟨_, rfl⟩
          rw [← hpb] at HXX ⊢
          have hrow : V.ownsRow N 63 6 (.slice (some ⟨N, 0, none⟩) (cpN l k).length n) (cpN l k).length (rowX wtV (cpN l k)) := by
            rw [cpN_len (by have := HKL.out; omega), ← HN.out]; exact row_low HS.out.1 HBX.out
          have HBV := hid (bch HS.out.2 HBX.out)
          obtain ⟨o, ho⟩ : ∃ o, o = (cpN l k)[k]'HKC.out := ⟨_, rfl⟩
          have d0 : V.cell? ⟨N, k * 6, none⟩ = some (.string ((cpN l k)[k]'HKC.out).name) := row_cell hrow HKC.out (q := 0) (by decide)
          have d1 : V.cell? ⟨N, k * 6 + 1, none⟩ = some (.int .i64 ((cpN l k)[k]'HKC.out).pr) := row_cell hrow HKC.out (q := 1) (by decide)
          have d2 : V.cell? ⟨N, k * 6 + 2, none⟩ = some (.int .i64 ((cpN l k)[k]'HKC.out).seq) := row_cell hrow HKC.out (q := 2) (by decide)
          have d3 : V.cell? ⟨N, k * 6 + 3, none⟩ = some (.int .i64 ((cpN l k)[k]'HKC.out).tries) := row_cell hrow HKC.out (q := 3) (by decide)
          have d4 : V.cell? ⟨N, k * 6 + 4, none⟩ = some (.int .i64 ((cpN l k)[k]'HKC.out).til) := row_cell hrow HKC.out (q := 4) (by decide)
          have d5 : V.cell? ⟨N, k * 6 + 5, none⟩ = some (.bool ((cpN l k)[k]'HKC.out).asl) := row_cell hrow HKC.out (q := 5) (by decide)
          have fz : ∀ j, V.frozen? ⟨N, j, none⟩ = false := row_soft hrow
          have h6 : ((((((V.setCell ⟨N, k * 6, none⟩ (.string y.name)).setCell ⟨N, k * 6 + 1, none⟩ (.int .i64 y.pr)).setCell ⟨N, k * 6 + 2, none⟩ (.int .i64 y.seq)).setCell ⟨N, k * 6 + 3, none⟩ (.int .i64 y.tries)).setCell ⟨N, k * 6 + 4, none⟩ (.int .i64 y.til)).setCell ⟨N, k * 6 + 5, none⟩ (.bool y.asl)).ownsRow N 63 6 (.slice (some ⟨N, 0, none⟩) ((cpN l k).set k y).length n) ((cpN l k).set k y).length (rowX wtV ((cpN l k).set k y)) ∧ V.grownBy ((((((V.setCell ⟨N, k * 6, none⟩ (.string y.name)).setCell ⟨N, k * 6 + 1, none⟩ (.int .i64 y.pr)).setCell ⟨N, k * 6 + 2, none⟩ (.int .i64 y.seq)).setCell ⟨N, k * 6 + 3, none⟩ (.int .i64 y.tries)).setCell ⟨N, k * 6 + 4, none⟩ (.int .i64 y.til)).setCell ⟨N, k * 6 + 5, none⟩ (.bool y.asl)) (some N) := row_set6 hrow HKC.out y
          have H6 := hid h6
          rw [← ho] at d0 d1 d2 d3 d4 d5
          clear hpb ho hrow h6 c0 c1 c2' c3 c4 c5
          have x0 : V.cell? ⟨pb, 0, none⟩ = some (.string y.name) := cell_of_row V _ 0 _ _ _ HXX.out
          have x1 : V.cell? ⟨pb, 1, none⟩ = some (.int .i64 y.pr) := cell_of_row V _ 1 _ _ _ HXX.out
          have x2 : V.cell? ⟨pb, 2, none⟩ = some (.int .i64 y.seq) := cell_of_row V _ 2 _ _ _ HXX.out
          have x3 : V.cell? ⟨pb, 3, none⟩ = some (.int .i64 y.tries) := cell_of_row V _ 3 _ _ _ HXX.out
          have x4 : V.cell? ⟨pb, 4, none⟩ = some (.int .i64 y.til) := cell_of_row V _ 4 _ _ _ HXX.out
          have x5 : V.cell? ⟨pb, 5, none⟩ = some (.bool y.asl) := cell_of_row V _ 5 _ _ _ HXX.out
          go_wp2_with fail
          refine ⟨⟨k + 1, by omega, by go_num, hid ?_⟩, by simp [intOf]; omega⟩
          obtain ⟨o6, g6⟩ := H6.out
          rw [← HST.out, cpN_len (by have := HKL.out; omega), ← HN.out] at o6
          refine ⟨o6, ?_⟩
          have bb := HBV.out
          exact ⟨g6.os.trans bb.os, g6.tape.trans bb.tape, g6.output.trans bb.output, Nat.le_trans bb.size g6.size, fun j hj => (g6.block j (Nat.lt_of_lt_of_le hj bb.size) (fun e => by injection e with e; have := HNN.out; omega)).trans (bb.block j hj)⟩
        · have g1 : ¬ (k : Int) < (n : Int) := by omega
          have hkn : k = l.length := by rw [← HN.out]; omega
          have ho := HS.out.1
          rw [cpN_all l hkn] at ho
          have HO2 := hid ho
          have HB2 := hid HS.out.2
          obtain ⟨_, a2, c2, e2, r2⟩ := own_w (show wr.ownsRow N 63 6 (.slice (some ⟨N, 0, none⟩) n n) l.length (rowX wtV l) from by rw [← HN.out]; exact ho)
          injection e2 with e2 e2n e2c
          subst e2
          have HLW := hid (lawful_any l (some ⟨N, 0, none⟩) n next wr r2 (by have := HN.out; omega))
          have HRD := hid r2
          rw [← HN.out] at HLW
          clear e2n e2c hkn ho r2 HS
          go_wp2_with fail
          refine HLW.out.mono ?_
          rintro e w3 ⟨⟨z, rfl, hz⟩, b3⟩
          have HB3 := hid (bch HB2.out b3)
          have HO3 := hid (row_low HO2.out b3)
          have HR3 := hid (HRD.out.low b3)
          clear b3 HLW HB2 HO2 HRD
          cases z with
          | false =>
            have hnot := hid (show ¬ Oki l next from fun e => by
              have := hz.2 ((HIF.out.1 e).2.2.1)
              cases this)
            clear hz
            go_wp2_with fail
            go_ret2
            exact Or.inr ⟨hnot.out, by first | rfl | simp, HB3.out⟩
          | true =>
            have HMY := hid (hz.1 rfl)
            have HDS := hid (distinct_any l (some ⟨N, 0, none⟩) n w3 HR3.out (by have := HN.out; omega) HNM.out (fun x hx => by have := HMY.out x hx; unfold mayP at this; have := H1.out; omega))
            rw [← HN.out] at HDS
            clear hz
            go_wp2_with fail
            refine HDS.out.mono ?_
            rintro e w4 ⟨⟨z, rfl, hz⟩, b4⟩
            have HB4 := hid (bch HB3.out b4)
            have HO4 := hid (row_low HO3.out b4)
            have HR4 := hid (HR3.out.low b4)
            clear b4 HDS HB3 HO3 HR3
            cases z with
            | false =>
              have hnot := hid (show ¬ Oki l next from fun e => by
                have := hz.2 ((HIF.out.1 e).2.2.2.1)
                cases this)
              clear hz
              go_wp2_with fail
              go_ret2
              exact Or.inr ⟨hnot.out, by first | rfl | simp, HB4.out⟩
            | true =>
              have HDD := hid (hz.1 rfl)
              have HOR := hid (ordered_any l (some ⟨N, 0, none⟩) n w4 HR4.out (by have := HN.out; omega))
              rw [← HN.out] at HOR
              clear hz
              go_wp2_with fail
              refine HOR.out.mono ?_
              rintro e w5 ⟨⟨z, rfl, hz⟩, b5⟩
              have HB5 := hid (bch HB4.out b5)
              have HO5 := hid (row_low HO4.out b5)
              clear b5 HOR HB4 HO4 HR4
              cases z with
              | false =>
                have hnot := hid (show ¬ Oki l next from fun e => by
                  have := hz.2 ((HIF.out.1 e).2.2.2.2)
                  cases this)
                clear hz
                go_wp2_with fail
                go_ret2
                exact Or.inr ⟨hnot.out, by first | rfl | simp, HB5.out⟩
              | true =>
                have HYES := hid (show Oki l next from HIF.out.2 ⟨H1.out, by have := HN.out; omega, HMY.out, HDD.out, hz.1 rfl⟩)
                have HBX := hid (belowA w5 (.cells #[.slice (some ⟨N, 0, none⟩) n n, .int .i64 next] 61))
                have HXX := hid (heap_alloc_new w5 (.cells #[.slice (some ⟨N, 0, none⟩) n n, .int .i64 next] 61))
                clear hz
                go_wp2_with fail
                go_ret2
                refine Or.inl ⟨HYES.out, w5.heap.size, .slice (some ⟨N, 0, none⟩) n n, by first | rfl | simp, HB5.out.size, ⟨HXX.out, ?_, HB5.out.size⟩, bch HB5.out HBX.out⟩
                rw [← HN.out, ← HNN.out]
                exact row_low HO5.out HBX.out
    · have hnot := hid (show ¬ Oki l next from fun e => h2 e.few)
      obtain ⟨n, hn⟩ : ∃ n, n = l.length := ⟨_, rfl⟩
      rw [← hn] at h2 hl ⊢
      have g0 : (2048 : Int) < (n : Int) := by omega
      clear h hn h1 hnm HR HNM h2
      go_enter Try.func27, Try.ntmps27
      go_wp2_with fail
      refine (HT.out _).mono ?_
      rintro e w2 ⟨rfl, rfl⟩
      go_wp2_with fail
      go_ret2
      exact Or.inr ⟨hnot.out, by first | rfl | simp, Below.refl _ _⟩
  · rw [show decide (0 ≤ next ∧ next ≤ 1099511627776) = false by simpa using h1] at HT
    have hnot := hid (show ¬ Oki l next from fun e => h1 ⟨e.nx0, e.nx1⟩)
    obtain ⟨n, hn⟩ : ∃ n, n = l.length := ⟨_, rfl⟩
    rw [← hn] at hl ⊢
    clear h hn h1 hnm
    go_enter Try.func27, Try.ntmps27
    go_wp2_with fail
    refine (HT.out _).mono ?_
    rintro e w2 ⟨rfl, rfl⟩
    go_wp2_with fail
    go_ret2
    exact Or.inr ⟨hnot.out, by first | rfl | simp, Below.refl _ _⟩
end Go.Proofs.Ytfbagkajbnomoaa.L
