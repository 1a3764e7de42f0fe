import Derived.Test.YtlhlpamciafocaaGreatDoorMgAV
namespace Go.Proofs.YtlhlpamciafocaaGreatDoor.L.Sw
open Go.RowKit
set_option linter.unusedVariables false
set_option maxHeartbeats 4000000 in
theorem toodeep_any (k : Int) (w : World) : Calls Tryz.prog 29 #[.int .i64 k] w fun e w' => e = .returned (.bool (decide (32 < k))) ∧ w' = w := by
  go_enter Tryz.func29, Tryz.ntmps29
  go_wp2
  all_goals go_ret
  all_goals refine ⟨ret_bool ?_, rfl⟩
  all_goals first | (simp_all; done) | (simp_all; omega) | (rw [Bool.eq_iff_iff]; simp_all; done) | (rw [Bool.eq_iff_iff]; simp_all; omega)
set_option maxHeartbeats 4000000 in
theorem grouped_any (k n : Int) (w : World) : Calls Tryz.prog 49 #[.int .i64 k, .int .i64 n] w fun e w' => e = .returned (.bool (brB k n)) ∧ w' = w := by
  rcases kind_cases k with (rfl | rfl | rfl | rfl | rfl | rfl | rfl | rfl | rfl | rfl | rfl | rfl | rfl | rfl | rfl | rfl | rfl | rfl | rfl | rfl) | h
  case inr =>
    have e1 : (k == 1) = false := by simp; omega
    have e2 : (k == 2) = false := by simp; omega
    have e3 : (k == 3) = false := by simp; omega
    have e4 : (k == 4) = false := by simp; omega
    have e5 : (k == 5) = false := by simp; omega
    have e6 : (k == 6) = false := by simp; omega
    have e7 : (k == 7) = false := by simp; omega
    have e8 : (k == 8) = false := by simp; omega
    have e9 : (k == 9) = false := by simp; omega
    have e10 : (k == 10) = false := by simp; omega
    have e11 : (k == 11) = false := by simp; omega
    have e12 : (k == 12) = false := by simp; omega
    have e13 : (k == 13) = false := by simp; omega
    have e14 : (k == 14) = false := by simp; omega
    have e15 : (k == 15) = false := by simp; omega
    have e16 : (k == 16) = false := by simp; omega
    have e17 : (k == 17) = false := by simp; omega
    have e18 : (k == 18) = false := by simp; omega
    have e19 : (k == 19) = false := by simp; omega
    have e20 : (k == 20) = false := by simp; omega
    have ef : brB k n = false := by unfold brB; repeat rw [if_neg (by omega)]
    rw [ef]
    clear ef h
    go_enter Tryz.func49, Tryz.ntmps49
    go_wp2
    all_goals go_ret
    all_goals refine ⟨ret_bool ?_, rfl⟩
    all_goals first | (simp_all; done) | (simp_all; omega) | (rw [Bool.eq_iff_iff]; simp_all; done) | (rw [Bool.eq_iff_iff]; simp_all; omega)
  all_goals
    go_enter Tryz.func49, Tryz.ntmps49
    go_wp2
    all_goals go_ret
    all_goals refine ⟨ret_bool ?_, rfl⟩
    all_goals unfold brB
    all_goals first | (simp_all; done) | (simp_all; omega) | (rw [Bool.eq_iff_iff]; simp_all; done) | (rw [Bool.eq_iff_iff]; simp_all; omega)
set_option maxHeartbeats 4000000 in
theorem opens_any (k : Int) (w : World) : Calls Tryz.prog 58 #[.int .i64 k] w fun e w' => e = .returned (.bool (opB k)) ∧ w' = w := by
  rcases kind_cases k with (rfl | rfl | rfl | rfl | rfl | rfl | rfl | rfl | rfl | rfl | rfl | rfl | rfl | rfl | rfl | rfl | rfl | rfl | rfl | rfl) | h
  case inr =>
    have e1 : (k == 1) = false := by simp; omega
    have e2 : (k == 2) = false := by simp; omega
    have e3 : (k == 3) = false := by simp; omega
    have e4 : (k == 4) = false := by simp; omega
    have e5 : (k == 5) = false := by simp; omega
    have e6 : (k == 6) = false := by simp; omega
    have e7 : (k == 7) = false := by simp; omega
    have e8 : (k == 8) = false := by simp; omega
    have e9 : (k == 9) = false := by simp; omega
    have e10 : (k == 10) = false := by simp; omega
    have e11 : (k == 11) = false := by simp; omega
    have e12 : (k == 12) = false := by simp; omega
    have e13 : (k == 13) = false := by simp; omega
    have e14 : (k == 14) = false := by simp; omega
    have e15 : (k == 15) = false := by simp; omega
    have e16 : (k == 16) = false := by simp; omega
    have e17 : (k == 17) = false := by simp; omega
    have e18 : (k == 18) = false := by simp; omega
    have e19 : (k == 19) = false := by simp; omega
    have e20 : (k == 20) = false := by simp; omega
    have ef : opB k = false := by unfold opB; repeat rw [if_neg (by omega)]
    rw [ef]
    clear ef h
    go_enter Tryz.func58, Tryz.ntmps58
    go_wp2
    all_goals go_ret
    all_goals refine ⟨ret_bool ?_, rfl⟩
    all_goals first | (simp_all; done) | (simp_all; omega) | (rw [Bool.eq_iff_iff]; simp_all; done) | (rw [Bool.eq_iff_iff]; simp_all; omega)
  all_goals
    go_enter Tryz.func58, Tryz.ntmps58
    go_wp2
    all_goals go_ret
    all_goals refine ⟨ret_bool ?_, rfl⟩
    all_goals unfold opB
    all_goals first | (simp_all; done) | (simp_all; omega) | (rw [Bool.eq_iff_iff]; simp_all; done) | (rw [Bool.eq_iff_iff]; simp_all; omega)
set_option maxHeartbeats 4000000 in
theorem between_any (k n : Int) (w : World) : Calls Tryz.prog 41 #[.int .i64 k, .int .i64 n] w fun e w' => e = .returned (.int .i64 ((if opB k then 1 else 0) + (if brB k n then 1 else 0))) ∧ w' = w := by
  have HO := hid opens_any
  have HG := hid grouped_any
  go_enter Tryz.func41, Tryz.ntmps41
  go_wp2_with (first | (go_at_call 58; refine (HO.out _ _).mono ?_; rintro e w1 ⟨rfl, hww⟩; have hw2 := hww.symm; clear hww; subst hw2) | (go_at_call 49; refine (HG.out _ _ _).mono ?_; rintro e w1 ⟨rfl, hww⟩; have hw2 := hww.symm; clear hww; subst hw2))
  all_goals go_ret
  all_goals simp_all
end Go.Proofs.YtlhlpamciafocaaGreatDoor.L.Sw
namespace Go.Proofs.YtlhlpamciafocaaGreatDoor.L.Sw
open Go.RowKit
set_option linter.unusedVariables false
set_option maxHeartbeats 4000000 in
set_option maxRecDepth 100000 in
/-- slices.Equal of two lists of numbers. -/
theorem equal_any (a b : Option Addr) (A B : List Int) (ca cb : Nat) (w : World) (ha : RdI w a A) (hb : RdI w b B) (hA : A.length ≤ 140737488355328) :
    Calls Tryz.prog 37 #[.slice a A.length ca, .slice b B.length cb] w fun e w' => e = .returned (.bool (decide (A = B))) ∧ ∃ m, w' = w.drewN m := by
  by_cases hl : A.length = B.length
  · have HAB : A = B ↔ ∀ j, j < A.length → A.getD j 0 = B.getD j 0 := by
      constructor
      · intro h j _
        rw [h]
      · intro h
        refine List.ext_getElem hl fun j h1 h2 => ?_
        have := h j h1
        rw [List.getD_eq_getElem?_getD, List.getD_eq_getElem?_getD, List.getElem?_eq_getElem h1, List.getElem?_eq_getElem h2] at this
        exact this
    have hbl : B.length = A.length := hl.symm
    rw [hbl]
    obtain ⟨L, hL⟩ : ∃ L, L = A.length := ⟨_, rfl⟩
    rw [← hL] at hA HAB hbl ⊢
    have HEQ := hid HAB
    have RA := hid ha
    have RB := hid hb
    have HLA := hid hL
    have HLB := hid hbl
    clear HAB ha hb hL hbl hl
    go_enter Tryz.func37, Tryz.ntmps37
    go_wp2
    go_loopw [13] (fun i wr => ∃ k : Nat, k ≤ L ∧ i = .int .i64 k ∧ Hid (∃ m, wr = w.drewN m) ∧ Hid (∀ j, j < k → A.getD j 0 = B.getD j 0)) (fun i _ => L - (intOf i).toNat)
    case atStart => exact ⟨0, Nat.zero_le _, rfl, hid ⟨0, rfl⟩, hid (fun j hj => by omega)⟩
    case round =>
      obtain ⟨k, hk, rfl, HB, HE⟩ := hrel
      by_cases hlt : k < L
      · obtain ⟨m0, hm0⟩ := HB.out
        have r1 : RdI wr a A := by rw [hm0]; exact RA.out
        have r2 : RdI wr b B := by rw [hm0]; exact RB.out
        have HM := hid hm0
        clear hm0
        rcases r1 with h0 | ⟨b1, o1, rfl, hb1, hc1⟩
        · have := HLA.out; omega
        rcases r2 with h0 | ⟨b2, o2, rfl, hb2, hc2⟩
        · have := HLB.out; omega
        have p0 := hc1 k (by rw [← HLA.out]; exact hlt)
        have q0 := hc2 k (by rw [HLB.out]; exact hlt)
        obtain ⟨x, hx⟩ : ∃ x, x = A.getD k 0 := ⟨_, rfl⟩
        obtain ⟨y, hy⟩ : ∃ y, y = B.getD k 0 := ⟨_, rfl⟩
        rw [← hx] at p0
        rw [← hy] at q0
        have HX := hid hx
        have HY := hid hy
        clear hc1 hc2 hx hy
        have g1 : (k : Int) < (L : Int) := by omega
        have g2 : (0 : Int) ≤ (k : Int) := by omega
        by_cases exy : x = y
        · have HXY := hid exy
          have e1 : (x != y) = false := by simp [exy]
          clear exy
          go_wp2_with fail
          go_quiet (fail)
          go_wp2_with fail
          refine ⟨⟨k + 1, by omega, by go_num, hid ⟨m0 + nq, by rw [HM.out, World.drewN_drewN]⟩, hid (fun j hj => ?_)⟩, by simp [intOf]; omega⟩
          by_cases e : j = k
          · rw [e, ← HX.out, ← HY.out, HXY.out]
          · exact HE.out j (by omega)
        · have e1 : (x != y) = true := by simp [exy]
          go_wp2_with fail
          go_quiet (fail)
          go_wp2_with fail
          go_ret
          refine ⟨ret_bool ?_, m0 + nq, by rw [HM.out, World.drewN_drewN]⟩
          have hne : ¬ A = B := fun h => exy (by rw [HX.out, HY.out, h])
          simp [hne]
      · have hkl : k = L := by omega
        subst hkl
        go_wp2_with fail
        go_ret
        refine ⟨ret_bool ?_, HB.out⟩
        have he := HEQ.out.2 HE.out
        simp [he]
  · have hne : ¬ A = B := fun h => hl (by rw [h])
    have h1 : ((A.length : Int) != (B.length : Int)) = true := by simp; omega
    go_enter Tryz.func37, Tryz.ntmps37
    go_wp2
    go_ret
    exact ⟨ret_bool (by simp [hne]), 0, rfl⟩
end Go.Proofs.YtlhlpamciafocaaGreatDoor.L.Sw
namespace Go.Proofs.YtlhlpamciafocaaGreatDoor.L.Sw
open Go.RowKit
set_option linter.unusedVariables false
set_option maxRecDepth 100000 in
theorem run_cl (a b c d e f g : Value) (w : World) : (Instr.field 88 (.agg #[a, b, c, d, e, f, g]) 0).run Tryz.prog w = .ok a w := by kernel_rfl
set_option maxHeartbeats 8000000 in
set_option maxRecDepth 100000 in
theorem right_any (a : Option Addr) (T : List Pt) (cap : Nat) (p : Pt) (ka : Option Addr) (kc : Nat) (w : World) (hT : PL w a T) (hk : RdI w ka p.kids) (hin : ∀ x, x ∈ p.kids → 0 ≤ x ∧ x < T.length) (hl : p.kids.length ≤ 1000) (hL : T.length ≤ 1000) :
    Calls Tryz.prog 38 #[.slice a T.length cap, .agg #[.int .i64 p.kind, .string p.text, .int .i64 p.num, .slice ka p.kids.length kc]] w fun e w' => ∃ b, e = .returned (.bool b) ∧ (b = true ↔ tabP T p) ∧ Below w.heap.size w w' := by
  obtain ⟨kd, tx, nu, ks⟩ := p
  simp only at *
  obtain ⟨n, hn⟩ : ∃ n, n = ks.length := ⟨_, rfl⟩
  obtain ⟨L, hLe⟩ : ∃ L, L = T.length := ⟨_, rfl⟩
  have HT := hid hT
  have HK := hid hk
  have HIN := hid hin
  have HN := hid hn
  have HL := hid hLe
  have HFO := hid formof_any
  have HTK := hid takes_any
  have HFI := hid fits_any
  rw [← hn] at hl ⊢
  rw [← hLe] at hL ⊢
  clear hT hk hin hn hLe
  have hB0 := belowA w (.cells #[.int .i64 kd, .string tx, .int .i64 nu, .slice ka n kc] 50)
  have hX0 := heap_alloc_new w (.cells #[.int .i64 kd, .string tx, .int .i64 nu, .slice ka n kc] 50)
  have HB0 := hid hB0
  have HX0 := hid hX0
  clear hB0 hX0
  have RC := run_cl
  go_enter Tryz.func38, Tryz.ntmps38
  unfold fmv at HFO
  go_upto_region 2 with (go_at_call 39; refine (HFO.out _ _).mono ?_; rintro e w1 ⟨rfl, l1⟩; have L1 := hid l1; clear l1; have hX1 := (L1.out.block _ (lt_blk HX0.out)).trans HX0.out; have ⟨x0, x1, x2, x3⟩ := cells4 hX1)
  have hB5 := belowA w1 (.cells #[.int .i64 (fmO kd).cl, .int .i64 (fmO kd).kd, .int .i64 (fmO kd).ls, .int .i64 (fmO kd).ms, .bool (fmO kd).tx, .int .i64 (fmO kd).lo, .int .i64 (fmO kd).hi] 88)
  have hX5 := heap_alloc_new w1 (.cells #[.int .i64 (fmO kd).cl, .int .i64 (fmO kd).kd, .int .i64 (fmO kd).ls, .int .i64 (fmO kd).ms, .bool (fmO kd).tx, .int .i64 (fmO kd).lo, .int .i64 (fmO kd).hi] 88)
  have HX1 := hid ((hB5.block _ (lt_blk hX1)).trans hX1)
  have HB5 := hid (show Below w.heap.size w (w1.alloc (.cells #[.int .i64 (fmO kd).cl, .int .i64 (fmO kd).kd, .int .i64 (fmO kd).ls, .int .i64 (fmO kd).ms, .bool (fmO kd).tx, .int .i64 (fmO kd).lo, .int .i64 (fmO kd).hi] 88)) from (HB0.out.trans (L1.out.mono (by simp))).trans (hB5.mono (by have := L1.out.size; simp at this; omega)))
  have hlt5 : w.heap.size ≠ w1.heap.size := by have := L1.out.size; simp at this; omega
  have HX5 := hid hX5
  have HS5 := hid (show (w1.alloc (.cells #[.int .i64 (fmO kd).cl, .int .i64 (fmO kd).kd, .int .i64 (fmO kd).ls, .int .i64 (fmO kd).ms, .bool (fmO kd).tx, .int .i64 (fmO kd).lo, .int .i64 (fmO kd).hi] 88)).heap.size = w1.heap.size + 1 by simp)
  unfold fmv at HTK HFI
  clear hB5 hX5 hX1 L1 x0 x1 x2 x3 HB0 HX0
  generalize w1.alloc (.cells #[.int .i64 (fmO kd).cl, .int .i64 (fmO kd).kd, .int .i64 (fmO kd).ls, .int .i64 (fmO kd).ms, .bool (fmO kd).tx, .int .i64 (fmO kd).lo, .int .i64 (fmO kd).hi] 88) = W5 at *
  generalize w1.heap.size = b5 at *
  have ⟨x0, x1, x2, x3⟩ := cells4 HX1.out
  go_wp2_with fail
  clear x0 x1 x2 x3
  go_loopw [14] (fun i wr => ∃ k : Nat, k ≤ n ∧ i = .int .i64 k ∧ Hid (Below W5.heap.size W5 wr) ∧ Hid (∀ j, j < k → takesB (fmO kd) (fmO (pt T (ks.getD j 0).toNat).kind).cl = true)) (fun i _ => n - (intOf i).toNat)
  case atStart => exact ⟨0, Nat.zero_le _, rfl, hid (Below.refl _ _), hid (fun j hj => by omega)⟩
  case round =>
    obtain ⟨k, hk, rfl, HB, HE⟩ := hrel
    have hx5 := (HB.out.block _ (lt_blk HX5.out)).trans HX5.out
    have ⟨f0, f1, f2, f3, f4, f5, f6⟩ := cells7 hx5
    by_cases hlt : k < n
    · have r1 := (HK.out.low HB5.out (Nat.le_refl _)).low HB.out (Nat.le_refl _)
      have r2 := (HT.out.low HB5.out).low HB.out
      rcases r1 with h0 | ⟨b1, o1, rfl, hb1, hc1⟩
      · have := HN.out; omega
      have hkn : k < ks.length := by rw [← HN.out]; exact hlt
      have p0 := hc1 k hkn
      have hmem : ks.getD k 0 ∈ ks := by rw [List.getD_eq_getElem?_getD, List.getElem?_eq_getElem hkn]; exact List.getElem_mem hkn
      have hx := HIN.out _ hmem
      obtain ⟨x, hxe⟩ : ∃ x : Nat, ks.getD k 0 = x := ⟨(ks.getD k 0).toNat, by omega⟩
      rw [hxe] at p0 hx
      have HXE := hid hxe
      rcases r2 with h0 | ⟨b2, o2, rfl, hb2, hc2⟩
      · have := HL.out; omega
      obtain ⟨_, _, q0, _⟩ := hc2 x (by omega)
      have g3 : (x : Int) < (L : Int) := by have := HL.out; omega
      clear hc1 hc2 hmem hxe hx hkn
      have g1 : (k : Int) < (n : Int) := by omega
      have g2 : (0 : Int) ≤ (k : Int) := by omega
      have g4 : (0 : Int) ≤ (x : Int) := by omega
      generalize hkk : (pt T x).kind = kk at *
      have HKK := hid hkk
      clear hkk
      go_wp2_with fail
      go_region_held3 (fun Y => Y.cell? ⟨b5, 0, none⟩ = some (.int .i64 (fmO kd).cl) ∧ Y.cell? ⟨b5, 1, none⟩ = some (.int .i64 (fmO kd).kd) ∧ Y.cell? ⟨b5, 2, none⟩ = some (.int .i64 (fmO kd).ls) ∧ Y.cell? ⟨b5, 3, none⟩ = some (.int .i64 (fmO kd).ms) ∧ Y.cell? ⟨b5, 4, none⟩ = some (.bool (fmO kd).tx) ∧ Y.cell? ⟨b5, 5, none⟩ = some (.int .i64 (fmO kd).lo) ∧ Y.cell? ⟨b5, 6, none⟩ = some (.int .i64 (fmO kd).hi) ∧ Y.cell? ⟨b2, o2 + x * 4, none⟩ = some (.int .i64 kk))
        (first | exact ⟨f0, f1, f2, f3, f4, f5, f6, q0⟩ | exact T2 | exact T3)
        (first
          | (go_at_call 39; refine (HFO.out _ _).mono ?_; rintro e w2 ⟨rfl, l2⟩
             have l2' : Below wr.heap.size wr w2 := ⟨l2.os, l2.tape, l2.output, l2.size, l2.block⟩
             have L2 := hid l2'
             have y5 := (l2'.block _ (lt_blk hx5)).trans hx5
             have ⟨t0, t1, t2, t3, t4, t5, t6⟩ := cells7 y5
             have T2 := And.intro t0 (And.intro t1 (And.intro t2 (And.intro t3 (And.intro t4 (And.intro t5 (And.intro t6 ((l2'.cell (p := ⟨b2, o2 + x * 4, none⟩) hb2).trans q0)))))))
             clear l2 l2' t0 t1 t2 t3 t4 t5 t6)
          | (go_at_call 55; refine (HTK.out (fmO kd) (fmO kk).cl _).mono ?_; rintro e w3 ⟨rfl, l3⟩
             have l3' : Below w2.heap.size w2 w3 := ⟨l3.os, l3.tape, l3.output, l3.size, l3.block⟩
             have L3 := hid l3'
             have z5 := (l3'.block _ (lt_blk y5)).trans y5
             have ⟨t0, t1, t2, t3, t4, t5, t6⟩ := cells7 z5
             have T3 := And.intro t0 (And.intro t1 (And.intro t2 (And.intro t3 (And.intro t4 (And.intro t5 (And.intro t6 ((l3'.cell (p := ⟨b2, o2 + x * 4, none⟩) (Nat.lt_of_lt_of_le hb2 L2.out.size)).trans T2.2.2.2.2.2.2.2)))))))
             clear l3 l3' t0 t1 t2 t3 t4 t5 t6))
      have B3 := hid (show Below W5.heap.size W5 w3 from (HB.out.trans (L2.out.mono HB.out.size)).trans (L3.out.mono (Nat.le_trans HB.out.size L2.out.size)))
      clear T2 T3 L2 L3 y5 z5 f0 f1 f2 f3 f4 f5 f6 hx5 q0 p0
      cases ht : takesB (fmO kd) (fmO kk).cl
      · go_wp2_with fail
        go_ret
        refine ⟨false, rfl, ⟨(fun h => by cases h), fun h => ?_⟩, HB5.out.trans (B3.out.mono HB5.out.size)⟩
        have hkn : k < ks.length := by rw [← HN.out]; exact hlt
        have hmem : ks.getD k 0 ∈ ks := by rw [List.getD_eq_getElem?_getD, List.getElem?_eq_getElem hkn]; exact List.getElem_mem hkn
        have := h.2 _ hmem
        rw [HXE.out] at this
        rw [show ((x : Int)).toNat = x from Int.toNat_natCast x, HKK.out, ht] at this
        cases this
      · have HTT := hid ht
        clear ht
        go_wp2_with fail
        refine ⟨⟨k + 1, by omega, by go_num, B3, hid (fun j hj => ?_)⟩, by simp [intOf]; omega⟩
        by_cases e : j = k
        · rw [e, HXE.out, show ((x : Int)).toNat = x from Int.toNat_natCast x, HKK.out]
          exact HTT.out
        · exact HE.out j (by omega)
    · obtain rfl : k = n := by omega
      have hx1 := (HB.out.block _ (lt_blk HX1.out)).trans HX1.out
      have ⟨x0, x1, x2, x3⟩ := cells4 hx1
      go_wp2_with (go_at_call 56; refine (HFI.out (fmO kd) kd nu tx ka k kc _).mono ?_; rintro e w2 ⟨rfl, l2⟩; have L2 := hid l2; clear l2)
      go_ret
      refine ⟨_, rfl, ?_, (HB5.out.trans (HB.out.mono HB5.out.size)).trans (L2.out.mono (Nat.le_trans HB5.out.size HB.out.size))⟩
      unfold tabP
      simp only
      rw [← HN.out]
      constructor
      · intro h
        refine ⟨h, fun y hy => ?_⟩
        obtain ⟨j, hj, e⟩ := List.getElem_of_mem hy
        have := HE.out j (by rw [HN.out]; exact hj)
        rw [List.getD_eq_getElem?_getD, List.getElem?_eq_getElem hj] at this
        simp only [Option.getD_some, e] at this
        exact this
      · intro h
        exact h.1
end Go.Proofs.YtlhlpamciafocaaGreatDoor.L.Sw
