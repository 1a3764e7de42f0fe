import Derived.Test.YtcldglilhhhdoaaGreatDoorPdF
namespace Go.Proofs.YtcldglilhhhdoaaGreatDoor.L
open Go.RowKit
set_option linter.unusedVariables false
set_option linter.unusedSimpArgs false
set_option maxHeartbeats 4000000 in
set_option maxRecDepth 100000 in
theorem sints_q (a b : Option Addr) (A : List Int) (ca cb : Nat) (w : World) (ha : RdI w a A) (hb : RdI w b A) (hA : A.length ≤ 140737488355328) :
    Calls Tryz.prog 14 #[.slice a A.length ca, .slice b A.length cb] w fun e w' => e = .returned (.bool true) ∧ ∃ m, w' = w.drewN m := by
  obtain ⟨L, hL⟩ : ∃ L, L = A.length := ⟨_, rfl⟩
  rw [← hL] at hA ⊢
  have RA := hid ha
  have RB := hid hb
  have HLA := hid hL
  have hm : L ≤ maxLen := by unfold maxLen; omega
  have e0 : ((L : Int) != (L : Int)) = false := by simp
  clear ha hb hL
  go_enter Tryz.func14, Tryz.ntmps14
  go_wp2
  go_loopw [5] (fun i wr => ∃ k : Nat, k ≤ L ∧ i = .int .i64 k ∧ Hid (∃ m, wr = w.drewN m)) (fun i _ => L - (intOf i).toNat)
  case atStart => exact ⟨0, Nat.zero_le _, rfl, hid ⟨0, rfl⟩⟩
  case round =>
    obtain ⟨k, hk, rfl, HB⟩ := hrel
    by_cases hlt : k < L
    · obtain ⟨m0, hm0⟩ := HB.out
      have r1 : RdI wr a A := by rw [hm0]; exact RA.out
      have r2 : RdI wr b A := by rw [hm0]; exact RB.out
      have HM := hid hm0
      clear hm0
      rcases r1 with h0 | ⟨b1, o1, rfl, hb1, hc1⟩
      · have := HLA.out; omega
      rcases r2 with h0 | ⟨b2, o2, rfl, hb2, hc2⟩
      · have := HLA.out; omega
      have p0 := hc1 k (by rw [← HLA.out]; exact hlt)
      have q0 := hc2 k (by rw [← HLA.out]; exact hlt)
      generalize A.getD k 0 = x at *
      clear hc1 hc2
      have g1 : (k : Int) < (L : Int) := by omega
      have g2 : (0 : Int) ≤ (k : Int) := by omega
      have e1 : (x != x) = false := by simp
      go_wp2_with fail
      go_quiet (fail)
      go_wp2_with fail
      refine ⟨⟨k + 1, by omega, by go_num, hid ⟨m0 + nq, by rw [HM.out, World.drewN_drewN]⟩⟩, by simp [intOf]; omega⟩
    · have hkl : k = L := by omega
      subst hkl
      go_wp2_with fail
      go_ret
      exact ⟨rfl, HB.out⟩
set_option maxHeartbeats 4000000 in
set_option maxRecDepth 100000 in
theorem form_yes (a : Option Addr) (T : List Pt) (cap : Nat) (w : World) (hT : PL w a T) (h0 : 0 < T.length) (hmost : T.length ≤ 1000) (htop : (fre T T.length).length = 1) (hok : ∀ j, j < T.length → (pt T j).kids.length ≤ (fre T j).length ∧ (pt T j).kids = (fre T j).drop ((fre T j).length - (pt T j).kids.length) ∧ (pt T j).text.size ≤ 127 ∧ Ari (pt T j).kind (pt T j).kids.length) :
    Calls Tryz.prog 15 #[.agg #[.slice a T.length cap]] w fun e w' => e = .returned (.bool true) ∧ Below w.heap.size w w' := by
  obtain ⟨L, hLe⟩ : ∃ L, L = T.length := ⟨_, rfl⟩
  have HT := hid hT
  have HL := hid hLe
  have HOK := hid hok
  have HTOP := hid htop
  rw [← hLe] at h0 hmost ⊢
  have hLm : L ≤ maxLen := by unfold maxLen; omega
  have HX0 := hid (heap_alloc_new w (.cells #[.slice a L cap] 25))
  have HB0 := hid (belowA w (.cells #[.slice a L cap] 25))
  clear hT hLe hok htop
  go_enter Tryz.func15, Tryz.ntmps15
  go_wp2_with fail
  have HTX := hid (HT.out.low HB0.out)
  generalize w.alloc (.cells #[.slice a L cap] 25) = X at *
  have HWS := hid (lt_blk HX0.out)
  generalize hbt : w.heap.size = bt0 at *
  have HBT := hid hbt
  clear hbt
  go_loopw [3, 4] (fun v i wr => ∃ k : Nat, k ≤ L ∧ i = .int .i64 k ∧ Hid (Below X.heap.size X wr) ∧ Hid (OwnI wr X.heap.size v (fre T k))) (fun _ i _ => L - (intOf i).toNat)
  case atStart => exact ⟨0, Nat.zero_le _, rfl, hid (Below.refl _ _), hid (World.ownsRow_nil _ _ _ _)⟩
  case round =>
    obtain ⟨k, hk, rfl, HB, OW⟩ := hrel
    obtain ⟨va, vc, rfl⟩ := own_form OW.out
    have hfl := fre_len T k
    obtain ⟨m, hm⟩ : ∃ m, m = (fre T k).length := ⟨_, rfl⟩
    rw [← hm] at OW hfl ⊢
    have HM := hid hm
    clear hm
    have hmm : m ≤ maxLen := by unfold maxLen; omega
    have xt : wr.cell? ⟨bt0, 0, none⟩ = some (.slice a L cap) := (HB.out.cell (p := ⟨bt0, 0, none⟩) HWS.out).trans (cell_of_row _ _ 0 _ _ _ HX0.out)
    by_cases hlt : k < L
    · have r2 := HTX.out.low HB.out
      rcases r2 with h9 | ⟨b2, o2, rfl, hb2, hc2⟩
      · have := HL.out; omega
      obtain ⟨ka, kc, q0, q1, q2, q3, rk⟩ := hc2 k (by rw [← HL.out]; exact hlt)
      have hjj := HOK.out k (by rw [← HL.out]; exact hlt)
      rw [← HM.out] at hjj
      generalize hpt : pt T k = p at *
      have HPT := hid hpt
      obtain ⟨kd, tx, nu, kids⟩ := p
      simp only at q0 q1 q2 q3 rk hjj
      obtain ⟨n, hn⟩ : ∃ n, n = kids.length := ⟨_, rfl⟩
      have HN := hid hn
      rw [← hn] at q3 hjj
      obtain ⟨hmany, hkids, htx, hari⟩ := hjj
      obtain ⟨h, hh⟩ : ∃ h, m = h + n := ⟨m - n, by omega⟩
      have HKD := hid (show kids = (fre T k).drop h by rw [hkids, show m - n = h by omega])
      have HH := hid hh
      have HRK := hid rk
      have HAR := hid hari
      have hgt9 : n ≤ m := by omega
      clear hc2 rk hkids hpt hn hari hh
      have hmn : (m : Int) - (n : Int) = (h : Int) := by have := HH.out; omega
      have g1 : (k : Int) < (L : Int) := by omega
      have g2 : (0 : Int) ≤ (k : Int) := by omega
      have hnm : n ≤ maxLen := by unfold maxLen; omega
      have hgt : ¬ (m : Int) < (n : Int) := by omega
      have hgt2 : decide ((m : Int) < (n : Int)) = false := by simp; omega
      have hgt3 : decide (m < n) = false := by simp; omega
      have ht3 : decide (127 < tx.size) = false := by simp; omega
      have ht1 : ¬ (127 : Int) < (tx.size : Int) := by omega
      have ht2 : decide ((127 : Int) < (tx.size : Int)) = false := by simp; omega
      go_upto_region 6 with fail
      have HX5 := hid (heap_alloc_new wr (.cells #[.int .i64 kd, .string tx, .int .i64 nu, .slice ka n kc] 46))
      have HB5 := hid (belowA wr (.cells #[.int .i64 kd, .string tx, .int .i64 nu, .slice ka n kc] 46))
      have BX5 := hid (HB.out.trans (HB5.out.mono HB.out.size))
      have OW5 := hid (own_low OW.out HB5.out)
      have RK5 := hid (HRK.out.low HB5.out (Nat.le_refl _))
      clear xt q0 q1 q2 q3
      generalize wr.alloc (.cells #[.int .i64 kd, .string tx, .int .i64 nu, .slice ka n kc] 46) = W5 at *
      generalize wr.heap.size = b5 at *
      have y0 : W5.cell? ⟨b5, 0, none⟩ = some (.int .i64 kd) := cell_of_row _ _ 0 _ _ _ HX5.out
      have y1 : W5.cell? ⟨b5, 1, none⟩ = some (.string tx) := cell_of_row _ _ 1 _ _ _ HX5.out
      have y3 : W5.cell? ⟨b5, 3, none⟩ = some (.slice ka n kc) := cell_of_row _ _ 3 _ _ _ HX5.out
      obtain ⟨xa, xc, TR, HDR⟩ := tail_run (h := h) (n := n) OW5.out HM.out HH.out
      have HD := hid HDR
      clear HDR
      have HSQ := hid (fun (q : Nat) => (by have hq := sints_q ka xa kids kc xc (W5.drewN q) (RK5.out.low (below_drewN (Below.refl _ W5) q) (Nat.le_refl _)) (by rw [HKD.out]; exact HD.out _ (below_drewN (Below.refl _ W5) q)) (by rw [← HN.out]; omega); rw [← HN.out] at hq; exact hq))
      go_upto_region 7 with fail
      go_quiet ((go_at_call 14; exact Calls.quiet_of (HSQ.out _)))
      have HX7 := hid (show (W5.drewN nq).heap[b5]? = _ from HX5.out)
      have BX7 := hid (below_drewN BX5.out nq)
      have OW7 := hid (own_low OW5.out (below_drewN (Below.refl _ W5) nq))
      clear y0 y1 y3 TR HSQ HD RK5
      generalize W5.drewN nq = W7 at *
      have y0 : W7.cell? ⟨b5, 0, none⟩ = some (.int .i64 kd) := cell_of_row _ _ 0 _ _ _ HX7.out
      have HFR := hid (show fre T (k + 1) = (fre T k).take h ++ [(k : Int)] by show (fre T k).take ((fre T k).length - (pt T k).kids.length) ++ _ = _; rw [HPT.out]; simp only; rw [← HN.out, ← HM.out, show m - n = h by have := HH.out; omega])
      have hari := HAR.out
      unfold Ari at hari
      clear HAR HPT HN
      rcases hari with ⟨rfl | rfl | rfl | rfl | rfl, hn⟩ | ⟨rfl | rfl, hn⟩ | ⟨rfl | rfl, hn⟩ | ⟨rfl, hn⟩ | ⟨rfl | rfl | rfl | rfl | rfl | rfl | rfl | rfl | rfl | rfl, hn⟩
      · have f1 : ((n : Int) != 1) = false := by simp; omega
        clear hn
        go_upto_region 30 with fail
        refine form_tail (by assumption) OW7.out HM.out HH.out BX7.out.size (by omega) (by omega) ?_
        intro v' y7 y71 y72 y73 y74 y75 y76 y77 y78 y79 y80 y81 y82 W' ho hb
        have HO := hid ho
        have HBF := hid (BX7.out.trans hb)
        clear ho hb
        rw [← HFR.out] at HO
        go_wp2_with fail
        refine ⟨⟨k + 1, by omega, by go_num, HBF, HO⟩, by simp [intOf]; omega⟩
      · have f1 : ((n : Int) != 1) = false := by simp; omega
        clear hn
        go_upto_region 30 with fail
        refine form_tail (by assumption) OW7.out HM.out HH.out BX7.out.size (by omega) (by omega) ?_
        intro v' y7 y71 y72 y73 y74 y75 y76 y77 y78 y79 y80 y81 y82 W' ho hb
        have HO := hid ho
        have HBF := hid (BX7.out.trans hb)
        clear ho hb
        rw [← HFR.out] at HO
        go_wp2_with fail
        refine ⟨⟨k + 1, by omega, by go_num, HBF, HO⟩, by simp [intOf]; omega⟩
      · have f1 : ((n : Int) != 1) = false := by simp; omega
        clear hn
        go_upto_region 30 with fail
        refine form_tail (by assumption) OW7.out HM.out HH.out BX7.out.size (by omega) (by omega) ?_
        intro v' y7 y71 y72 y73 y74 y75 y76 y77 y78 y79 y80 y81 y82 W' ho hb
        have HO := hid ho
        have HBF := hid (BX7.out.trans hb)
        clear ho hb
        rw [← HFR.out] at HO
        go_wp2_with fail
        refine ⟨⟨k + 1, by omega, by go_num, HBF, HO⟩, by simp [intOf]; omega⟩
      · have f1 : ((n : Int) != 1) = false := by simp; omega
        clear hn
        go_upto_region 30 with fail
        refine form_tail (by assumption) OW7.out HM.out HH.out BX7.out.size (by omega) (by omega) ?_
        intro v' y7 y71 y72 y73 y74 y75 y76 y77 y78 y79 y80 y81 y82 W' ho hb
        have HO := hid ho
        have HBF := hid (BX7.out.trans hb)
        clear ho hb
        rw [← HFR.out] at HO
        go_wp2_with fail
        refine ⟨⟨k + 1, by omega, by go_num, HBF, HO⟩, by simp [intOf]; omega⟩
      · have f1 : ((n : Int) != 1) = false := by simp; omega
        clear hn
        go_upto_region 30 with fail
        refine form_tail (by assumption) OW7.out HM.out HH.out BX7.out.size (by omega) (by omega) ?_
        intro v' y7 y71 y72 y73 y74 y75 y76 y77 y78 y79 y80 y81 y82 W' ho hb
        have HO := hid ho
        have HBF := hid (BX7.out.trans hb)
        clear ho hb
        rw [← HFR.out] at HO
        go_wp2_with fail
        refine ⟨⟨k + 1, by omega, by go_num, HBF, HO⟩, by simp [intOf]; omega⟩
      · have f1 : decide ((n : Int) < 2) = false := by simp; omega
        have f2 : ¬ (n : Int) < 2 := by omega
        clear hn
        go_upto_region 30 with fail
        refine form_tail (by assumption) OW7.out HM.out HH.out BX7.out.size (by omega) (by omega) ?_
        intro v' y7 y71 y72 y73 y74 y75 y76 y77 y78 y79 y80 y81 y82 W' ho hb
        have HO := hid ho
        have HBF := hid (BX7.out.trans hb)
        clear ho hb
        rw [← HFR.out] at HO
        go_wp2_with fail
        refine ⟨⟨k + 1, by omega, by go_num, HBF, HO⟩, by simp [intOf]; omega⟩
      · have f1 : decide ((n : Int) < 2) = false := by simp; omega
        have f2 : ¬ (n : Int) < 2 := by omega
        clear hn
        go_upto_region 30 with fail
        refine form_tail (by assumption) OW7.out HM.out HH.out BX7.out.size (by omega) (by omega) ?_
        intro v' y7 y71 y72 y73 y74 y75 y76 y77 y78 y79 y80 y81 y82 W' ho hb
        have HO := hid ho
        have HBF := hid (BX7.out.trans hb)
        clear ho hb
        rw [← HFR.out] at HO
        go_wp2_with fail
        refine ⟨⟨k + 1, by omega, by go_num, HBF, HO⟩, by simp [intOf]; omega⟩
      · have f1 : ((n : Int) != 2) = false := by simp; omega
        clear hn
        go_upto_region 30 with fail
        refine form_tail (by assumption) OW7.out HM.out HH.out BX7.out.size (by omega) (by omega) ?_
        intro v' y7 y71 y72 y73 y74 y75 y76 y77 y78 y79 y80 y81 y82 W' ho hb
        have HO := hid ho
        have HBF := hid (BX7.out.trans hb)
        clear ho hb
        rw [← HFR.out] at HO
        go_wp2_with fail
        refine ⟨⟨k + 1, by omega, by go_num, HBF, HO⟩, by simp [intOf]; omega⟩
      · have f1 : ((n : Int) != 2) = false := by simp; omega
        clear hn
        go_upto_region 30 with fail
        refine form_tail (by assumption) OW7.out HM.out HH.out BX7.out.size (by omega) (by omega) ?_
        intro v' y7 y71 y72 y73 y74 y75 y76 y77 y78 y79 y80 y81 y82 W' ho hb
        have HO := hid ho
        have HBF := hid (BX7.out.trans hb)
        clear ho hb
        rw [← HFR.out] at HO
        go_wp2_with fail
        refine ⟨⟨k + 1, by omega, by go_num, HBF, HO⟩, by simp [intOf]; omega⟩
      · have f1 : decide ((64 : Int) < (n : Int)) = false := by simp; omega
        have f2 : ¬ (64 : Int) < (n : Int) := by omega
        clear hn
        go_upto_region 30 with fail
        refine form_tail (by assumption) OW7.out HM.out HH.out BX7.out.size (by omega) (by omega) ?_
        intro v' y7 y71 y72 y73 y74 y75 y76 y77 y78 y79 y80 y81 y82 W' ho hb
        have HO := hid ho
        have HBF := hid (BX7.out.trans hb)
        clear ho hb
        rw [← HFR.out] at HO
        go_wp2_with fail
        refine ⟨⟨k + 1, by omega, by go_num, HBF, HO⟩, by simp [intOf]; omega⟩
      · have f1 : ((n : Int) != 0) = false := by simp; omega
        clear hn
        go_upto_region 30 with fail
        refine form_tail (by assumption) OW7.out HM.out HH.out BX7.out.size (by omega) (by omega) ?_
        intro v' y7 y71 y72 y73 y74 y75 y76 y77 y78 y79 y80 y81 y82 W' ho hb
        have HO := hid ho
        have HBF := hid (BX7.out.trans hb)
        clear ho hb
        rw [← HFR.out] at HO
        go_wp2_with fail
        refine ⟨⟨k + 1, by omega, by go_num, HBF, HO⟩, by simp [intOf]; omega⟩
      · have f1 : ((n : Int) != 0) = false := by simp; omega
        clear hn
        go_upto_region 30 with fail
        refine form_tail (by assumption) OW7.out HM.out HH.out BX7.out.size (by omega) (by omega) ?_
        intro v' y7 y71 y72 y73 y74 y75 y76 y77 y78 y79 y80 y81 y82 W' ho hb
        have HO := hid ho
        have HBF := hid (BX7.out.trans hb)
        clear ho hb
        rw [← HFR.out] at HO
        go_wp2_with fail
        refine ⟨⟨k + 1, by omega, by go_num, HBF, HO⟩, by simp [intOf]; omega⟩
      · have f1 : ((n : Int) != 0) = false := by simp; omega
        clear hn
        go_upto_region 30 with fail
        refine form_tail (by assumption) OW7.out HM.out HH.out BX7.out.size (by omega) (by omega) ?_
        intro v' y7 y71 y72 y73 y74 y75 y76 y77 y78 y79 y80 y81 y82 W' ho hb
        have HO := hid ho
        have HBF := hid (BX7.out.trans hb)
        clear ho hb
        rw [← HFR.out] at HO
        go_wp2_with fail
        refine ⟨⟨k + 1, by omega, by go_num, HBF, HO⟩, by simp [intOf]; omega⟩
      · have f1 : ((n : Int) != 0) = false := by simp; omega
        clear hn
        go_upto_region 30 with fail
        refine form_tail (by assumption) OW7.out HM.out HH.out BX7.out.size (by omega) (by omega) ?_
        intro v' y7 y71 y72 y73 y74 y75 y76 y77 y78 y79 y80 y81 y82 W' ho hb
        have HO := hid ho
        have HBF := hid (BX7.out.trans hb)
        clear ho hb
        rw [← HFR.out] at HO
        go_wp2_with fail
        refine ⟨⟨k + 1, by omega, by go_num, HBF, HO⟩, by simp [intOf]; omega⟩
      · have f1 : ((n : Int) != 0) = false := by simp; omega
        clear hn
        go_upto_region 30 with fail
        refine form_tail (by assumption) OW7.out HM.out HH.out BX7.out.size (by omega) (by omega) ?_
        intro v' y7 y71 y72 y73 y74 y75 y76 y77 y78 y79 y80 y81 y82 W' ho hb
        have HO := hid ho
        have HBF := hid (BX7.out.trans hb)
        clear ho hb
        rw [← HFR.out] at HO
        go_wp2_with fail
        refine ⟨⟨k + 1, by omega, by go_num, HBF, HO⟩, by simp [intOf]; omega⟩
      · have f1 : ((n : Int) != 0) = false := by simp; omega
        clear hn
        go_upto_region 30 with fail
        refine form_tail (by assumption) OW7.out HM.out HH.out BX7.out.size (by omega) (by omega) ?_
        intro v' y7 y71 y72 y73 y74 y75 y76 y77 y78 y79 y80 y81 y82 W' ho hb
        have HO := hid ho
        have HBF := hid (BX7.out.trans hb)
        clear ho hb
        rw [← HFR.out] at HO
        go_wp2_with fail
        refine ⟨⟨k + 1, by omega, by go_num, HBF, HO⟩, by simp [intOf]; omega⟩
      · have f1 : ((n : Int) != 0) = false := by simp; omega
        clear hn
        go_upto_region 30 with fail
        refine form_tail (by assumption) OW7.out HM.out HH.out BX7.out.size (by omega) (by omega) ?_
        intro v' y7 y71 y72 y73 y74 y75 y76 y77 y78 y79 y80 y81 y82 W' ho hb
        have HO := hid ho
        have HBF := hid (BX7.out.trans hb)
        clear ho hb
        rw [← HFR.out] at HO
        go_wp2_with fail
        refine ⟨⟨k + 1, by omega, by go_num, HBF, HO⟩, by simp [intOf]; omega⟩
      · have f1 : ((n : Int) != 0) = false := by simp; omega
        clear hn
        go_upto_region 30 with fail
        refine form_tail (by assumption) OW7.out HM.out HH.out BX7.out.size (by omega) (by omega) ?_
        intro v' y7 y71 y72 y73 y74 y75 y76 y77 y78 y79 y80 y81 y82 W' ho hb
        have HO := hid ho
        have HBF := hid (BX7.out.trans hb)
        clear ho hb
        rw [← HFR.out] at HO
        go_wp2_with fail
        refine ⟨⟨k + 1, by omega, by go_num, HBF, HO⟩, by simp [intOf]; omega⟩
      · have f1 : ((n : Int) != 0) = false := by simp; omega
        clear hn
        go_upto_region 30 with fail
        refine form_tail (by assumption) OW7.out HM.out HH.out BX7.out.size (by omega) (by omega) ?_
        intro v' y7 y71 y72 y73 y74 y75 y76 y77 y78 y79 y80 y81 y82 W' ho hb
        have HO := hid ho
        have HBF := hid (BX7.out.trans hb)
        clear ho hb
        rw [← HFR.out] at HO
        go_wp2_with fail
        refine ⟨⟨k + 1, by omega, by go_num, HBF, HO⟩, by simp [intOf]; omega⟩
      · have f1 : ((n : Int) != 0) = false := by simp; omega
        clear hn
        go_upto_region 30 with fail
        refine form_tail (by assumption) OW7.out HM.out HH.out BX7.out.size (by omega) (by omega) ?_
        intro v' y7 y71 y72 y73 y74 y75 y76 y77 y78 y79 y80 y81 y82 W' ho hb
        have HO := hid ho
        have HBF := hid (BX7.out.trans hb)
        clear ho hb
        rw [← HFR.out] at HO
        go_wp2_with fail
        refine ⟨⟨k + 1, by omega, by go_num, HBF, HO⟩, by simp [intOf]; omega⟩
    · obtain rfl : k = L := by omega
      have e1 : ((m : Int) == 1) = true := by have h5 := HTOP.out; rw [← HL.out, ← HM.out] at h5; simp [h5]
      have e2 : decide ((k : Int) ≤ 1000) = true := by simp; omega
      have e3 : (k : Int) ≤ 1000 := by omega
      go_wp2_with fail
      go_ret
      refine ⟨rfl, ?_⟩
      have h5 := HB0.out
      rw [HBT.out] at *
      exact h5.trans (HB.out.mono (by have := HWS.out; omega))
end Go.Proofs.YtcldglilhhhdoaaGreatDoor.L
