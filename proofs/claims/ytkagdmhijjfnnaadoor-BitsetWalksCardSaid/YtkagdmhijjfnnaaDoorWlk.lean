import Derived.Test.YtkagdmhijjfnnaaDoorHush
namespace Go.Proofs.YtkagdmhijjfnnaaDoor
open Go.RowKit Bs
theorem Holds.row {w : World} {v : Value} {zs : List Int} (h : Holds w v zs) : ∃ a cap, v = .slice a zs.length cap ∧ (0 < zs.length → ∃ b off, a = some ⟨b, off, none⟩ ∧ ∀ j, j < zs.length → w.cell? ⟨b, off + j, none⟩ = some (.int .i64 (zs.getD j 0))) := by
  rcases h.ex with ⟨rfl, rfl⟩ | ⟨b, off, cap, rfl, hc⟩
  · exact ⟨none, 0, rfl, fun h => absurd h (by decide)⟩
  · exact ⟨_, cap, rfl, fun _ => ⟨b, off, rfl, hc⟩⟩
theorem Ints.row {w : World} {v : Value} {zs : List Int} (h : Ints w v zs) : ∃ a cap, v = .slice a zs.length cap ∧ (0 < zs.length → ∃ b off, a = some ⟨b, off, none⟩ ∧ ∀ j, j < zs.length → w.cell? ⟨b, off + j, none⟩ = some (.int .i64 (zs.getD j 0))) := by
  rcases h with ⟨a, cap, rfl, rfl⟩ | ⟨b, off, cap, rfl, hb, hc⟩
  · exact ⟨a, cap, rfl, fun h => absurd h (by decide)⟩
  · exact ⟨_, cap, rfl, fun _ => ⟨b, off, rfl, hc⟩⟩
set_option maxRecDepth 100000 in
set_option maxHeartbeats 1000000 in
theorem walks_out (N : Int) (vA vB vC : Value) (w : World) (ht : Tab w) (hN : ¬ (0 ≤ N ∧ N ≤ 65536)) :
    Calls Tryd.prog 5 #[.agg #[.int .i64 N, vA, vB, vC]] w fun e w' => e = .returned (.bool true) ∧ Below w.heap.size w w' := by
  have HN := hid hN
  have HT := hid ht
  clear hN ht
  go_enter Tryd.func5, Tryd.ntmps5
  go_wp2_with fail
  refine (begin_all N vA vB vC w HT.out).mono ?_
  rintro e w1 ⟨rfl, hx, hb, _⟩
  have hx0 := hx.c0
  have HB := hid hb
  clear hx hb
  go_wp2_with fail
  refine (sized_no _ _ HN.out).mono ?_
  rintro e w2 ⟨rfl, hww⟩
  subst hww
  go_wp2_with fail
  go_ret
  exact ⟨rfl, HB.out⟩
set_option maxRecDepth 100000 in
set_option maxHeartbeats 16000000 in
theorem walks_in (n : Nat) (vA vB vC : Value) (zA zB : List Int) (w : World) (ht : Tab w) (hn : n ≤ 65536) (iA : Ints w vA zA) (iB : Ints w vB zB) (rA : zA.length * 8 ≤ 140737488351232) (rB : zB.length * 8 ≤ 140737488351232) :
    Calls Tryd.prog 5 #[.agg #[.int .i64 n, vA, vB, vC]] w fun e w' => e = .returned (.bool true) ∧ Below w.heap.size w w' := by
  have HT := hid ht
  have HA := hid iA
  have HBB := hid iB
  have hn0 : 0 ≤ (n : Int) := by omega
  have hn1 : (n : Int) ≤ 65536 := by omega
  have HRA := hid rA
  have HRB := hid rB
  clear ht iA rA iB rB
  go_enter Tryd.func5, Tryd.ntmps5
  go_wp2_with fail
  refine (begin_all n vA vB vC w HT.out).mono ?_
  rintro e w1 ⟨rfl, hx, hb1, hs1⟩
  have hx0 := hx.c0
  have hx1 := hx.c1
  have X1 := hid hx
  have B1 := hid hb1
  clear hx hb1 hs1
  go_wp2_with fail
  refine (sized_yes _ _ hn0 hn1).mono ?_
  rintro e w2 ⟨rfl, hww⟩
  subst hww
  go_wp2_with fail
  refine (of_new n vA zA _ hn HRA.out (HA.out.low B1.out)).mono ?_
  rintro e w3 ⟨p, q, rfl, f3⟩
  have S3 := hid f3.at'
  have X3 := hid (X1.out.low f3.low)
  have B3 := hid (belowT B1.out f3.low)
  have hy0 := X3.out.c0
  clear f3 X1 B1 hx0 hx1
  go_wp2_with fail
  go_quiet ((go_at_call 26; exact Calls.quiet_of_same (size_any _ (S3.out.drewN _))))
  go_wp2_with fail
  have L3 := hid ((Like.refl w3).drewN nq)
  generalize w3.drewN nq = w4 at L3 ⊢
  have S4 := hid (S3.out.low L3.out.low)
  have X4 := hid (X3.out.low L3.out.low)
  have B4 := hid (belowT B3.out L3.out.low)
  clear S3 X3 B3 L3 hy0
  refine (members_set _ S4.out (HT.out.low B4.out HT.out.pos)).mono ?_
  rintro e w5 ⟨v5, ms, rfl, ho5, hms, hb5⟩
  have S5 := hid (S4.out.low hb5)
  have X5 := hid (X4.out.low hb5)
  have B5 := hid (belowT B4.out hb5)
  obtain ⟨aL, capL, rfl, hrow⟩ := ho5.row
  have HRO := hid hrow
  have HMS := hid hms
  have hM : ms.length ≤ 65536 := by rw [hms.len]; exact Nat.le_trans (card_le _ _) hn
  have HCN := hid (fun W (k : Like w5 W) => count_set W (S5.out.low k.low))
  have HRN := hid (fun W (k : Like w5 W) => rank_set (n : Int) W (S5.out.low k.low))
  rw [rank_at n (Nat.le_refl _)] at HRN
  rw [← hms.len] at HRN HCN
  have HT5 := hid (fun W (k : Like w5 W) => HT.out.low (belowT B5.out k.low) HT.out.pos)
  have HSN := hid (fun W (k : Like w5 W) => sel_set ((ms.length : Nat) : Int) (-1) W (S5.out.low k.low) (HT5.out W k) (by omega) (Or.inr ⟨rfl, Or.inr (by rw [hms.len]; exact Int.le_refl _)⟩))
  have HSM := hid (fun W (k : Like w5 W) => sel_set (-1) (-1) W (S5.out.low k.low) (HT5.out W k) (by omega) (Or.inr ⟨rfl, Or.inl (by decide)⟩))
  obtain ⟨M, hMe⟩ : ∃ M, M = ms.length := ⟨_, rfl⟩
  rw [← hMe] at hM HCN HRN HSN HRO ⊢
  have HME := hid hMe
  have hz0 := X5.out.c0
  clear hMe hrow hms ho5 hb5 S4 X4 B4
  go_wp2_with fail
  refine (HCN.out _ (Like.refl _)).mono ?_
  rintro e w6 ⟨rfl, hww⟩
  subst hww
  go_wp2_with fail
  refine (HRN.out _ (Like.refl _)).mono ?_
  rintro e w6 ⟨rfl, m, hww⟩
  subst hww
  go_wp2_with fail
  refine (HSN.out _ ((Like.refl _).drewN _)).mono ?_
  rintro e w6 ⟨rfl, hww⟩
  subst hww
  go_wp2_with fail
  refine (HSM.out _ ((Like.refl _).drewN _)).mono ?_
  rintro e w6 ⟨rfl, hww⟩
  subst hww
  go_wp2_with fail
  go_loopw [5] (fun i wr => ∃ k : Nat, k ≤ M ∧ i = .int .i64 k ∧ Like w6 wr) (fun i _ => M - (intOf i).toNat)
  case atStart => exact ⟨0, Nat.zero_le _, rfl, (Like.refl _).drewN _⟩
  case round =>
    obtain ⟨k, hk, rfl, hlike⟩ := hrel
    have LK := hid hlike
    clear hlike
    by_cases hlt : k < M
    · obtain ⟨bL, offL, rfl, hcL⟩ := HRO.out (by omega)
      obtain ⟨a, hga, han, has, hca⟩ := HMS.out.get k (by rw [← HME.out]; exact hlt)
      have hck := (LK.out.cell ⟨bL, offL + k, none⟩).trans (hcL k hlt)
      rw [hga] at hck
      have HCL := hid hcL
      have HHS := hid (fun W (l : Like w6 W) => has_true a W (S5.out.low l.low) han has)
      have HRK := hid (fun W (l : Like w6 W) => rank_set (a : Int) W (S5.out.low l.low))
      rw [rank_at a (Nat.le_of_lt han), hca] at HRK
      have HSK := hid (fun W (l : Like w6 W) => sel_set (k : Int) a W (S5.out.low l.low) (HT5.out W l) (by omega) (Or.inl ⟨a, rfl, han, has, by rw [hca]⟩))
      have HNX := hid (fun W (l : Like w6 W) => next_set (a : Int) a W (S5.out.low l.low) (HT5.out W l) (next_has a han has))
      have HPV := hid (fun W (l : Like w6 W) => prev_set (a : Int) a W (S5.out.low l.low) (prev_has a han has))
      have hkM : (k : Int) < (M : Int) := by omega
      have HGA := hid hga
      have HAS := hid has
      have HCA := hid hca
      clear hga has hca hcL
      by_cases hk0 : k = 0
      · subst hk0
        rw [Nat.add_zero] at hck
        by_cases hl1 : 0 + 1 < M
        · obtain ⟨c, hgc, hcn, hcs, hcc⟩ := HMS.out.get (0 + 1) (by rw [← HME.out]; exact hl1)
          have hc2 := (LK.out.cell ⟨bL, offL + (0 + 1), none⟩).trans (HCL.out (0 + 1) hl1)
          rw [hgc] at hc2
          obtain ⟨a1, ha1⟩ : ∃ a1, (a : Int) + 1 = a1 := ⟨_, rfl⟩
          have ha2 : IntKind.i64.wrap a1 = a1 := by rw [IntKind.wrap_i64]; omega
          have HNR := hid (fun W (l : Like w6 W) => next_set a1 c W (S5.out.low l.low) (HT5.out W l) (by rw [← ha1]; exact nth_next hcn HAS.out hcs HCA.out hcc))
          have hl1' : (1 : Int) < (M : Int) := by omega
          clear hgc hcn hcs hcc
          go_wp2_with fail
          refine wp_region_quiet_lit (by kernel_rfl) (by kernel_rfl) ?_
          refine q_start (fun R hR => ?_)
          iterate 3 (
            refine q_yes hR (by kernel_rfl) (fun K R' hR' hK => ?_)
            clear hR
            go_simp
            first
              | (refine hK _ ?_; clear hK; have hR := hR'; clear hR')
              | (apply Exists.intro
                 refine ⟨fun _ => ?_, hK _ ?_⟩
                 (first
                  | (go_at_call 30; exact Calls.quiet_of (HHS.out _ (LK.out.drewN _)))
                  | (go_at_call 28; exact Calls.quiet_of (HRK.out _ (LK.out.drewN _)))
                  | (go_at_call 29; exact Calls.quiet_of_same (HSK.out _ (LK.out.drewN _)))
                 )
                 clear hK; have hR := hR'; clear hR')
            )
          iterate 10 (
            refine q_no hR (by kernel_rfl) (fun K R' hR' hK => ?_)
            clear hR
            go_simp
            refine hK _ ?_
            clear hK; have hR := hR'; clear hR')
          repeat (
            refine q_yes hR (by kernel_rfl) (fun K R' hR' hK => ?_)
            clear hR
            go_simp
            first
              | (refine hK _ ?_; clear hK; have hR := hR'; clear hR')
              | (apply Exists.intro
                 refine ⟨fun _ => ?_, hK _ ?_⟩
                 (first
                  | (go_at_call 30; exact Calls.quiet_of (HHS.out _ (LK.out.drewN _)))
                  | (go_at_call 28; exact Calls.quiet_of (HRK.out _ (LK.out.drewN _)))
                  | (go_at_call 29; exact Calls.quiet_of_same (HSK.out _ (LK.out.drewN _)))
                 )
                 clear hK; have hR := hR'; clear hR')
            )
          refine q_nil hR ?_
          clear hR
          intro _ hw'
          obtain ⟨nq, hw''⟩ := hw'
          subst hw''
          go_wp2_with fail
          have L2 := hid (LK.out.drewN nq)
          replace hck := (LK.out.drewN nq).cell _ |>.trans ((LK.out.cell _).symm.trans hck)
          generalize wr.drewN nq = wq at L2 hck ⊢
          clear LK hc2
          refine wp_region_quiet_lit (by kernel_rfl) (by kernel_rfl) ?_
          refine q_start (fun R hR => ?_)
          iterate 31 (
            refine q_yes hR (by kernel_rfl) (fun K R' hR' hK => ?_)
            clear hR
            go_simp
            first
              | (refine hK _ ?_; clear hK; have hR := hR'; clear hR')
              | (apply Exists.intro
                 refine ⟨fun _ => ?_, hK _ ?_⟩
                 (first
                  | (go_at_call 32; exact Calls.quiet_of (HPV.out _ (L2.out.drewN _)))
                  | (go_at_call 31; exact Calls.quiet_of (HNX.out _ (L2.out.drewN _)))
                 )
                 clear hK; have hR := hR'; clear hR')
            )
          iterate 1 (
            refine q_yes hR (by kernel_rfl) (fun K R' hR' hK => ?_)
            clear hR
            go_simp
            first
              | (refine hK _ ?_; clear hK; have hR := hR'; clear hR')
              | (apply Exists.intro
                 refine ⟨fun _ => ?_, hK _ ?_⟩
                 (first
                  | (go_at_call 31; exact Calls.quiet_of (HNR.out _ (L2.out.drewN _)))
                 )
                 clear hK; have hR := hR'; clear hR')
            )
          repeat (
            refine q_yes hR (by kernel_rfl) (fun K R' hR' hK => ?_)
            clear hR
            go_simp
            first
              | (refine hK _ ?_; clear hK; have hR := hR'; clear hR')
            )
          refine q_nil hR ?_
          clear hR
          intro _ hw'
          obtain ⟨nq, hw''⟩ := hw'
          subst hw''
          go_wp2_with fail
          go_roundw
          case rel => exact ⟨0 + 1, by omega, by go_num, L2.out.drewN _⟩
          case measure => simp [intOf]; omega
        · obtain ⟨a1, ha1⟩ : ∃ a1, (a : Int) + 1 = a1 := ⟨_, rfl⟩
          have ha2 : IntKind.i64.wrap a1 = a1 := by rw [IntKind.wrap_i64]; omega
          have HNR := hid (fun W (l : Like w6 W) => next_set a1 (-1) W (S5.out.low l.low) (HT5.out W l) (by rw [← ha1]; exact nth_last S5.out.cl HAS.out HCA.out (by rw [← HMS.out.len, ← HME.out]; omega)))
          have hl1' : ¬ ((1 : Int) < (M : Int)) := by omega
          clear hl1
          go_wp2_with fail
          refine wp_region_quiet_lit (by kernel_rfl) (by kernel_rfl) ?_
          refine q_start (fun R hR => ?_)
          iterate 3 (
            refine q_yes hR (by kernel_rfl) (fun K R' hR' hK => ?_)
            clear hR
            go_simp
            first
              | (refine hK _ ?_; clear hK; have hR := hR'; clear hR')
              | (apply Exists.intro
                 refine ⟨fun _ => ?_, hK _ ?_⟩
                 (first
                  | (go_at_call 30; exact Calls.quiet_of (HHS.out _ (LK.out.drewN _)))
                  | (go_at_call 28; exact Calls.quiet_of (HRK.out _ (LK.out.drewN _)))
                  | (go_at_call 29; exact Calls.quiet_of_same (HSK.out _ (LK.out.drewN _)))
                 )
                 clear hK; have hR := hR'; clear hR')
            )
          iterate 10 (
            refine q_no hR (by kernel_rfl) (fun K R' hR' hK => ?_)
            clear hR
            go_simp
            refine hK _ ?_
            clear hK; have hR := hR'; clear hR')
          repeat (
            refine q_yes hR (by kernel_rfl) (fun K R' hR' hK => ?_)
            clear hR
            go_simp
            first
              | (refine hK _ ?_; clear hK; have hR := hR'; clear hR')
              | (apply Exists.intro
                 refine ⟨fun _ => ?_, hK _ ?_⟩
                 (first
                  | (go_at_call 30; exact Calls.quiet_of (HHS.out _ (LK.out.drewN _)))
                  | (go_at_call 28; exact Calls.quiet_of (HRK.out _ (LK.out.drewN _)))
                  | (go_at_call 29; exact Calls.quiet_of_same (HSK.out _ (LK.out.drewN _)))
                 )
                 clear hK; have hR := hR'; clear hR')
            )
          refine q_nil hR ?_
          clear hR
          intro _ hw'
          obtain ⟨nq, hw''⟩ := hw'
          subst hw''
          go_wp2_with fail
          have L2 := hid (LK.out.drewN nq)
          replace hck := (LK.out.drewN nq).cell _ |>.trans ((LK.out.cell _).symm.trans hck)
          generalize wr.drewN nq = wq at L2 hck ⊢
          clear LK
          refine wp_region_quiet_lit (by kernel_rfl) (by kernel_rfl) ?_
          refine q_start (fun R hR => ?_)
          iterate 31 (
            refine q_yes hR (by kernel_rfl) (fun K R' hR' hK => ?_)
            clear hR
            go_simp
            first
              | (refine hK _ ?_; clear hK; have hR := hR'; clear hR')
              | (apply Exists.intro
                 refine ⟨fun _ => ?_, hK _ ?_⟩
                 (first
                  | (go_at_call 32; exact Calls.quiet_of (HPV.out _ (L2.out.drewN _)))
                  | (go_at_call 31; exact Calls.quiet_of (HNX.out _ (L2.out.drewN _)))
                 )
                 clear hK; have hR := hR'; clear hR')
            )
          iterate 1 (
            refine q_yes hR (by kernel_rfl) (fun K R' hR' hK => ?_)
            clear hR
            go_simp
            first
              | (refine hK _ ?_; clear hK; have hR := hR'; clear hR')
              | (apply Exists.intro
                 refine ⟨fun _ => ?_, hK _ ?_⟩
                 (first
                  | (go_at_call 31; exact Calls.quiet_of (HNR.out _ (L2.out.drewN _)))
                 )
                 clear hK; have hR := hR'; clear hR')
            )
          repeat (
            refine q_yes hR (by kernel_rfl) (fun K R' hR' hK => ?_)
            clear hR
            go_simp
            first
              | (refine hK _ ?_; clear hK; have hR := hR'; clear hR')
            )
          refine q_nil hR ?_
          clear hR
          intro _ hw'
          obtain ⟨nq, hw''⟩ := hw'
          subst hw''
          go_wp2_with fail
          go_roundw
          case rel => exact ⟨0 + 1, by omega, by go_num, L2.out.drewN _⟩
          case measure => simp [intOf]; omega
      · obtain ⟨kp, hkp⟩ : ∃ kp : Nat, (k : Int) - 1 = (kp : Int) := ⟨k - 1, by omega⟩
        obtain ⟨b, hgb, hbn, hbs, hbc⟩ := HMS.out.get kp (by rw [← HME.out]; omega)
        have hcp := (LK.out.cell ⟨bL, offL + kp, none⟩).trans (HCL.out kp (by omega))
        rw [hgb] at hcp
        have hba : b < a := nth_lt (S := sOf n zA) (by rw [hbc, HCA.out]; omega)
        have hle : decide (a ≤ b) = false := by rw [decide_eq_false_iff_not]; omega
        have hle2 : decide ((a : Int) ≤ (b : Int)) = false := by rw [decide_eq_false_iff_not]; omega
        have hpos : decide (0 < k) = true := by rw [decide_eq_true_iff]; omega
        have hpos2 : decide ((0 : Int) < (k : Int)) = true := by rw [decide_eq_true_iff]; omega
        have hkp2 : IntKind.i64.wrap (kp : Int) = (kp : Int) := by rw [IntKind.wrap_i64]; omega
        have hkpM : (kp : Int) < (M : Int) := by omega
        clear hgb hbn hbs hbc hba
        by_cases hl1 : k + 1 < M
        · obtain ⟨c, hgc, hcn, hcs, hcc⟩ := HMS.out.get (k + 1) (by rw [← HME.out]; exact hl1)
          have hc2 := (LK.out.cell ⟨bL, offL + (k + 1), none⟩).trans (HCL.out (k + 1) hl1)
          rw [hgc] at hc2
          obtain ⟨a1, ha1⟩ : ∃ a1, (a : Int) + 1 = a1 := ⟨_, rfl⟩
          have ha2 : IntKind.i64.wrap a1 = a1 := by rw [IntKind.wrap_i64]; omega
          have HNR := hid (fun W (l : Like w6 W) => next_set a1 c W (S5.out.low l.low) (HT5.out W l) (by rw [← ha1]; exact nth_next hcn HAS.out hcs HCA.out hcc))
          have hl1' : (k : Int) + 1 < (M : Int) := by omega
          clear hgc hcn hcs hcc
          go_wp2_with fail
          refine wp_region_quiet_lit (by kernel_rfl) (by kernel_rfl) ?_
          refine q_start (fun R hR => ?_)
          repeat (
            refine q_yes hR (by kernel_rfl) (fun K R' hR' hK => ?_)
            clear hR
            go_simp
            first
              | (refine hK _ ?_; clear hK; have hR := hR'; clear hR')
              | (apply Exists.intro
                 refine ⟨fun _ => ?_, hK _ ?_⟩
                 (first
                  | (go_at_call 30; exact Calls.quiet_of (HHS.out _ (LK.out.drewN _)))
                  | (go_at_call 28; exact Calls.quiet_of (HRK.out _ (LK.out.drewN _)))
                  | (go_at_call 29; exact Calls.quiet_of_same (HSK.out _ (LK.out.drewN _)))
                 )
                 clear hK; have hR := hR'; clear hR')
            )
          refine q_nil hR ?_
          clear hR
          intro _ hw'
          obtain ⟨nq, hw''⟩ := hw'
          subst hw''
          go_wp2_with fail
          have L2 := hid (LK.out.drewN nq)
          replace hck := (LK.out.drewN nq).cell _ |>.trans ((LK.out.cell _).symm.trans hck)
          generalize wr.drewN nq = wq at L2 hck ⊢
          clear LK hc2 hcp
          refine wp_region_quiet_lit (by kernel_rfl) (by kernel_rfl) ?_
          refine q_start (fun R hR => ?_)
          iterate 31 (
            refine q_yes hR (by kernel_rfl) (fun K R' hR' hK => ?_)
            clear hR
            go_simp
            first
              | (refine hK _ ?_; clear hK; have hR := hR'; clear hR')
              | (apply Exists.intro
                 refine ⟨fun _ => ?_, hK _ ?_⟩
                 (first
                  | (go_at_call 32; exact Calls.quiet_of (HPV.out _ (L2.out.drewN _)))
                  | (go_at_call 31; exact Calls.quiet_of (HNX.out _ (L2.out.drewN _)))
                 )
                 clear hK; have hR := hR'; clear hR')
            )
          iterate 1 (
            refine q_yes hR (by kernel_rfl) (fun K R' hR' hK => ?_)
            clear hR
            go_simp
            first
              | (refine hK _ ?_; clear hK; have hR := hR'; clear hR')
              | (apply Exists.intro
                 refine ⟨fun _ => ?_, hK _ ?_⟩
                 (first
                  | (go_at_call 31; exact Calls.quiet_of (HNR.out _ (L2.out.drewN _)))
                 )
                 clear hK; have hR := hR'; clear hR')
            )
          repeat (
            refine q_yes hR (by kernel_rfl) (fun K R' hR' hK => ?_)
            clear hR
            go_simp
            first
              | (refine hK _ ?_; clear hK; have hR := hR'; clear hR')
            )
          refine q_nil hR ?_
          clear hR
          intro _ hw'
          obtain ⟨nq, hw''⟩ := hw'
          subst hw''
          go_wp2_with fail
          go_roundw
          case rel => exact ⟨k + 1, by omega, by go_num, L2.out.drewN _⟩
          case measure => simp [intOf]; omega
        · obtain ⟨a1, ha1⟩ : ∃ a1, (a : Int) + 1 = a1 := ⟨_, rfl⟩
          have ha2 : IntKind.i64.wrap a1 = a1 := by rw [IntKind.wrap_i64]; omega
          have HNR := hid (fun W (l : Like w6 W) => next_set a1 (-1) W (S5.out.low l.low) (HT5.out W l) (by rw [← ha1]; exact nth_last S5.out.cl HAS.out HCA.out (by rw [← HMS.out.len, ← HME.out]; omega)))
          have hl1' : ¬ ((k : Int) + 1 < (M : Int)) := by omega
          clear hl1
          go_wp2_with fail
          refine wp_region_quiet_lit (by kernel_rfl) (by kernel_rfl) ?_
          refine q_start (fun R hR => ?_)
          repeat (
            refine q_yes hR (by kernel_rfl) (fun K R' hR' hK => ?_)
            clear hR
            go_simp
            first
              | (refine hK _ ?_; clear hK; have hR := hR'; clear hR')
              | (apply Exists.intro
                 refine ⟨fun _ => ?_, hK _ ?_⟩
                 (first
                  | (go_at_call 30; exact Calls.quiet_of (HHS.out _ (LK.out.drewN _)))
                  | (go_at_call 28; exact Calls.quiet_of (HRK.out _ (LK.out.drewN _)))
                  | (go_at_call 29; exact Calls.quiet_of_same (HSK.out _ (LK.out.drewN _)))
                 )
                 clear hK; have hR := hR'; clear hR')
            )
          refine q_nil hR ?_
          clear hR
          intro _ hw'
          obtain ⟨nq, hw''⟩ := hw'
          subst hw''
          go_wp2_with fail
          have L2 := hid (LK.out.drewN nq)
          replace hck := (LK.out.drewN nq).cell _ |>.trans ((LK.out.cell _).symm.trans hck)
          generalize wr.drewN nq = wq at L2 hck ⊢
          clear LK hcp
          refine wp_region_quiet_lit (by kernel_rfl) (by kernel_rfl) ?_
          refine q_start (fun R hR => ?_)
          iterate 31 (
            refine q_yes hR (by kernel_rfl) (fun K R' hR' hK => ?_)
            clear hR
            go_simp
            first
              | (refine hK _ ?_; clear hK; have hR := hR'; clear hR')
              | (apply Exists.intro
                 refine ⟨fun _ => ?_, hK _ ?_⟩
                 (first
                  | (go_at_call 32; exact Calls.quiet_of (HPV.out _ (L2.out.drewN _)))
                  | (go_at_call 31; exact Calls.quiet_of (HNX.out _ (L2.out.drewN _)))
                 )
                 clear hK; have hR := hR'; clear hR')
            )
          iterate 1 (
            refine q_yes hR (by kernel_rfl) (fun K R' hR' hK => ?_)
            clear hR
            go_simp
            first
              | (refine hK _ ?_; clear hK; have hR := hR'; clear hR')
              | (apply Exists.intro
                 refine ⟨fun _ => ?_, hK _ ?_⟩
                 (first
                  | (go_at_call 31; exact Calls.quiet_of (HNR.out _ (L2.out.drewN _)))
                 )
                 clear hK; have hR := hR'; clear hR')
            )
          repeat (
            refine q_yes hR (by kernel_rfl) (fun K R' hR' hK => ?_)
            clear hR
            go_simp
            first
              | (refine hK _ ?_; clear hK; have hR := hR'; clear hR')
            )
          refine q_nil hR ?_
          clear hR
          intro _ hw'
          obtain ⟨nq, hw''⟩ := hw'
          subst hw''
          go_wp2_with fail
          go_roundw
          case rel => exact ⟨k + 1, by omega, by go_num, L2.out.drewN _⟩
          case measure => simp [intOf]; omega
    · obtain ⟨aA, capA, rfl, hrA⟩ := (HA.out.low B5.out).row
      have HRW := hid hrA
      have hLA : zA.length ≤ 17592186043904 := by have := HRA.out; omega
      obtain ⟨LA, hLAe⟩ : ∃ LA, LA = zA.length := ⟨_, rfl⟩
      have HLA := hid hLAe
      have X6 := hid (X5.out.low LK.out.low)
      rw [← hLAe] at hLA X6 X5 ⊢
      have hx1 := X6.out.c1
      clear hLAe hrA hz0 HRO HCN HRN HSN HSM HMS HME
      go_wp2_with fail
      go_loopw [7] (fun i wz => ∃ j : Nat, j ≤ LA ∧ i = .int .i64 j ∧ Like w6 wz) (fun i _ => LA - (intOf i).toNat)
      case atStart => exact ⟨0, Nat.zero_le _, rfl, LK.out⟩
      case round =>
        clear LK hx1 X6
        obtain ⟨j, hj, rfl, hlike⟩ := hrel
        have LK := hid hlike
        have X6 := hid (X5.out.low hlike.low)
        have hx0 := X6.out.c0
        have hx1 := X6.out.c1
        have hx2 := X6.out.c2
        clear hlike
        by_cases hlt : j < LA
        · have hi1 : j < zA.length := by rw [← HLA.out]; exact hlt
          obtain ⟨bA, offA, rfl, hcA⟩ := HRW.out (by omega)
          have hcz := (LK.out.cell ⟨bA, offA + j, none⟩).trans (hcA j hi1)
          have hjL : (j : Int) < (LA : Int) := by omega
          have HIT := hid (fun a h1 h2 => sOf_hit n zA j a hi1 h1 h2)
          obtain ⟨z, hz⟩ : ∃ z, z = zA.getD j 0 := ⟨_, rfl⟩
          rw [← hz] at hcz HIT
          clear hz hcA hi1
          by_cases hz0 : 0 ≤ z
          · by_cases hzn : z < n
            · obtain ⟨a, rfl⟩ := Int.eq_ofNat_of_zero_le hz0
              have han : a < n := by omega
              have HHZ := hid (fun W (l : Like w6 W) => has_true a W (S5.out.low l.low) han (HIT.out a rfl han))
              have hd1 : decide (a < n) = true := by rw [decide_eq_true_iff]; exact han
              have hd2 : decide ((a : Int) < (n : Int)) = true := by rw [decide_eq_true_iff]; exact hzn
              have hd3 : decide ((0 : Int) ≤ (a : Int)) = true := by rw [decide_eq_true_iff]; exact hz0
              clear HIT
              go_wp2_with fail
              refine wp_region_quiet_lit (by kernel_rfl) (by kernel_rfl) ?_
              refine q_start (fun R hR => ?_)
              repeat (
                refine q_yes hR (by kernel_rfl) (fun K R' hR' hK => ?_)
                clear hR
                go_simp
                first
                  | (refine hK _ ?_; clear hK; have hR := hR'; clear hR')
                  | (apply Exists.intro
                     refine ⟨fun _ => ?_, hK _ ?_⟩
                     (first
                      | (go_at_call 30; exact Calls.quiet_of (HHZ.out _ (LK.out.drewN _)))
                     )
                     clear hK; have hR := hR'; clear hR')
                )
              refine q_nil hR ?_
              clear hR
              intro _ hw'
              obtain ⟨nq, hw''⟩ := hw'
              subst hw''
              go_wp2_with fail
              go_roundw
              case rel => exact ⟨j + 1, by omega, by go_num, LK.out.drewN _⟩
              case measure => simp [intOf]; omega
            · have hd2 : decide (z < (n : Int)) = false := by rw [decide_eq_false_iff_not]; exact hzn
              have hd3 : decide ((0 : Int) ≤ z) = true := by rw [decide_eq_true_iff]; exact hz0
              clear HIT
              go_wp2_with fail
              refine wp_region_quiet_lit (by kernel_rfl) (by kernel_rfl) ?_
              refine q_start (fun R hR => ?_)
              iterate 17 (
                refine q_yes hR (by kernel_rfl) (fun K R' hR' hK => ?_)
                clear hR
                go_simp
                first
                  | (refine hK _ ?_; clear hK; have hR := hR'; clear hR')
                )
              iterate 8 (
                refine q_no hR (by kernel_rfl) (fun K R' hR' hK => ?_)
                clear hR
                go_simp
                refine hK _ ?_
                clear hK; have hR := hR'; clear hR')
              repeat (
                refine q_yes hR (by kernel_rfl) (fun K R' hR' hK => ?_)
                clear hR
                go_simp
                first
                  | (refine hK _ ?_; clear hK; have hR := hR'; clear hR')
                )
              refine q_nil hR ?_
              clear hR
              intro _ hw'
              obtain ⟨nq, hw''⟩ := hw'
              subst hw''
              go_wp2_with fail
              go_roundw
              case rel => exact ⟨j + 1, by omega, by go_num, LK.out.drewN _⟩
              case measure => simp [intOf]; omega
          · have hd3 : decide ((0 : Int) ≤ z) = false := by rw [decide_eq_false_iff_not]; exact hz0
            clear HIT
            go_wp2_with fail
            refine wp_region_quiet_lit (by kernel_rfl) (by kernel_rfl) ?_
            refine q_start (fun R hR => ?_)
            iterate 7 (
              refine q_yes hR (by kernel_rfl) (fun K R' hR' hK => ?_)
              clear hR
              go_simp
              first
                | (refine hK _ ?_; clear hK; have hR := hR'; clear hR')
              )
            iterate 8 (
              refine q_no hR (by kernel_rfl) (fun K R' hR' hK => ?_)
              clear hR
              go_simp
              refine hK _ ?_
              clear hK; have hR := hR'; clear hR')
            iterate 2 (
              refine q_yes hR (by kernel_rfl) (fun K R' hR' hK => ?_)
              clear hR
              go_simp
              first
                | (refine hK _ ?_; clear hK; have hR := hR'; clear hR')
              )
            iterate 8 (
              refine q_no hR (by kernel_rfl) (fun K R' hR' hK => ?_)
              clear hR
              go_simp
              refine hK _ ?_
              clear hK; have hR := hR'; clear hR')
            repeat (
              refine q_yes hR (by kernel_rfl) (fun K R' hR' hK => ?_)
              clear hR
              go_simp
              first
                | (refine hK _ ?_; clear hK; have hR := hR'; clear hR')
              )
            refine q_nil hR ?_
            clear hR
            intro _ hw'
            obtain ⟨nq, hw''⟩ := hw'
            subst hw''
            go_wp2_with fail
            go_roundw
            case rel => exact ⟨j + 1, by omega, by go_num, LK.out.drewN _⟩
            case measure => simp [intOf]; omega
        · go_wp2_with fail
          refine (between_any vB zB _ (S5.out.low LK.out.low) (HT5.out _ LK.out) (HBB.out.low (belowT B5.out LK.out.low)) HRB.out).mono ?_
          rintro e wf ⟨rfl, lf⟩
          go_wp2_with fail
          go_ret
          exact ⟨rfl, belowT (belowT B5.out LK.out.low) lf.low⟩
/-- BitsetWalks: the law answers true, whatever x. -/
theorem walks_all (N : Int) (vA vB vC : Value) (zA zB : List Int) (w : World) (ht : Tab w) (iA : Ints w vA zA) (iB : Ints w vB zB) (rA : zA.length * 8 ≤ 140737488351232) (rB : zB.length * 8 ≤ 140737488351232) :
    Calls Tryd.prog 5 #[.agg #[.int .i64 N, vA, vB, vC]] w fun e w' => e = .returned (.bool true) ∧ Below w.heap.size w w' := by
  by_cases hN : 0 ≤ N ∧ N ≤ 65536
  · obtain ⟨n, rfl⟩ := Int.eq_ofNat_of_zero_le hN.1
    exact walks_in n vA vB vC zA zB w ht (by omega) iA iB rA rB
  · exact walks_out N vA vB vC w ht hN
end Go.Proofs.YtkagdmhijjfnnaaDoor
