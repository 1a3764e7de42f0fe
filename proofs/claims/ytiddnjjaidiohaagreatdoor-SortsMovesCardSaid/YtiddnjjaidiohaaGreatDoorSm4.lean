import Derived.Test.YtiddnjjaidiohaaGreatDoorMgAO
namespace Go.Proofs.YtiddnjjaidiohaaGreatDoor.L
open Go.RowKit
set_option linter.unusedVariables false
set_option maxHeartbeats 16000000 in
set_option maxRecDepth 100000 in
theorem moves_small (a : Option Addr) (T : List Pt) (cap : Nat) (w : World) (hT : PLs w a T) (hG : GdT T) (hg : Gv w) (hn : sumK T T.length ≤ 100000) :
    Calls Tryz.prog 6 #[.agg #[.slice a T.length cap]] w fun e w' => e = .returned (.bool true) ∧ Below w.heap.size w w' := by
  have HB0 := hid (belowA w (.cells #[.slice a T.length cap] 26))
  have HX0 := hid (heap_alloc_new w (.cells #[.slice a T.length cap] 26))
  have HFX := hid (fixed_any _ (hg.low HB0.out))
  have HT := hid hT
  have HG := hid hg
  have HSM := hid (fun W h => small_yes a T cap W h hG hn)
  have HCP := hid (fun W h => copied_pl a T cap W h hG hn)
  have HCK := hid (fun a' cap' sc W h1 h2 => check_any a' T cap' sc W h1 hG h2)
  have HSP := hid speaks_any
  have HST := hid same_types
  obtain ⟨L, hL⟩ : ∃ L, L = T.length := ⟨_, rfl⟩
  have HL := hid hL
  rw [← hL] at HB0 HX0 HFX HSM HCP HCK ⊢
  clear hT hg hn hL
  go_enter Tryz.func6, Tryz.ntmps6
  go_upto_region 1 with (fail)
  generalize w.alloc (.cells #[.slice a L cap] 26) = X at *
  go_upto_region 3 with (go_at_call 8; refine HFX.out.mono ?_; rintro e w1 ⟨rfl, l1⟩; have L1 := hid l1; clear l1)
  have HB1 := hid (HB0.out.trans (L1.out.mono HB0.out.size))
  have HX1 := hid ((L1.out.block _ (lt_blk HX0.out)).trans HX0.out)
  have x0 := cell_of_one HX1.out
  go_upto_region 5 with (go_at_call 9; refine (HSM.out _ (HT.out.low HB1.out).pl).mono ?_; rintro e w2 ⟨rfl, l1⟩; have L2 := hid l1; clear l1)
  have HB2 := hid (HB1.out.trans (L2.out.mono HB1.out.size))
  have HX2 := hid ((L2.out.block _ (lt_blk HX1.out)).trans HX1.out)
  clear x0
  go_wp2_with fail
  go_loopw [3] (fun s wr => ∃ q : Int, s = .int .i64 q ∧ 2 ≤ q ∧ q ≤ 4 ∧ Hid (Below w2.heap.size w2 wr)) (fun s _ => (4 - intOf s).toNat)
  case atStart => exact ⟨2, rfl, by omega, by omega, hid (Below.refl _ _)⟩
  case round =>
    obtain ⟨q, rfl, hq1, hq2, HB⟩ := hrel
    have HBW := hid (HB2.out.trans (HB.out.mono HB2.out.size))
    have HXR := hid ((HB.out.block _ (lt_blk HX2.out)).trans HX2.out)
    by_cases hq : q ≤ 3
    · have x0 := cell_of_one HXR.out
      go_upto_region 9 with (first
        | (go_at_call 10; refine (HCP.out _ (HT.out.low HBW.out)).mono ?_; rintro e w3 ⟨a3, c3, rfl, p3, l3⟩; have P3 := hid p3; have L3 := hid l3; clear p3 l3)
        | (go_at_call 12; refine (HCK.out _ _ _ _ P3.out.pl (HG.out.low (HBW.out.trans (L3.out.mono HBW.out.size)))).mono ?_; rintro e w4 ⟨v, ev, rfl, l4, hr⟩; have HR := hid hr; have L4 := hid l4; clear l4 hr))
      have HR4 := hid (show Below wr.heap.size wr w4 from bchS L3.out L4.out)
      have HS4 := hid (show Below w2.heap.size w2 w4 from bchS HB.out HR4.out)
      have HB4 := hid (HBW.out.trans (HR4.out.mono HBW.out.size))
      have HX4 := hid ((HR4.out.block _ (lt_blk HXR.out)).trans HXR.out)
      clear x0
      rcases HR.out with ⟨rfl, hsc, hrs, gt, hv, hn, hty⟩ | ⟨rfl, N, rfl, hf⟩
      · rw [← HL.out] at hv hty
        subst hv
        have ⟨hl1, hl2, hok, _⟩ := res_ok hrs
        have HGS := hid (gds_of hok hl2)
        rw [← HL.out] at hl1 hl2
        have HMS := hid (ck_most hrs hsc hn)
        have HRS := hid hrs
        have HFR := hid (fun h => ck_free (sc' := 5 - q) hrs hsc hn h)
        have HTY := hid hty
        have MK := fun W => make_ints L hl2 W
        have HM0 := hid (ino_made w4 L w4.heap.size hl2 (Nat.le_refl _))
        have HBM := hid (belowA w4 (.cells (madeCells #[.int .i64 0] L) 3))
        generalize (ovS T q).1 = ty at *
        clear hty hn hrs hok
        have x0 := cell_of_one HX4.out
        go_upto_region 14 with (fail)
        clear x0 MK
        have HX5 := hid ((HBM.out.block _ (lt_blk HX4.out)).trans HX4.out)
        have HT5 := hid (HTY.out.low HBM.out)
        have HB5 := hid (HB4.out.trans (HBM.out.mono HB4.out.size))
        have HS5 := hid (bchS HS4.out HBM.out)
        have HG1 := hid (show w.heap.size < w4.heap.size from lt_blk HX4.out)
        have HG2 := hid (show w2.heap.size ≤ w4.heap.size from HS4.out.size)
        have HG3 := hid (show gt < w4.heap.size from HTY.out.lt.1)
        generalize w4.alloc (.cells (madeCells #[.int .i64 0] L) 3) = M at *
        generalize w4.heap.size = gm at *
        have x0 := cell_of_one HX5.out
        go_wp2_with fail
        clear x0
        go_loopw [7, 45] (fun an i wr => ∃ (k : Nat) (b : Bool) (mk : Nat → Int), k ≤ L ∧ i = .int .i64 (k : Int) ∧ an = .bool b ∧ Hid (b = true ∨ ∀ j, j < k → msF T j ≠ 2) ∧ Hid (But gm M wr) ∧ Hid (InO wr gm gm L mk) ∧ Hid (∀ j, j < k → mk j = msF T j)) (fun _ i _ => L - (intOf i).toNat)
        case atStart => exact ⟨0, false, fun _ => 0, Nat.zero_le _, rfl, rfl, hid (.inr fun j hj => absurd hj (Nat.not_lt_zero j)), hid (But.refl _ _), HM0, hid (fun j hj => absurd hj (Nat.not_lt_zero j))⟩
        case round =>
          obtain ⟨k, b, mk, hk, rfl, rfl, HAN, HBT, HMK, HKK⟩ := hrel
          have HB6 := hid (but_below HB5.out HBT.out (Nat.le_of_lt HG1.out))
          have HS6 := hid (but_below HS5.out HBT.out HG2.out)
          have HX6 := hid ((HBT.out.block _ (lt_blk HX5.out) (Nat.ne_of_lt HG1.out)).trans HX5.out)
          by_cases hkl : k < L
          · have hki : (k : Int) < (L : Int) := by omega
            have hk0 : (0 : Int) ≤ (k : Int) := by omega
            rcases HT.out with h0 | ⟨b2, o2, rfl, hb2, hc2⟩
            · have := HL.out; omega
            obtain ⟨ka, kc, q0, q1, q2, q3, rk, hno⟩ := hc2 k (by rw [← HL.out]; exact hkl)
            replace q0 := (HB6.out.cell (p := ⟨b2, o2 + k * 4, none⟩) hb2).trans q0
            replace q1 := (HB6.out.cell (p := ⟨b2, o2 + k * 4 + 1, none⟩) hb2).trans q1
            replace q2 := (HB6.out.cell (p := ⟨b2, o2 + k * 4 + 2, none⟩) hb2).trans q2
            replace q3 := (HB6.out.cell (p := ⟨b2, o2 + k * 4 + 3, none⟩) hb2).trans q3
            have hml := HGS.out.kl k (by rw [← HL.out]; exact hkl)
            have hkd := HGS.out.kid k (by rw [← HL.out]; exact hkl)
            have hmf := msF_is HGS.out (t := k) (by rw [← HL.out]; exact hkl)
            obtain ⟨p, hp⟩ : ∃ p, p = pt T k := ⟨_, rfl⟩
            rw [← hp] at q0 q1 q2 q3 rk hml hkd hmf
            obtain ⟨kd, tx, nu, ks⟩ := p
            simp only at q0 q1 q2 q3 rk hml hkd hmf
            obtain ⟨m, hm⟩ : ∃ m, m = ks.length := ⟨_, rfl⟩
            rw [← hm] at q3 hml
            have HM := hid hm
            have RK := hid rk
            have HKD := hid hkd
            have HMF := hid hmf
            have hk4 : ((k : Int) * 4).toNat = k * 4 := by omega
            have HVB := hid (belowA wr (.cells #[.int .i64 kd, .string tx, .int .i64 nu, .slice ka m kc] 60))
            have HVP := hid (heap_alloc_new wr (.cells #[.int .i64 kd, .string tx, .int .i64 nu, .slice ka m kc] 60))
            clear hc2 rk hno hp hm hkd hmf
            go_upto_region 17 with (fail)
            clear q0 q1 q2 q3 hb2
            have HBV := hid (HB6.out.trans (HVB.out.mono HB6.out.size))
            have HMV := hid (HMK.out.low HVB.out)
            have HTV := hid (HBT.out.trans (But.of HVB.out))
            have hpg : wr.heap.size ≠ gm := by have h1 := HMK.out.lt.2; omega
            generalize wr.alloc (.cells #[.int .i64 kd, .string tx, .int .i64 nu, .slice ka m kc] 60) = V at *
            generalize wr.heap.size = pb at *
            have ⟨z0, z1, z2, z3⟩ := cells4 HVP.out
            go_upto_region 18 with (go_at_call 19; refine (HSP.out _ _ _ _ _).mono ?_; rintro e w5 ⟨rfl, l5⟩; have L5 := hid l5; clear l5; have ⟨c5, f5⟩ := (HMV.out.low L5.out).cell hkl)
            have O1 := hid ((HMV.out.low L5.out).set hkl (spk kd nu))
            have T1 := hid ((HTV.out.trans (But.of L5.out)).trans (But.setc gm w5 k (.int .i64 (spk kd nu))))
            have P1 := hid ((Below.heap_setCell w5 ⟨gm, k, none⟩ (.int .i64 (spk kd nu)) pb hpg).trans ((L5.out.block _ (lt_blk HVP.out)).trans HVP.out))
            have HBW := hid (but_below HB5.out T1.out (Nat.le_of_lt HG1.out))
            clear z0 z1 z2 z3 c5 f5
            generalize w5.setCell ⟨gm, k, none⟩ (.int .i64 (spk kd nu)) = W1 at *
            generalize spk kd nu = sv at *
            have ⟨z0, z1, z2, z3⟩ := cells4 P1.out
            go_wp2_with fail
            clear z0 z1 z2 z3
            go_loopw [58] (fun j wr2 => ∃ (i : Nat) (v : Int), i ≤ m ∧ j = .int .i64 (i : Int) ∧ Hid (But gm W1 wr2) ∧ Hid (InO wr2 gm gm L (fun q => if q = k then v else mk q)) ∧ Hid (mxO (msF T) (ks.drop i) v = msF T k)) (fun j _ => m - (intOf j).toNat)
            case atStart => exact ⟨0, sv, Nat.zero_le _, rfl, hid (But.refl _ _), O1, hid (by rw [List.drop_zero]; exact HMF.out.symm)⟩
            case round =>
              obtain ⟨i, v, hi, rfl, HB7, HM7, HX7⟩ := hrel
              have BW := hid (but_below HBW.out HB7.out (Nat.le_of_lt HG1.out))
              have ⟨c1, f1⟩ := HM7.out.cell hkl
              rw [if_pos rfl] at c1
              by_cases him : i < m
              · rcases RK.out.low BW.out (Nat.le_refl _) with h0 | ⟨b1, o1, e0, hb1, hc1⟩
                · have := HM.out; omega
                subst e0
                have hin : i < ks.length := by rw [← HM.out]; exact him
                have p0 := hc1 i hin
                have hmem : ks.getD i 0 ∈ ks := by rw [List.getD_eq_getElem?_getD, List.getElem?_eq_getElem hin]; exact List.getElem_mem hin
                have hx := HKD.out _ hmem
                obtain ⟨x, hxe⟩ : ∃ x : Nat, ks.getD i 0 = x := ⟨(ks.getD i 0).toNat, by omega⟩
                have hd := drop_at hin
                rw [hxe] at p0 hx hd
                have hxk : x < k := by omega
                have ⟨c2, f2⟩ := HM7.out.cell (show x < L by omega)
                rw [if_neg (by omega), HKK.out x hxk] at c2
                have HX8 := hid (show mxO (msF T) (ks.drop (i + 1)) (max v (msF T x)) = msF T k by rw [← HX7.out, hd]; rfl)
                generalize msF T x = mx at c2 HX8
                have g1 : (i : Int) < (m : Int) := by omega
                have g2 : (0 : Int) ≤ (i : Int) := by omega
                have g3 : ¬ ((x : Int) < 0) := by omega
                have g4 : ¬ ((k : Int) ≤ (x : Int)) := by omega
                have g5 : (x : Int) < (L : Int) := by omega
                have g6 : (0 : Int) ≤ (x : Int) := by omega
                have HK1 := hid (show i + 1 ≤ m by omega)
                clear hc1 hin hmem hx hxe hd f2 hb1
                go_upto_region 23 with (fail)
                go_region
                have O2 := hid (((HM7.out.set hkl (max v mx)).congr (m' := fun q => if q = k then max v mx else mk q) (fun j _ => by by_cases e : j = k <;> simp [e])).low (Below.refl _ _).drew)
                have T2 := hid ((HB7.out.trans (But.setc gm wr k (.int .i64 (max v mx)))).trans (But.of (Below.refl _ _).drew))
                clear c1 c2 f1 p0
                generalize (wr.setCell ⟨gm, k, none⟩ (.int .i64 (max v mx))).drew = W2 at *
                generalize max v mx = v2 at *
                go_wp2_with fail
                refine ⟨⟨i + 1, v2, HK1.out, by go_num, T2, O2, HX8⟩, ?_⟩
                have h3 := HK1.out
                simp [intOf]
                omega
              · obtain rfl : i = m := by omega
                have HV := hid (show v = msF T k by rw [← HX7.out, HM.out, List.drop_length]; rfl)
                have TT := hid (T1.out.trans HB7.out)
                have c3 := (World.cell?_of_block (w := M) (a := ⟨gt, k * 2 + 1, none⟩) (TT.out.block gt HT5.out.lt.1 (Nat.ne_of_lt HG3.out))).trans (HT5.out.ty.2 k hkl).2
                have hsd := HMS.out k (by rw [← HL.out]; exact hkl)
                have HK2 := hid (show k + 1 ≤ L by omega)
                have HKN := hid (show ∀ j, j < k + 1 → (if j = k then v else mk j) = msF T j from fun j hj => by
                  by_cases e : j = k
                  · rw [if_pos e, e]; exact HV.out
                  · rw [if_neg e]; exact HKK.out j (by omega))
                have hk2 : ((k : Int) * 2).toNat = k * 2 := by omega
                obtain ⟨sd, hsde⟩ : ∃ sd, sd = (ty k).2 := ⟨_, rfl⟩
                have c4 : wr.cell? ⟨gt, k * 2 + 1, none⟩ = some (.int .i64 sd) := by rw [hsde]; exact c3
                rw [← hsde, ← HV.out] at hsd
                clear c3 hsde
                have HMV2 := HV
                clear HV
                rcases clS_cases sd with ⟨e1, e2⟩ | ⟨e1, e2⟩ | ⟨e1, e2⟩ | ⟨⟨e1, e3, e4⟩, e2⟩
                · rw [e2] at hsd
                  clear e2
                  subst hsd
                  subst e1
                  cases b
                  · go_wp2_with fail
                    refine ⟨⟨k + 1, true, _, HK2.out, by go_num, rfl, hid (.inl rfl), TT, HM7, HKN⟩, ?_⟩
                    have h3 := HK2.out
                    simp [intOf]
                    omega
                  · go_wp2_with fail
                    refine ⟨⟨k + 1, true, _, HK2.out, by go_num, rfl, hid (.inl rfl), TT, HM7, HKN⟩, ?_⟩
                    have h3 := HK2.out
                    simp [intOf]
                    omega
                · rw [e2] at hsd
                  clear e2
                  subst hsd
                  subst e1
                  cases b
                  · go_wp2_with fail
                    refine ⟨⟨k + 1, true, _, HK2.out, by go_num, rfl, hid (.inl rfl), TT, HM7, HKN⟩, ?_⟩
                    have h3 := HK2.out
                    simp [intOf]
                    omega
                  · go_wp2_with fail
                    refine ⟨⟨k + 1, true, _, HK2.out, by go_num, rfl, hid (.inl rfl), TT, HM7, HKN⟩, ?_⟩
                    have h3 := HK2.out
                    simp [intOf]
                    omega
                · rw [e2] at hsd
                  clear e2
                  subst hsd
                  subst e1
                  cases b
                  · go_wp2_with fail
                    refine ⟨⟨k + 1, false, _, HK2.out, by go_num, rfl, hid (.inr (fun j hj => by
                      by_cases e : j = k
                      · rw [e, ← HMV2.out]; decide
                      · rcases HAN.out with h | h
                        · cases h
                        · exact h j (by omega))), TT, HM7, HKN⟩, ?_⟩
                    have h3 := HK2.out
                    simp [intOf]
                    omega
                  · go_wp2_with fail
                    refine ⟨⟨k + 1, true, _, HK2.out, by go_num, rfl, hid (.inl rfl), TT, HM7, HKN⟩, ?_⟩
                    have h3 := HK2.out
                    simp [intOf]
                    omega
                · rw [e2] at hsd
                  clear e2
                  subst hsd
                  cases b
                  · go_wp2_with fail
                    refine ⟨⟨k + 1, false, _, HK2.out, by go_num, rfl, hid (.inr (fun j hj => by
                      by_cases e : j = k
                      · rw [e, ← HMV2.out]; decide
                      · rcases HAN.out with h | h
                        · cases h
                        · exact h j (by omega))), TT, HM7, HKN⟩, ?_⟩
                    have h3 := HK2.out
                    simp [intOf]
                    omega
                  · go_wp2_with fail
                    refine ⟨⟨k + 1, true, _, HK2.out, by go_num, rfl, hid (.inl rfl), TT, HM7, HKN⟩, ?_⟩
                    have h3 := HK2.out
                    simp [intOf]
                    omega
          · obtain rfl : k = L := by omega
            cases b
            · have HNO := hid (HFR.out (fun j hj => by
                rcases HAN.out with h | h
                · cases h
                · exact h j (by rw [HL.out]; exact hj)))
              have x0 := cell_of_one HX6.out
              have g1 : 2 ≤ 5 - q := by omega
              have g2 : 5 - q ≤ 3 := by omega
              go_upto_region 32 with (first
                | (go_at_call 10; refine (HCP.out _ (HT.out.low HB6.out)).mono ?_; rintro e w6 ⟨a6, c6, rfl, p6, l6⟩; have P6 := hid p6; have L6 := hid l6; clear p6 l6)
                | (go_at_call 12; refine (HCK.out _ _ _ _ P6.out.pl (HG.out.low (HB6.out.trans (L6.out.mono HB6.out.size)))).mono ?_; rintro e w7 ⟨v7, ev7, rfl, l7, hr7⟩; have HR7 := hid hr7; have L7 := hid l7; clear l7 hr7))
              rcases HR7.out with ⟨rfl, h71, h72, gt7, h73, h74, h75⟩ | ⟨rfl, N7, rfl, hf7⟩
              · rw [← HL.out] at h73 h75
                subst h73
                have B7 := hid (bchS L6.out L7.out)
                have TA := hid (h75.tyl.congr (fun j hj => HNO.out.2 j (by rw [← HL.out]; exact hj)))
                have TB := hid ((HT5.out.but_tyl HBT.out (Nat.ne_of_lt HG3.out)).low B7.out)
                clear h71 h72 h74 h75 x0
                go_wp2_with (go_at_call 13; refine (HST.out _ _ k ty _ TA.out TB.out (by omega)).mono ?_; rintro e w8 ⟨rfl, l8⟩; have L8 := hid l8; clear l8)
                refine ⟨⟨q + 1, by go_num, by omega, by omega, hid (bchS (bchS HS6.out B7.out) L8.out)⟩, ?_⟩
                simp [intOf]
                omega
              · exfalso
                rcases hf7 with ⟨⟨h2, h3⟩, _⟩ | ⟨_, ⟨M7, c, i, _, _, hr, h0⟩ | ⟨_, c, a1, ho, _⟩⟩
                · omega
                · exact h0 (res_one hr HRS.out).1
                · rw [HNO.out.1] at ho; cases ho
            · go_wp2_with fail
              refine ⟨⟨q + 1, by go_num, by omega, by omega, HS6⟩, ?_⟩
              simp [intOf]
              omega
      · clear hf
        simp only [fv]
        go_wp2_with fail
        refine ⟨⟨q + 1, by go_num, by omega, by omega, HS4⟩, ?_⟩
        simp [intOf]
        omega
    · go_wp2_with fail
      go_ret
      exact ⟨rfl, HBW.out⟩
theorem sortsmoves_any (a : Option Addr) (T : List Pt) (cap : Nat) (w : World) (hT : PLs w a T) (hG : GdT T) (hg : Gv w) :
    Calls Tryz.prog 6 #[.agg #[.slice a T.length cap]] w fun e w' => e = .returned (.bool true) ∧ Below w.heap.size w w' := by
  by_cases h : sumK T T.length ≤ 100000
  · exact moves_small a T cap w hT hG hg h
  · exact moves_great a T cap w hT hG hg h
end Go.Proofs.YtiddnjjaidiohaaGreatDoor.L
