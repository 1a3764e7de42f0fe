import Derived.Test.YtnlohjcjboelgabFix
namespace Go.Proofs.Ytnlohjcjboelgab.L
open Go.RowKit
set_option linter.unusedVariables false
set_option maxHeartbeats 16000000 in
set_option maxRecDepth 100000 in
theorem away_sum (v1 v2 : Value) (la lb : List It) (w : World) (m1 : Came w v1 la) (m2 : Came w v2 lb) (g1 : Good la) (g2 : Good lb) (o1 : checkN la = 0) (o2 : checkN lb = 0) (hlen : (mrg 40 la lb).length ≤ 16) (hov : overAt (mrg 40 la lb) (mrg 40 la lb).length 0 = none) :
    Calls Try.prog 3 #[v1, v2] w fun e w' => e = .returned (.bool true) ∧ Below w.heap.size w w' := by
  have HL := hid hlen
  have HO := hid hov
  have HL2 := hid (show (mrg 40 lb la).length ≤ 16 by rw [swap_len]; exact hlen)
  have HO2 := hid ((swap_over 40 la lb).2 hov)
  obtain ⟨rs, gs⟩ := sums_right o1 o2 g1 g2 hlen hov
  have sl : (sums (mrg 40 la lb)).length = (mrg 40 la lb).length := by unfold sums; rw [List.length_map]
  have HSL := hid (show (sums (mrg 40 la lb)).length ≤ 40 by omega)
  have KS := hid (keys_same (swap_sums 40 lb la))
  have l1 := check_len o1
  have l2 := check_len o2
  have ov := (overAt_none _).1 hov
  have rt := mrg_right o1 o2 g1 g2 40
  have HML := hid (mrg_back_c 40 la lb 40 (by omega) (by omega))
  have HMR := hid (mrg_back_l 40 la lb 40 (by omega) (by omega))
  have HUL := hid (show ∀ z ∈ (mrg 40 la lb).map gL, 0 ≤ z.2.1 ∧ z.2.1 ≤ 9223372036854775807 ∧ 0 ≤ z.2.2 ∧ z.2.2 ≤ 9223372036854775807 ∧ z.2.2 ≤ z.2.1 from fun z hz => by
    obtain ⟨y, hy, rfl⟩ := List.mem_map.1 hz
    have a := rt y hy
    have b := ov y hy
    show 0 ≤ y.2.1 + y.2.2 ∧ y.2.1 + y.2.2 ≤ _ ∧ 0 ≤ y.2.2 ∧ y.2.2 ≤ _ ∧ y.2.2 ≤ y.2.1 + y.2.2
    omega)
  have HUR := hid (show ∀ z ∈ (mrg 40 la lb).map gR, 0 ≤ z.2.1 ∧ z.2.1 ≤ 9223372036854775807 ∧ 0 ≤ z.2.2 ∧ z.2.2 ≤ 9223372036854775807 ∧ z.2.2 ≤ z.2.1 from fun z hz => by
    obtain ⟨y, hy, rfl⟩ := List.mem_map.1 hz
    have a := rt y hy
    have b := ov y hy
    show 0 ≤ y.2.1 + y.2.2 ∧ y.2.1 + y.2.2 ≤ _ ∧ 0 ≤ y.2.1 ∧ y.2.1 ≤ _ ∧ y.2.1 ≤ y.2.1 + y.2.2
    omega)
  have ax := away_c 40 la lb (by omega) (fun x hx => (right_mem o1 g1 x hx).2.1)
  have ay := away_l 40 la lb (by omega) (fun x hx => (right_mem o2 g2 x hx).2.1)
  have KX := hid (keys_same (show (diffs ((mrg 40 la lb).map gL)).map key = la.map key by rw [ax]))
  have KY := hid (keys_same ay)
  have KX0 := hid (show (diffs ((mrg 40 la lb).map gL)).length ≤ 40 by rw [ax]; omega)
  have KY0 := hid (show (diffs ((mrg 40 la lb).map gR)).length ≤ 40 by rw [KY.out.1]; omega)
  have HG := hid (show ∀ j, j < (sums (mrg 40 la lb)).length → 0 ≤ getN la (nm (sums (mrg 40 la lb)) j) ∧ 0 ≤ getN lb (nm (sums (mrg 40 la lb)) j) ∧ am (sums (mrg 40 la lb)) j = getN la (nm (sums (mrg 40 la lb)) j) + getN lb (nm (sums (mrg 40 la lb)) j) from fun j hj => by
    have hz : (mrg 40 la lb)[j]'(by omega) ∈ mrg 40 la lb := List.getElem_mem _
    have gg := mrg_get 40 la lb (by omega) (up_of o1) (up_of o2) _ hz
    have a := rt _ hz
    have e1 : nm (sums (mrg 40 la lb)) j = ((mrg 40 la lb)[j]'(by omega)).1 := by unfold nm sums; simp [show j < (mrg 40 la lb).length by omega]
    have e2 : am (sums (mrg 40 la lb)) j = ((mrg 40 la lb)[j]'(by omega)).2.1 + ((mrg 40 la lb)[j]'(by omega)).2.2 := by unfold am sums; simp [show j < (mrg 40 la lb).length by omega]
    rw [get_eq, get_eq, e1, e2, gg.1, gg.2]
    exact ⟨a.2.2.1, a.2.2.2.2.1, rfl⟩)
  have RS := hid rs
  have GS := hid gs
  clear hlen hov rs sl l1 l2 ov rt ax ay
  have M1 := hid m1
  have M2 := hid m2
  have G1 := hid g1
  have G2 := hid g2
  clear m1 m2 g1 g2 gs
  go_enter Try.func3, Try.ntmps3
  go_wp2_with fail
  refine (fixedSum_any w).mono ?_
  rintro e w1 ⟨rfl, hb⟩
  have B1 := hid (show Below w.heap.size w w1 from hb)
  clear hb
  go_wp2_with fail
  refine (cop_any v1 la _ (M1.out.low B1.out) G1.out).mono ?_
  rintro e w2 ⟨x1, rfl, i, hb⟩
  have B2 := hid (B1.out.trans (hb.mono B1.out.size))
  have S_x1 := hid i
  clear hb i
  go_wp2_with fail
  refine (cop_any v2 lb _ (M2.out.low B2.out) G2.out).mono ?_
  rintro e w3 ⟨x2, rfl, i, hb⟩
  have B3 := hid (B2.out.trans (hb.mono B2.out.size))
  replace S_x1 := hid (S_x1.out.low hb)
  have S_x2 := hid i
  clear hb i
  go_wp2_with fail
  refine (add_right _ _ la lb _ S_x1.out S_x2.out G1.out G2.out o1 o2 HL.out HO.out).mono ?_
  rintro e w4 ⟨vc, rfl, j1, j2, hb⟩
  have B4 := hid (B3.out.trans (hb.mono B3.out.size))
  replace S_x1 := hid (S_x1.out.low hb)
  replace S_x2 := hid (S_x2.out.low hb)
  have CC := hid j1
  have SC := hid j2
  clear hb j1 j2
  go_wp2_with fail
  refine (cop_any v2 lb _ (M2.out.low B4.out) G2.out).mono ?_
  rintro e w5 ⟨x3, rfl, i, hb⟩
  have B5 := hid (B4.out.trans (hb.mono B4.out.size))
  replace CC := hid (CC.out.low hb)
  replace SC := hid (SC.out.low hb)
  have S_x3 := hid i
  clear hb i
  go_wp2_with fail
  refine (cop_any v1 la _ (M1.out.low B5.out) G1.out).mono ?_
  rintro e w6 ⟨x4, rfl, i, hb⟩
  have B6 := hid (B5.out.trans (hb.mono B5.out.size))
  replace CC := hid (CC.out.low hb)
  replace SC := hid (SC.out.low hb)
  replace S_x3 := hid (S_x3.out.low hb)
  have S_x4 := hid i
  clear hb i
  go_wp2_with fail
  refine (add_right _ _ lb la _ S_x3.out S_x4.out G2.out G1.out o2 o1 HL2.out HO2.out).mono ?_
  rintro e w7 ⟨vd, rfl, j3, j4, hb⟩
  have B7 := hid (B6.out.trans (hb.mono B6.out.size))
  replace CC := hid (CC.out.low hb)
  replace SC := hid (SC.out.low hb)
  replace S_x3 := hid (S_x3.out.low hb)
  replace S_x4 := hid (S_x4.out.low hb)
  have SD := hid j4
  clear hb j4
  clear j3
  go_wp2_with fail
  refine (cop_any v1 la _ (M1.out.low B7.out) G1.out).mono ?_
  rintro e w8 ⟨x5, rfl, i, hb⟩
  have B8 := hid (B7.out.trans (hb.mono B7.out.size))
  replace CC := hid (CC.out.low hb)
  replace SC := hid (SC.out.low hb)
  replace SD := hid (SD.out.low hb)
  have S_x5 := hid i
  clear hb i
  go_wp2_with fail
  refine (check_any _ la _ S_x5.out.items G1.out).mono ?_
  rintro e w9 ⟨rfl, hb⟩
  have B9 := hid (B8.out.trans (hb.mono B8.out.size))
  replace CC := hid (CC.out.low hb)
  replace SC := hid (SC.out.low hb)
  replace SD := hid (SD.out.low hb)
  replace S_x5 := hid (S_x5.out.low hb)
  clear hb
  rw [o1]
  go_wp2_with fail
  refine (cop_any v2 lb _ (M2.out.low B9.out) G2.out).mono ?_
  rintro e w10 ⟨x6, rfl, i, hb⟩
  have B10 := hid (B9.out.trans (hb.mono B9.out.size))
  replace CC := hid (CC.out.low hb)
  replace SC := hid (SC.out.low hb)
  replace SD := hid (SD.out.low hb)
  have S_x6 := hid i
  clear hb i
  go_wp2_with fail
  refine (check_any _ lb _ S_x6.out.items G2.out).mono ?_
  rintro e w11 ⟨rfl, hb⟩
  have B11 := hid (B10.out.trans (hb.mono B10.out.size))
  replace CC := hid (CC.out.low hb)
  replace SC := hid (SC.out.low hb)
  replace SD := hid (SD.out.low hb)
  replace S_x6 := hid (S_x6.out.low hb)
  clear hb
  rw [o2]
  go_wp2_with fail
  refine (same_yes vc vd _ _ _ SC.out.items SD.out.items HSL.out KS.out.1 KS.out.2).mono ?_
  rintro e w12 ⟨rfl, hb⟩
  have B12 := hid (B11.out.trans (hb.mono B11.out.size))
  replace CC := hid (CC.out.low hb)
  replace SC := hid (SC.out.low hb)
  replace SD := hid (SD.out.low hb)
  clear hb
  go_wp2_with fail
  refine (cop_any vc _ _ CC.out GS.out).mono ?_
  rintro e w13 ⟨x7, rfl, i, hb⟩
  have B13 := hid (B12.out.trans (hb.mono B12.out.size))
  replace CC := hid (CC.out.low hb)
  have S_x7 := hid i
  clear hb i
  go_wp2_with fail
  refine (cop_any v2 lb _ (M2.out.low B13.out) G2.out).mono ?_
  rintro e w14 ⟨x8, rfl, i, hb⟩
  have B14 := hid (B13.out.trans (hb.mono B13.out.size))
  replace CC := hid (CC.out.low hb)
  replace S_x7 := hid (S_x7.out.low hb)
  have S_x8 := hid i
  clear hb i
  go_wp2_with fail
  refine (sub_sum _ _ _ lb _ _ S_x7.out S_x8.out GS.out G2.out RS.out o2 HML.out HUL.out).mono ?_
  rintro e w15 ⟨vx, rfl, i, hb⟩
  have B15 := hid (B14.out.trans (hb.mono B14.out.size))
  replace CC := hid (CC.out.low hb)
  replace S_x7 := hid (S_x7.out.low hb)
  replace S_x8 := hid (S_x8.out.low hb)
  have CX := hid i
  clear hb i
  go_wp2_with fail
  refine (cop_any vc _ _ CC.out GS.out).mono ?_
  rintro e w16 ⟨x9, rfl, i, hb⟩
  have B16 := hid (B15.out.trans (hb.mono B15.out.size))
  replace CC := hid (CC.out.low hb)
  replace CX := hid (CX.out.low hb)
  have S_x9 := hid i
  clear hb i
  go_wp2_with fail
  refine (cop_any v1 la _ (M1.out.low B16.out) G1.out).mono ?_
  rintro e w17 ⟨y1, rfl, i, hb⟩
  have B17 := hid (B16.out.trans (hb.mono B16.out.size))
  replace CC := hid (CC.out.low hb)
  replace CX := hid (CX.out.low hb)
  replace S_x9 := hid (S_x9.out.low hb)
  have S_y1 := hid i
  clear hb i
  go_wp2_with fail
  refine (sub_sum _ _ _ la _ _ S_x9.out S_y1.out GS.out G1.out RS.out o1 HMR.out HUR.out).mono ?_
  rintro e w18 ⟨vy, rfl, i, hb⟩
  have B18 := hid (B17.out.trans (hb.mono B17.out.size))
  replace CC := hid (CC.out.low hb)
  replace CX := hid (CX.out.low hb)
  replace S_x9 := hid (S_x9.out.low hb)
  replace S_y1 := hid (S_y1.out.low hb)
  have CY := hid i
  clear hb i
  go_wp2_with fail
  refine (same_yes vx v1 _ la _ CX.out.items (M1.out.low B18.out).items KX0.out KX.out.1 KX.out.2).mono ?_
  rintro e w19 ⟨rfl, hb⟩
  have B19 := hid (B18.out.trans (hb.mono B18.out.size))
  replace CC := hid (CC.out.low hb)
  replace CX := hid (CX.out.low hb)
  replace CY := hid (CY.out.low hb)
  clear hb
  go_wp2_with fail
  refine (same_yes vy v2 _ lb _ CY.out.items (M2.out.low B19.out).items KY0.out KY.out.1 KY.out.2).mono ?_
  rintro e w20 ⟨rfl, hb⟩
  have B20 := hid (B19.out.trans (hb.mono B19.out.size))
  replace CC := hid (CC.out.low hb)
  replace CY := hid (CY.out.low hb)
  clear hb
  obtain ⟨S, hS⟩ : ∃ S, S = sums (mrg 40 la lb) := ⟨_, rfl⟩
  rw [← hS] at HG GS CC HSL
  obtain ⟨a, cap, rfl, hi⟩ := CC.out.items
  obtain ⟨len, hlen⟩ : ∃ n, n = S.length := ⟨_, rfl⟩
  have HLEN := hid hlen
  have hl := HSL.out
  rw [← hlen] at hi hl HG ⊢
  clear hlen hS
  go_wp2_with fail
  go_loopw [112] (fun i wr => ∃ k : Nat, k ≤ len ∧ i = .int .i64 k ∧ Hid (Below w20.heap.size w20 wr)) (fun i _ => len - (intOf i).toNat)
  case atStart => exact ⟨0, Nat.zero_le _, rfl, hid (Below.refl _ _)⟩
  case round =>
    obtain ⟨k, hk, rfl, BE⟩ := hrel
    have HB := hid (B20.out.trans (BE.out.mono B20.out.size))
    by_cases hlt : k < len
    · rcases hi with h0 | ⟨b, off, rfl, hbl, hc⟩
      · omega
      obtain ⟨c0, c1⟩ := hc k hlt
      rw [← BE.out.cell (p := ⟨b, off + k * 2, none⟩) hbl] at c0
      rw [← BE.out.cell (p := ⟨b, off + k * 2 + 1, none⟩) hbl] at c1
      have hsz : b < wr.heap.size := Nat.lt_of_lt_of_le hbl BE.out.size
      have hn := (GS.out.2 k (by rw [← HLEN.out]; exact hlt)).1
      have htop := (GS.out.2 k (by rw [← HLEN.out]; exact hlt)).2.2
      have GC := hid (fun W (hB : Below w.heap.size w W) => get_any v1 la (nm S k) W (M1.out.items.low hB) G1.out hn)
      have GU := hid (fun W (hB : Below w.heap.size w W) => get_any v2 lb (nm S k) W (M2.out.items.low hB) G2.out hn)
      obtain ⟨p0, q0, sm⟩ := HG.out k hlt
      generalize getN la (nm S k) = gc at *
      generalize getN lb (nm S k) = gu at *
      generalize nm S k = s at *
      generalize am S k = n at *
      have z1 : ¬ gc < 0 := by omega
      have z2 : ¬ gu < 0 := by omega
      have z3 : ¬ n < gc := by omega
      have z4 : n - gc = gu := by omega
      have z5 : IntKind.i64.wrap (n - gc) = gu := by rw [z4, IntKind.wrap_i64]; omega
      have z6 : gc ≤ 9223372036854775807 := by omega
      have z7 : gu ≤ 9223372036854775807 := by omega
      have SM := hid sm
      clear hc hn sm
      go_wp2_with fail
      go_region_held3 (fun W => W.cell? ⟨wr.heap.size, 0, none⟩ = some (.string s) ∧ W.cell? ⟨wr.heap.size, 1, none⟩ = some (.int .i64 n))
        (first | exact new_two wr _ _ _ | exact T1 | exact T2)
        (first
          | (go_at_call_of 12 v1; refine (GC.out _ ?_).mono ?_; exact (HB.out.alloc HB.out.size _).drew; rintro e w2' ⟨rfl, hb2⟩; have T1 := two_low (new_two wr (.string s) (.int .i64 n) 31) hb2 (by simp))
          | (go_at_call_of 12 v2; refine (GU.out _ ?_).mono ?_; exact ((HB.out.alloc HB.out.size _).drew).trans (hb2.mono (by simp; exact Nat.le_succ_of_le HB.out.size)); rintro e w3' ⟨rfl, hb3⟩; have T2 := two_low T1 hb3 (by have := hb2.size; simp at this; omega)))
      all_goals (obtain ⟨t0, t1⟩ := T2)
      all_goals (have BE3 := hid (show Below w20.heap.size w20 w3' from (((BE.out.alloc BE.out.size _).drew).trans (hb2.mono (by simp; exact Nat.le_succ_of_le BE.out.size))).trans (hb3.mono (by have h1 := hb2.size; have h2 := BE.out.size; simp at h1; omega))))
      all_goals (clear hb2 hb3 T1)
      all_goals (go_wp2_with fail)
      all_goals (exact ⟨⟨k + 1, by omega, by go_num, BE3⟩, by simp [intOf]; omega⟩)
    · obtain rfl : k = len := by omega
      go_wp2_with fail
      go_ret
      exact ⟨rfl, HB.out⟩
end Go.Proofs.Ytnlohjcjboelgab.L
