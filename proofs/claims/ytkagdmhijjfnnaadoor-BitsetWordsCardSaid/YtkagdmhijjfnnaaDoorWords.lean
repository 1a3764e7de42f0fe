import Derived.Test.YtkagdmhijjfnnaaDoorMsMem
namespace Go.Proofs.YtkagdmhijjfnnaaDoor
open Go.RowKit Bs
set_option maxRecDepth 100000 in
set_option maxHeartbeats 1000000 in
theorem words_out (N : Int) (vA vB vC : Value) (w : World) (ht : Tab w) (hN : ¬ (0 ≤ N ∧ N ≤ 65536)) :
    Calls Tryd.prog 6 #[.agg #[.int .i64 N, vA, vB, vC]] w fun e w' => e = .returned (.bool true) ∧ Below w.heap.size w w' := by
  have HN := hid hN
  have HT := hid ht
  clear hN ht
  go_enter Tryd.func6, Tryd.ntmps6
  go_wp2_with fail
  refine (begin_all N vA vB vC w HT.out).mono ?_
  rintro e w1 ⟨rfl, hx, hb, _⟩
  have hx0 := hx.c0
  have HB := hid hb
  clear hx hb
  go_wp2_with fail
  refine (sized_no _ _ HN.out).mono ?_
  rintro e w2 ⟨rfl, hww⟩
  subst hww
  go_wp2_with fail
  refine (fromw_no _ _ _ HN.out).mono ?_
  rintro e w3 ⟨rfl, hww⟩
  subst hww
  go_wp2_with fail
  refine (num_any _ _).mono ?_
  rintro e w4 ⟨rfl, hww⟩
  subst hww
  go_wp2_with fail
  go_ret
  exact ⟨rfl, HB.out⟩
set_option maxRecDepth 100000 in
set_option maxHeartbeats 8000000 in
theorem words_in (n : Nat) (vA vB vC : Value) (zA : List Int) (w : World) (ht : Tab w) (hn : n ≤ 65536) (iA : Ints w vA zA) (rA : zA.length * 8 ≤ 140737488351232) :
    Calls Tryd.prog 6 #[.agg #[.int .i64 n, vA, vB, vC]] w fun e w' => e = .returned (.bool true) ∧ Below w.heap.size w w' := by
  have HT := hid ht
  have HA := hid iA
  have hn0 : 0 ≤ (n : Int) := by omega
  have hn1 : (n : Int) ≤ 65536 := by omega
  have HRA := hid rA
  clear ht iA rA
  go_enter Tryd.func6, Tryd.ntmps6
  go_wp2_with fail
  refine (begin_all n vA vB vC w HT.out).mono ?_
  rintro e w1 ⟨rfl, hx, hb1, hs1⟩
  have hx0 := hx.c0
  have hx1 := hx.c1
  have X1 := hid hx
  have B1 := hid hb1
  clear hx hb1 hs1
  go_wp2_with fail
  refine (sized_yes _ _ hn0 hn1).mono ?_
  rintro e w2 ⟨rfl, hww⟩
  subst hww
  go_wp2_with fail
  refine (of_new n vA zA _ hn HRA.out (HA.out.low B1.out)).mono ?_
  rintro e w3 ⟨p, q, rfl, f3⟩
  obtain ⟨ws, hset, _⟩ := f3.at'
  have I3 := hid hset
  have X3 := hid (X1.out.low f3.low)
  have B3 := hid (belowT B1.out f3.low)
  clear f3 hset X1 B1 hx0 hx1
  go_wp2_with fail
  refine (words_any p q n ws _ I3.out).mono ?_
  rintro e w4 ⟨v, rfl, hw4, hb4⟩
  have hv := hw4.hv
  have WS4 := hid hw4
  have I4 := hid (I3.out.low hb4)
  have X4 := hid (X3.out.low hb4)
  have B4 := hid (belowT B3.out hb4)
  have hx0 := X4.out.c0
  have hL : ws.length ≤ 1024 := I4.out.len
  have HLL := hid I4.out.hl
  have HWD := hid I4.out.wd
  rw [hv] at WS4 ⊢
  clear hw4 hb4 hv I3 X3 B3
  generalize hg : w3.heap.size = g at WS4 ⊢
  clear hg
  go_wp2_with fail
  go_region_held3 (fun W => W.cell? ⟨w.heap.size, 0, none⟩ = some (.int .i64 n))
    (first | exact hx0 | exact xF.c0 | exact xE.c0)
    (first
      | (go_at_call 36; refine (copy_own _ g ws.length ws _ ?_ ?_).mono ?_; exact WS4.out.low (Below.refl _ _).drew; omega; rintro e w5 ⟨v5, rfl, own5, ne5, b5⟩; have xE := X4.out.drew.low b5; obtain ⟨g5, cap5, o5⟩ := own_words own5 ne5)
      | (go_at_call 34; refine (fromw_ok n cap5 g5 ws v5 _ hn o5.sl HLL.out HWD.out ?_).mono ?_; exact cut_tidy n ws HLL.out HWD.out I4.out.cl; rintro e w6 ⟨rfl, i6, b6⟩; have xF := xE.low b6))
  have l46 : Below w4.heap.size w4 w6 := belowT ((Below.refl w4.heap.size w4).drew.trans b5) b6
  have I6 := hid (I4.out.low l46)
  have J6 := hid i6
  have X6 := hid xF
  have B6 := hid (belowT B4.out l46)
  have W6 := hid (WS4.out.low l46)
  have hx0' := xF.c0
  have hnw1 : IntKind.i64.wrap (((n : Int) + 63) / 64) = (ws.length : Int) := by
    rw [IntKind.wrap_i64, HLL.out]; unfold nw; omega
  have hnw2 : ((n : Int) + 63) / 64 = (ws.length : Int) := by rw [HLL.out]; unfold nw; omega
  clear l46 i6 xF xE b5 b6 o5 own5 ne5 I4 X4 B4 WS4 hx0
  go_wp2_with fail
  go_quiet ((first
    | (go_at_call 13; exact Calls.quiet_of_same (num_any _ _))
    | (go_at_call 18; exact Calls.quiet_of_same (equal_yes _ (SetAt.drewN ⟨ws, I6.out, fun _ => rfl⟩ _) (SetAt.drewN ⟨ws, J6.out, fun _ => rfl⟩ _) (fun _ => rfl)))
    | (go_at_call 26; exact Calls.quiet_of_same (size_any _ (SetAt.drewN ⟨ws, J6.out, fun _ => rfl⟩ _)))))
  go_wp2_with fail
  have L6 := hid ((Like.refl w6).drewN nq)
  generalize w6.drewN nq = w7 at L6 ⊢
  have I7 := hid (I6.out.low L6.out.low)
  have X7 := hid (X6.out.low L6.out.low)
  have W7 := hid (W6.out.low L6.out.low)
  have B7 := hid (belowT B6.out L6.out.low)
  clear I6 J6 X6 W6 B6 L6 hx0' hnw1 hnw2
  obtain ⟨L, hLe⟩ : ∃ L, L = ws.length := ⟨_, rfl⟩
  have HLE := hid hLe
  rw [← hLe] at hL W7 ⊢
  clear hLe
  go_loop [9, 10] (fun c i => ∃ k : Nat, k ≤ L ∧ i = .int .i64 k ∧ c = .int .i64 ((cnt k ws : Nat) : Int)) (fun _ i => L - (intOf i).toNat)
  case atStart => exact ⟨0, Nat.zero_le _, rfl, by rw [cnt_zero]; rfl⟩
  case round =>
    obtain ⟨k, hk, rfl, rfl⟩ := hrel
    have hcb := cnt_le k ws (by rw [← HLE.out]; exact hk)
    obtain ⟨c, hc⟩ : ∃ c, c = cnt k ws := ⟨_, rfl⟩
    have HCC := hid hc
    rw [← hc] at hcb ⊢
    clear hc
    by_cases hlt : k < L
    · have hi1 : k < ws.length := by rw [← HLE.out]; exact hlt
      have hcx := W7.out.hc k hi1
      obtain ⟨x, hx⟩ : ∃ x, x = ws.getD k 0 := ⟨_, rfl⟩
      rw [← hx] at hcx
      have HX := hid hx
      have HXB := hid (show x < 18446744073709551616 by rw [hx]; exact HWD.out.getD k)
      have hkL : (k : Int) < (L : Int) := by omega
      have HI1 := hid hi1
      have hpl : pop 64 x ≤ 64 := by rw [pop_card]; exact card_le _ _
      obtain ⟨m, hm⟩ : ∃ m, m = pop 64 x := ⟨_, rfl⟩
      rw [← hm] at hpl
      have HM := hid hm
      clear hx hi1 hm
      go_wp2_with fail
      go_loop [9, 11] (fun c' v => ∃ j : Nat, j ≤ m ∧ c' = .int .i64 ((c : Int) + (j : Int)) ∧ v = .int .u64 ((loN j x : Nat) : Int)) (fun _ v => pop 64 (intOf v).toNat)
      case atStart => exact ⟨0, Nat.zero_le _, by simp, rfl⟩
      case round =>
        obtain ⟨j, hj, rfl, rfl⟩ := hrel
        have hpj := pop_loN x HXB.out j (by rw [← HM.out]; exact hj)
        rw [← HM.out] at hpj
        have hyb := loN_lt x HXB.out j
        by_cases hjm : j < m
        · have hne := loN_ne x HXB.out j (by rw [← HM.out]; exact hjm)
          have hpl2 := pop_loN x HXB.out (j + 1) (by rw [← HM.out]; omega)
          rw [← HM.out] at hpl2
          have HSUC : Hid (loN (j + 1) x = lo (loN j x)) := rfl
          have hlo := lo_num (loN j x) hyb
          have hb : ((loN j x : Int) != 0) = true := by rw [bne_iff_ne]; omega
          obtain ⟨y, hy⟩ : ∃ y, y = loN j x := ⟨_, rfl⟩
          rw [← hy] at hlo hb HSUC hpj ⊢
          obtain ⟨z, hz⟩ : ∃ z, z = lo y := ⟨_, rfl⟩
          rw [← hz] at hlo HSUC
          rw [HSUC.out] at hpl2
          have HPJ := hid hpj
          have HPL := hid hpl2
          have HSS := hid HSUC.out
          clear hy hz hpj hpl2 hne hyb HSUC
          go_wp2_with fail
          go_round
          case rel => exact ⟨j + 1, by omega, by go_num, by rw [HSS.out]⟩
          case measure =>
            simp [intOf]
            have a := HPJ.out
            have b := HPL.out
            omega
        · have hz : loN j x = 0 := by
            have e : pop 64 (loN j x) = 0 := by omega
            apply Classical.byContradiction
            intro c0
            have := pop_lo 64 (loN j x) c0 hyb
            omega
          have e : j = m := by omega
          rw [hz]
          have HN := hid (show cnt (k + 1) ws = c + m by rw [cnt_succ k ws HI1.out, ← HCC.out, ones_pop, ← HX.out, ← HM.out])
          subst e
          clear hz hpj hyb
          go_wp2_with fail
          go_round
          case rel => exact ⟨k + 1, by omega, by go_num, by rw [HN.out]; go_num⟩
          case measure => simp [intOf]; omega
    · have e : k = L := by omega
      subst e
      have HCN := hid (count_words p q n ws _ I7.out)
      rw [← HLE.out, ← HCC.out] at HCN
      clear hk hlt HCC
      go_wp2_with fail
      refine HCN.out.mono ?_
      rintro e w8 ⟨rfl, hww⟩
      subst hww
      go_wp2_with fail
      refine (members_words p q n ws _ I7.out (HT.out.low B7.out HT.out.pos)).mono ?_
      rintro e w9 ⟨v9, rfl, own9, b9⟩
      have H9 := hid (holds_of_owns own9)
      have X9 := hid (X7.out.low b9)
      have W9 := hid (W7.out.low b9)
      have B9 := hid (belowT B7.out b9)
      have I9 := hid (I7.out.low b9)
      have HMS := hid (msL_mem ws HWD.out ws.length)
      have hms : (msL ws.length ws).length ≤ 131072 := by
        rw [length_msL ws _ (Nat.le_refl _)]
        have := cnt_le ws.length ws (Nat.le_refl _)
        have := I9.out.len
        omega
      obtain ⟨ms, hme⟩ : ∃ ms, ms = msL ws.length ws := ⟨_, rfl⟩
      rw [← hme] at H9 HMS hms
      clear own9 b9 hme X7 W7 B7 I7 HCN
      rcases H9.out.ex with ⟨rfl, hnil⟩ | ⟨b, off, cap9, rfl, hc9⟩
      · go_wp2_with fail
        go_loopw [13] (fun i wr => i = .int .i64 0 ∧ wr = w9) (fun _ _ => 0)
        case atStart => exact ⟨rfl, rfl⟩
        case round =>
          obtain ⟨rfl, rfl⟩ := hrel
          have hx0 := X9.out.c0
          go_wp2_with fail
          refine (refused_any n g ws _ _ hn (by rw [HLE.out] at W9; rw [HLE.out]; exact W9.out) HLL.out HWD.out).mono ?_
          rintro e wz ⟨rfl, hbz⟩
          go_wp2_with fail
          go_ret
          exact ⟨rfl, belowT B9.out hbz⟩
      · have HC9 := hid hc9
        obtain ⟨M, hM⟩ : ∃ M, M = ms.length := ⟨_, rfl⟩
        have HM := hid hM
        rw [← hM] at hms ⊢
        clear hc9 hM H9
        go_wp2_with fail
        go_loopw [13] (fun i wr => ∃ j : Nat, j ≤ M ∧ i = .int .i64 j ∧ Like w9 wr) (fun i _ => M - (intOf i).toNat)
        case atStart => exact ⟨0, Nat.zero_le _, rfl, Like.refl _⟩
        case round =>
          obtain ⟨j, hj, rfl, hlike⟩ := hrel
          have LK := hid hlike
          have hx0 := (hlike.cell ⟨w.heap.size, 0, none⟩).trans X9.out.c0
          clear hlike
          by_cases hlt : j < M
          · have hi1 : j < ms.length := by rw [← HM.out]; exact hlt
            obtain ⟨i0, hie, him⟩ := HMS.out (ms.getD j 0) (getD_mem ms j hi1)
            have hcz := (LK.out.cell ⟨b, off + j, none⟩).trans (HC9.out j hi1)
            rw [hie] at hcz
            have hin : i0 < n := by
              apply Classical.byContradiction
              intro c0
              rw [I9.out.cl i0 (by omega)] at him
              cases him
            have hjM : (j : Int) < (M : Int) := by omega
            have hg1 : decide ((i0 : Int) < 0) = false := by simp
            have hg2 : decide (n ≤ i0) = false := by simp; omega
            obtain ⟨d, hd⟩ : ∃ d, d = i0 / 64 := ⟨_, rfl⟩
            obtain ⟨r, hr⟩ : ∃ r, r = i0 % 64 := ⟨_, rfl⟩
            have hd1 : IntKind.i64.wrap ((i0 : Int) / 64) = (d : Int) := by rw [hd]; exact idx_div i0 (by omega)
            have hr1 : (i0 : Int).tmod 64 = (r : Int) := by rw [hr]; exact idx_mod i0
            have hdk : d < ws.length := by rw [HLL.out, hd]; unfold nw; omega
            have hcw := (LK.out.cell ⟨g, d, none⟩).trans (W9.out.hc d hdk)
            have hbit : (ws.getD d 0).testBit r = true := by unfold mem at him; rw [hd, hr]; exact him
            have hxb := HWD.out.getD d
            obtain ⟨x, hx⟩ : ∃ x, x = ws.getD d 0 := ⟨_, rfl⟩
            rw [← hx] at hcw hbit hxb
            have hdk2 : (d : Int) < (k : Int) := by rw [HLE.out]; omega
            have hsb : bits .and .u64 ((x : Int) / 2 ^ r) 1 = 1 := by
              have e : ((x : Int) / 2 ^ r) = ((x / 2 ^ r : Nat) : Int) := by rw [pow_cast, Int.natCast_ediv]
              rw [e]; exact shr_bit x r hxb hbit
            have hr64 : r < 64 := by omega
            clear hie him hin hd hr hdk hbit hx hi1
            go_wp2_with fail
            go_quiet (fail)
            go_wp2_with fail
            go_roundw
            case rel => exact ⟨j + 1, by omega, by go_num, LK.out.drewN _⟩
            case measure => simp [intOf]; omega
          · go_wp2_with fail
            refine (refused_any n g ws _ _ hn (by rw [HLE.out] at W9; rw [HLE.out]; exact W9.out.low LK.out.low) HLL.out HWD.out).mono ?_
            rintro e wz ⟨rfl, hbz⟩
            go_wp2_with fail
            go_ret
            exact ⟨rfl, belowT (belowT B9.out LK.out.low) hbz⟩
/-- BitsetWords: the law answers true, whatever x. -/
theorem words_all (N : Int) (vA vB vC : Value) (zA : List Int) (w : World) (ht : Tab w) (iA : Ints w vA zA) (rA : zA.length * 8 ≤ 140737488351232) :
    Calls Tryd.prog 6 #[.agg #[.int .i64 N, vA, vB, vC]] w fun e w' => e = .returned (.bool true) ∧ Below w.heap.size w w' := by
  by_cases hN : 0 ≤ N ∧ N ≤ 65536
  · obtain ⟨n, rfl⟩ := Int.eq_ofNat_of_zero_le hN.1
    exact words_in n vA vB vC zA w ht (by omega) iA rA
  · exact words_out N vA vB vC w ht hN
end Go.Proofs.YtkagdmhijjfnnaaDoor
