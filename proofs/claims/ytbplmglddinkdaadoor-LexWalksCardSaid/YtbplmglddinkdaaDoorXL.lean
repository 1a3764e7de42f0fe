import Derived.Deep.Cut
import Derived.Test.YtbplmglddinkdaaDoorXK
namespace Go.Proofs.YtbplmglddinkdaaDoor.L
open Go.RowKit Go.Shelf
set_option linter.unusedVariables false
theorem dgs_size (t : ByteArray) : (dgs t).length = (dgT t).size := by rw [← dgT_list]; exact Array.length_toList
theorem head_bt (D : ByteArray) (h : 0 < D.size) : D.data.toList.head? = some (bt D 0) := by
  have := drop_bt D 0 h
  rw [List.drop_zero] at this
  rw [this]
  rfl
theorem take_all (D : ByteArray) : D.data.toList.take D.size = D.data.toList := by
  rw [show D.size = D.data.toList.length from (Array.length_toList).symm, List.take_length]
theorem lt17 {D : ByteArray} {k n : Nat} (hk : k < D.size) (hd : ¬ 18 < D.size) (ha : allD (D.data.toList.take k) = true) (hn : n = valF 0 (D.data.toList.take k)) : n < 100000000000000000 := by
  have := valF_lt (D.data.toList.take k) 0 ha
  rw [← hn, List.length_take] at this
  have h2 : 10 ^ (min k D.data.toList.length) ≤ 10 ^ 17 := Nat.pow_le_pow_right (by decide) (by omega)
  omega
theorem lt18 {l : List UInt8} {n : Nat} (hd : ¬ 18 < l.length) (ha : allD l = true) (hn : n = valF 0 l) : n < 1000000000000000000 := by
  have := valF_lt l 0 ha
  rw [← hn] at this
  have h2 : 10 ^ l.length ≤ 10 ^ 18 := Nat.pow_le_pow_right (by decide) (by omega)
  omega
theorem dig_nat' {y : Int} {c : UInt8} (h : iv c = y) (d : digB y = true) : ∃ m : Nat, y = 48 + m ∧ m ≤ 9 ∧ c.toNat - 48 = m := by
  rw [← h] at d
  have := (dig_nat c).1 d
  refine ⟨c.toNat - 48, ?_, by omega, rfl⟩
  rw [← h]
  unfold iv
  omega
theorem str_ne {t : ByteArray} (h : t.data.toList ≠ [48]) : (t.toList == [48]) = false := by
  rw [ByteArray.toList_eq]
  simpa using h
set_option maxHeartbeats 8000000 in
theorem rnumber_any (t : ByteArray) (w : World) (hs : t.size ≤ 4096) : Calls Tryd.prog 35 #[.string t] w fun e w' => e = .returned (numV (numS t)) ∧ w' = w := by
  have IW := hid (fun (x : Int) (W : World) => rdig_any x W)
  have HDL := hid (dgT_list t)
  by_cases c : bt t 0 = 45
  · have hsz : 0 < t.size := bt_nz (by rw [c]; decide)
    have hc0 := iv_get t 0 hsz
    rw [c, show iv 45 = 45 from rfl] at hc0
    have h1 : (1 : Int) ≤ t.size := by omega
    have hne : (t.toList == [48]) = false := str_ne (by
      intro e
      have := head_bt t hsz
      rw [e, c] at this
      exact absurd this (by decide))
    unfold dgT at HDL
    rw [if_pos c] at HDL
    have HC := hid c
    have hDs : (t.extract 1 t.size).size + 1 = t.size := by simp; omega
    clear c
    go_enter Tryd.func35, Tryd.ntmps35
    go_upto_region 4 with fail
    generalize t.extract 1 t.size = D at *
    clear hc0
    by_cases z1 : D.size < 1
    · have HR := hid (numS_none t (Or.inr (Or.inl (by rw [← HDL.out]; exact List.length_eq_zero_iff.1 (by rw [Array.length_toList]; exact Nat.lt_one_iff.1 z1)))))
      have z1' : (D.size : Int) < 1 := by omega
      go_wp2_with fail
      (try simp only [Exit.inBlock, Exit.then])
      refine bodyPost_ret (results_tmp2 rfl _ _ _) rfl ⟨?_, rfl⟩
      rw [HR.out]
      rfl
    · have z1' : ¬ (D.size : Int) < 1 := by omega
      by_cases z2 : 18 < D.size
      · have HR := hid (numS_none t (Or.inl (by rw [← HDL.out, Array.length_toList]; exact z2)))
        have z2' : (18 : Int) < D.size := by omega
        go_wp2_with fail
        (try simp only [Exit.inBlock, Exit.then])
        refine bodyPost_ret (results_tmp2 rfl _ _ _) rfl ⟨?_, rfl⟩
        rw [HR.out]
        rfl
      · have z2' : ¬ (18 : Int) < D.size := by omega
        go_wp2_with fail
        go_loop [5, 6] (fun v i => ∃ k n : Nat, k ≤ D.size ∧ i = .int .i64 k ∧ v = .int .i64 n ∧ Hid (allD (D.data.toList.take k) = true) ∧ Hid (n = valF 0 (D.data.toList.take k))) (fun _ i => D.size - (intOf i).toNat)
        case atStart => exact ⟨0, 0, Nat.zero_le _, rfl, rfl, hid rfl, hid rfl⟩
        case round =>
          obtain ⟨k, n, hk, rfl, rfl, HA, HN⟩ := hrel
          by_cases hlt : k < D.size
          · have hc := iv_get D k hlt
            obtain ⟨y, hy⟩ : ∃ y, iv (bt D k) = y := ⟨_, rfl⟩
            rw [hy] at hc
            have HI := hid (fun W => IW.out y W)
            have hn17 := lt17 hlt z2 HA.out HN.out
            cases cd : digB y
            · have HR := hid (numS_none t (Or.inr (Or.inr (by rw [← HDL.out]; exact allD_no D k hlt (by rw [hy]; exact cd)))))
              rw [cd] at HI
              clear hy cd
              go_wp2_with (go_at_call 32; refine (HI.out _).mono ?_; rintro e w1 ⟨rfl, hww⟩; subst hww)
              (try simp only [Exit.inBlock, Exit.then])
              refine bodyPost_ret (results_tmp2 rfl _ _ _) rfl ⟨?_, rfl⟩
              rw [HR.out]
              rfl
            · obtain ⟨m, e1, e2, e3⟩ := dig_nat' hy cd
              have HA2 := hid (show allD (D.data.toList.take (k + 1)) = true by rw [take_snoc D k hlt, allD_snoc, HA.out, hy, cd]; rfl)
              have HN2 := hid (show 10 * n + m = valF 0 (D.data.toList.take (k + 1)) by rw [take_snoc D k hlt, valF_snoc, ← HN.out, e3]; omega)
              rw [cd] at HI
              clear hy cd e3
              subst e1
              go_wp2_with (go_at_call 32; refine (HI.out _).mono ?_; rintro e w1 ⟨rfl, hww⟩; subst hww)
              exact ⟨⟨k + 1, 10 * n + m, by omega, by go_num, by go_num, HA2, HN2⟩, by simp [intOf]; omega⟩
          · have hke : k = D.size := by omega
            have HA2 := hid (show allD (dgs t) = true by rw [← HDL.out, ← take_all D, ← hke]; exact HA.out)
            have HN2 := hid (show n = valF 0 (dgs t) by rw [← HDL.out, ← take_all D, ← hke]; exact HN.out)
            have hz : 0 < D.size := by omega
            have hcz := iv_get D 0 hz
            have HH := hid (show (dgs t).head? = some (bt D 0) by rw [← HDL.out]; exact head_bt D hz)
            obtain ⟨z, hzz⟩ : ∃ z, iv (bt D 0) = z := ⟨_, rfl⟩
            rw [hzz] at hcz
            clear HA HN
            by_cases c48 : z = 48
            · have i48 : bt D 0 = 48 := iv_eq (n := 48) hzz c48 (by decide)
              rw [i48] at HH
              clear hzz
              subst c48
              have HR := hid (numS_zero t HH.out (Or.inl HC.out))
              go_wp2_with fail
              (try simp only [Exit.inBlock, Exit.then])
              refine bodyPost_ret (results_tmp2 rfl _ _ _) rfl ⟨?_, rfl⟩
              rw [HR.out]
              rfl
            · have n48 : bt D 0 ≠ 48 := iv_ne (n := 48) hzz c48 (by decide)
              have c48' : (z == 48) = false := by simpa using c48
              have HR := hid (numS_some t (by rw [← HDL.out, Array.length_toList]; exact z2) (by rw [HH.out]; intro e; exact n48 (Option.some.inj e)) (by intro e; have := HH.out; rw [e] at this; cases this) HA2.out)
              rw [if_pos HC.out] at HR
              rw [← HN2.out] at HR
              have hn18 := lt18 (by rw [← HDL.out, Array.length_toList]; exact z2) HA2.out HN2.out
              clear hzz n48
              go_wp2_with fail
              (try simp only [Exit.inBlock, Exit.then])
              refine bodyPost_ret (results_tmp2 rfl _ _ _) rfl ⟨?_, rfl⟩
              rw [HR.out]
              rfl
  · unfold dgT at HDL
    rw [if_neg c] at HDL
    have HC := hid c
    by_cases hsz : 0 < t.size
    · have hc0 := iv_get t 0 hsz
      obtain ⟨x, hx⟩ : ∃ x, iv (bt t 0) = x := ⟨_, rfl⟩
      rw [hx] at hc0
      have hx45 : (x == 45) = false := by rw [← hx]; exact ne_iv c
      clear hx c
      go_enter Tryd.func35, Tryd.ntmps35
      go_upto_region 4 with fail
      clear hc0
      by_cases z1 : t.size < 1
      · have HR := hid (numS_none t (Or.inr (Or.inl (by rw [← HDL.out]; exact List.length_eq_zero_iff.1 (by rw [Array.length_toList]; exact Nat.lt_one_iff.1 z1)))))
        have z1' : (t.size : Int) < 1 := by omega
        go_wp2_with fail
        (try simp only [Exit.inBlock, Exit.then])
        refine bodyPost_ret (results_tmp2 rfl _ _ _) rfl ⟨?_, rfl⟩
        rw [HR.out]
        rfl
      · have z1' : ¬ (t.size : Int) < 1 := by omega
        by_cases z2 : 18 < t.size
        · have HR := hid (numS_none t (Or.inl (by rw [← HDL.out, Array.length_toList]; exact z2)))
          have z2' : (18 : Int) < t.size := by omega
          go_wp2_with fail
          (try simp only [Exit.inBlock, Exit.then])
          refine bodyPost_ret (results_tmp2 rfl _ _ _) rfl ⟨?_, rfl⟩
          rw [HR.out]
          rfl
        · have z2' : ¬ (18 : Int) < t.size := by omega
          go_wp2_with fail
          go_loop [5, 6] (fun v i => ∃ k n : Nat, k ≤ t.size ∧ i = .int .i64 k ∧ v = .int .i64 n ∧ Hid (allD (t.data.toList.take k) = true) ∧ Hid (n = valF 0 (t.data.toList.take k))) (fun _ i => t.size - (intOf i).toNat)
          case atStart => exact ⟨0, 0, Nat.zero_le _, rfl, rfl, hid rfl, hid rfl⟩
          case round =>
            obtain ⟨k, n, hk, rfl, rfl, HA, HN⟩ := hrel
            by_cases hlt : k < t.size
            · have hc := iv_get t k hlt
              obtain ⟨y, hy⟩ : ∃ y, iv (bt t k) = y := ⟨_, rfl⟩
              rw [hy] at hc
              have HI := hid (fun W => IW.out y W)
              have hn17 := lt17 hlt z2 HA.out HN.out
              cases cd : digB y
              · have HR := hid (numS_none t (Or.inr (Or.inr (by rw [← HDL.out]; exact allD_no t k hlt (by rw [hy]; exact cd)))))
                rw [cd] at HI
                clear hy cd
                go_wp2_with (go_at_call 32; refine (HI.out _).mono ?_; rintro e w1 ⟨rfl, hww⟩; subst hww)
                (try simp only [Exit.inBlock, Exit.then])
                refine bodyPost_ret (results_tmp2 rfl _ _ _) rfl ⟨?_, rfl⟩
                rw [HR.out]
                rfl
              · obtain ⟨m, e1, e2, e3⟩ := dig_nat' hy cd
                have HA2 := hid (show allD (t.data.toList.take (k + 1)) = true by rw [take_snoc t k hlt, allD_snoc, HA.out, hy, cd]; rfl)
                have HN2 := hid (show 10 * n + m = valF 0 (t.data.toList.take (k + 1)) by rw [take_snoc t k hlt, valF_snoc, ← HN.out, e3]; omega)
                rw [cd] at HI
                clear hy cd e3
                subst e1
                go_wp2_with (go_at_call 32; refine (HI.out _).mono ?_; rintro e w1 ⟨rfl, hww⟩; subst hww)
                exact ⟨⟨k + 1, 10 * n + m, by omega, by go_num, by go_num, HA2, HN2⟩, by simp [intOf]; omega⟩
            · have hke : k = t.size := by omega
              have HA2 := hid (show allD (dgs t) = true by rw [← HDL.out, ← take_all t, ← hke]; exact HA.out)
              have HN2 := hid (show n = valF 0 (dgs t) by rw [← HDL.out, ← take_all t, ← hke]; exact HN.out)
              have hz : 0 < t.size := by omega
              have hcz := iv_get t 0 hz
              have HH := hid (show (dgs t).head? = some (bt t 0) by rw [← HDL.out]; exact head_bt t hz)
              obtain ⟨z, hzz⟩ : ∃ z, iv (bt t 0) = z := ⟨_, rfl⟩
              rw [hzz] at hcz
              clear HA HN
              by_cases c48 : z = 48
              · have i48 : bt t 0 = 48 := iv_eq (n := 48) hzz c48 (by decide)
                rw [i48] at HH
                clear hzz
                subst c48
                by_cases z3 : t.size = 1
                · have ht : t.data.toList = [48] := by
                    have := drop_bt t 0 hz
                    rw [List.drop_zero, i48, List.drop_eq_nil_of_le (by rw [Array.length_toList]; exact Nat.le_of_eq z3)] at this
                    exact this
                  have hst : t.toList = [48] := by rw [ByteArray.toList_eq]; exact ht
                  have HR := hid (show numS t = some 0 by unfold numS; rw [if_pos (by rw [← HDL.out]; exact ht), if_neg HC.out])
                  have hn0 : n = 0 := by rw [HN2.out, ← HDL.out, ht]; rfl
                  have HZ := hid hn0
                  clear i48 ht hn0
                  go_wp2_with fail
                  (try simp only [Exit.inBlock, Exit.then])
                  refine bodyPost_ret (results_tmp2 rfl _ _ _) rfl ⟨?_, rfl⟩
                  rw [HR.out, HZ.out]
                  rfl
                · have hne0 : t.data.toList ≠ [48] := by
                    intro e
                    have := congrArg List.length e
                    rw [Array.length_toList] at this
                    exact z3 this
                  have hne := str_ne hne0
                  have HR := hid (numS_zero t HH.out (Or.inr (by rw [← HDL.out]; exact hne0)))
                  go_wp2_with fail
                  (try simp only [Exit.inBlock, Exit.then])
                  refine bodyPost_ret (results_tmp2 rfl _ _ _) rfl ⟨?_, rfl⟩
                  rw [HR.out]
                  rfl
              · have n48 : bt t 0 ≠ 48 := iv_ne (n := 48) hzz c48 (by decide)
                have c48' : (z == 48) = false := by simpa using c48
                have HR := hid (numS_some t (by rw [← HDL.out, Array.length_toList]; exact z2) (by rw [HH.out]; intro e; exact n48 (Option.some.inj e)) (by intro e; have := HH.out; rw [e] at this; cases this) HA2.out)
                rw [if_neg HC.out] at HR
                rw [← HN2.out] at HR
                have hn18 := lt18 (by rw [← HDL.out, Array.length_toList]; exact z2) HA2.out HN2.out
                clear hzz n48
                go_wp2_with fail
                (try simp only [Exit.inBlock, Exit.then])
                refine bodyPost_ret (results_tmp2 rfl _ _ _) rfl ⟨?_, rfl⟩
                rw [HR.out]
                rfl
    · have HR := hid (numS_none t (Or.inr (Or.inl (by rw [← HDL.out]; exact List.length_eq_zero_iff.1 (by rw [Array.length_toList]; exact Nat.eq_zero_of_not_pos hsz)))))
      have hz0 : t.size = 0 := by omega
      clear c
      go_enter Tryd.func35, Tryd.ntmps35
      go_wp2_with fail
      (try simp only [Exit.inBlock, Exit.then])
      refine bodyPost_ret (results_tmp2 rfl _ _ _) rfl ⟨?_, rfl⟩
      rw [HR.out]
      rfl
end Go.Proofs.YtbplmglddinkdaaDoor.L
