import Derived.Test.YtcldglilhhhdoaaGreatDoorMgAG
import Derived.Deep.Cut
namespace Go.Proofs.YtcldglilhhhdoaaGreatDoor.L
open Go.RowKit Go.Shelf
set_option linter.unusedVariables false
set_option maxHeartbeats 2000000 in
/-- The document's gap. -/
theorem rgap_any (s : ByteArray) (k0 : Nat) (w : World) (hs : s.size ≤ 4096) (hk0 : k0 ≤ s.size) : Calls Tryz.prog 54 #[.string s, .int .i64 (k0 : Int)] w fun e w' => e = .returned (.int .i64 (gapS s k0)) ∧ w' = w := by
 go_enter Tryz.func54, Tryz.ntmps54
 go_wp2_with fail
 go_loop [1] (fun i => ∃ k : Nat, k ≤ s.size ∧ i = .int .i64 k ∧ Hid (gapS s k0 = gapS s k)) (fun i => s.size - (intOf i).toNat)
 case atStart => exact ⟨k0, hk0, rfl, hid rfl⟩
 case round =>
  obtain ⟨k, hk, rfl, HT⟩ := hrel
  by_cases hlt : k < s.size
  ·have hc := iv_get s k hlt
   obtain ⟨x, hx⟩ : ∃ x, iv (bt s k) = x := ⟨_, rfl⟩
   rw [hx] at hc
   by_cases c35 : x = 35
   ·have i35 : bt s k = 35 := iv_eq (n := 35) hx c35 (by decide)
    have HT := hid (HT.out.trans (gapS_rem s k hlt i35))
    have HG := hid (nlAt_gt s k hlt (by rw [i35]; decide))
    clear hx i35
    subst c35
    go_wp2_with fail
    go_loop [1] (fun i => ∃ j : Nat, k ≤ j ∧ j ≤ s.size ∧ i = .int .i64 j ∧ Hid (nlAt s k = nlAt s j)) (fun i => s.size - (intOf i).toNat)
    case atStart => exact ⟨k, Nat.le_refl _, hk, rfl, hid rfl⟩
    case round =>
     clear hc
     obtain ⟨j, h1, h2, rfl, HN⟩ := hrel
     by_cases jl : j < s.size
     ·have hc := iv_get s j jl
      obtain ⟨y, hy⟩ : ∃ y, iv (bt s j) = y := ⟨_, rfl⟩
      rw [hy] at hc
      by_cases c10 : y = 10
      ·have HN := hid (HN.out.trans (nlAt_yes s j jl (iv_eq (n := 10) hy c10 (by decide))))
       clear hy
       subst c10
       go_wp2
       refine ⟨⟨j, h2, rfl, by rw [HT.out, HN.out]; exact hid rfl⟩, ?_⟩
       have := HG.out
       rw [HN.out] at this
       simp [intOf]
       omega
      ·have HN := hid (HN.out.trans (nlAt_go s j jl (iv_ne (n := 10) hy c10 (by decide))))
       have c10' : (y == 10) = false := by simpa using c10
       clear hy
       go_wp2
       exact ⟨⟨j + 1, by omega, by omega, by go_num, HN⟩, by simp [intOf]; omega⟩
     ·have HN := hid (HN.out.trans (nlAt_end s j jl))
      go_wp2
      refine ⟨⟨j, h2, rfl, by rw [HT.out, HN.out]; exact hid rfl⟩, ?_⟩
      simp [intOf]
      omega
   ·have n35 := iv_ne (n := 35) hx c35 (by decide)
    have c35' : (x == 35) = false := by simpa using c35
    cases cb : blkB x
    ·have HT := hid (HT.out.trans (gapS_no s k hlt n35 (by rw [hx]; exact cb)))
     unfold blkB at cb
     simp only [Bool.or_eq_false_iff] at cb
     obtain ⟨⟨⟨b1, b2⟩, b3⟩, b4⟩ := cb
     clear hx n35
     go_wp2
     go_ret
     exact ⟨by rw [HT.out]; rfl, rfl⟩
    ·have HT := hid (HT.out.trans (gapS_blk s k hlt (by rw [hx]; exact cb)))
     unfold blkB at cb
     simp only [Bool.or_eq_true, beq_iff_eq] at cb
     clear hx n35
     rcases cb with ((h | h) | h) | h <;> subst h <;> go_wp2 <;> exact ⟨⟨k + 1, by omega, by go_num, HT⟩, by simp [intOf]; omega⟩
  ·have HT := hid (HT.out.trans (gapS_end s k hlt))
   go_wp2
   go_ret
   exact ⟨by rw [HT.out]; rfl, rfl⟩
theorem take_snoc (D : ByteArray) (k : Nat) (h : k < D.size) : D.data.toList.take (k + 1) = D.data.toList.take k ++ [bt D k] := by
 have hk : k < D.data.toList.length := by rw [Array.length_toList]; exact h
 rw [List.take_succ_eq_append_getElem hk]
 unfold bt
 rw [List.getD_eq_getElem?_getD, List.getElem?_eq_getElem hk]
 rfl
theorem allD_snoc (l : List UInt8) (c : UInt8) : allD (l ++ [c]) = (allD l && digB (iv c)) := by
 unfold allD
 rw [List.all_append]
 simp
theorem valF_snoc (n : Nat) (l : List UInt8) (c : UInt8) : valF n (l ++ [c]) = valF n l * 10 + (c.toNat - 48) := by
 unfold valF
 rw [List.foldl_append]
 rfl
theorem valF_lt : ∀ (l : List UInt8) (n : Nat), allD l = true → valF n l < (n + 1) * 10 ^ l.length
 | [], n, _ => by simp [valF]
 | c :: r, n, h => by
  have h' : digB (iv c) = true ∧ allD r = true := by simpa [allD] using h
  have := valF_lt r (n * 10 + (c.toNat - 48)) h'.2
  have hd := (dig_nat c).1 h'.1
  show valF (n * 10 + (c.toNat - 48)) r < _
  rw [List.length_cons, Nat.pow_succ]
  refine Nat.lt_of_lt_of_le this ?_
  rw [show (n + 1) * (10 ^ r.length * 10) = (n * 10 + 10) * 10 ^ r.length by rw [Nat.mul_comm (10 ^ r.length) 10, ← Nat.mul_assoc]; congr 1; omega]
  exact Nat.mul_le_mul_right _ (by omega)
def numV : Option Int → Value
 | some n => .tuple #[.int .i64 n, .bool true]
 | none => .tuple #[.int .i64 0, .bool false]
theorem allD_no (D : ByteArray) (k : Nat) (h : k < D.size) (c : digB (iv (bt D k)) = false) : allD D.data.toList = false := by
 rw [← List.take_append_drop k D.data.toList, drop_bt D k h]
 unfold allD
 rw [List.all_append, List.all_cons, c]
 simp
theorem numS_none (t : ByteArray) (h : 18 < (dgs t).length ∨ dgs t = [] ∨ allD (dgs t) = false) : numS t = none := by
 unfold numS
 by_cases c : dgs t = [48]
 ·rw [c] at h
  simp [allD] at h
  exact absurd h (by decide)
 ·rw [if_neg c, if_pos]
  rcases h with h | h | h
  ·exact Or.inl h
  ·exact Or.inr (Or.inr (Or.inl h))
  ·exact Or.inr (Or.inr (Or.inr h))
theorem numS_zero (t : ByteArray) (h : (dgs t).head? = some 48) (hn : bt t 0 = 45 ∨ dgs t ≠ [48]) : numS t = none := by
 unfold numS
 by_cases c : dgs t = [48]
 ·rw [if_pos c]
  rcases hn with hn | hn
  ·rw [if_pos hn]
  ·exact absurd c hn
 ·rw [if_neg c, if_pos (Or.inr (Or.inl h))]
theorem numS_some (t : ByteArray) (h1 : ¬ 18 < (dgs t).length) (h2 : (dgs t).head? ≠ some 48) (h3 : dgs t ≠ []) (h4 : allD (dgs t) = true) : numS t = some (if bt t 0 = 45 then -(valF 0 (dgs t) : Int) else valF 0 (dgs t)) := by
 unfold numS
 rw [if_neg (by intro e; rw [e] at h2; exact h2 rfl), if_neg]
 rintro (h | h | h | h)
 ·exact h1 h
 ·exact h2 h
 ·exact h3 h
 ·rw [h4] at h; cases h
end Go.Proofs.YtcldglilhhhdoaaGreatDoor.L
namespace Go.Proofs.YtcldglilhhhdoaaGreatDoor.L
open Go.RowKit Go.Shelf
set_option linter.unusedVariables false
theorem head_bt (D : ByteArray) (h : 0 < D.size) : D.data.toList.head? = some (bt D 0) := by
 have := drop_bt D 0 h
 rw [List.drop_zero] at this
 rw [this]
 rfl
theorem take_all (D : ByteArray) : D.data.toList.take D.size = D.data.toList := by
 rw [show D.size = D.data.toList.length from (Array.length_toList).symm, List.take_length]
theorem lt17 {D : ByteArray} {k n : Nat} (hk : k < D.size) (hd : ¬ 18 < D.size) (ha : allD (D.data.toList.take k) = true) (hn : n = valF 0 (D.data.toList.take k)) : n < 100000000000000000 := by
 have := valF_lt (D.data.toList.take k) 0 ha
 rw [← hn, List.length_take] at this
 have h2 : 10 ^ (min k D.data.toList.length) ≤ 10 ^ 17 := Nat.pow_le_pow_right (by decide) (by omega)
 omega
theorem lt18 {l : List UInt8} {n : Nat} (hd : ¬ 18 < l.length) (ha : allD l = true) (hn : n = valF 0 l) : n < 1000000000000000000 := by
 have := valF_lt l 0 ha
 rw [← hn] at this
 have h2 : 10 ^ l.length ≤ 10 ^ 18 := Nat.pow_le_pow_right (by decide) (by omega)
 omega
theorem dig_nat' {y : Int} {c : UInt8} (h : iv c = y) (d : digB y = true) : ∃ m : Nat, y = 48 + m ∧ m ≤ 9 ∧ c.toNat - 48 = m := by
 rw [← h] at d
 have := (dig_nat c).1 d
 refine ⟨c.toNat - 48, ?_, by omega, rfl⟩
 rw [← h]
 unfold iv
 omega
theorem str_ne {t : ByteArray} (h : t.data.toList ≠ [48]) : (t.toList == [48]) = false := by
 rw [ByteArray.toList_eq]
 simpa using h
set_option maxHeartbeats 8000000 in
theorem rnumber_any (t : ByteArray) (w : World) (hs : t.size ≤ 4096) : Calls Tryz.prog 80 #[.string t] w fun e w' => e = .returned (numV (numS t)) ∧ w' = w := by
 have IW := hid (fun (x : Int) (W : World) => rdig_any x W)
 have HDL := hid (dgT_list t)
 by_cases c : bt t 0 = 45
 ·have hsz : 0 < t.size := bt_nz (by rw [c]; decide)
  have hc0 := iv_get t 0 hsz
  rw [c, show iv 45 = 45 from rfl] at hc0
  have h1 : (1 : Int) ≤ t.size := by omega
  have hne : (t.toList == [48]) = false := str_ne (by
   intro e
   have := head_bt t hsz
   rw [e, c] at this
   exact absurd this (by decide))
  unfold dgT at HDL
  rw [if_pos c] at HDL
  have HC := hid c
  have hDs : (t.extract 1 t.size).size + 1 = t.size := by simp; omega
  clear c
  go_enter Tryz.func80, Tryz.ntmps80
  go_upto_region 4 with fail
  generalize t.extract 1 t.size = D at *
  clear hc0
  by_cases z1 : D.size < 1
  ·have HR := hid (numS_none t (Or.inr (Or.inl (by rw [← HDL.out]; exact List.length_eq_zero_iff.1 (by rw [Array.length_toList]; exact Nat.lt_one_iff.1 z1)))))
   have z1' : (D.size : Int) < 1 := by omega
   go_wp2_with fail
   (try simp only [Exit.inBlock, Exit.then])
   refine bodyPost_ret (results_tmp2 rfl _ _ _) rfl ⟨?_, rfl⟩
   rw [HR.out]
   rfl
  ·have z1' : ¬ (D.size : Int) < 1 := by omega
   by_cases z2 : 18 < D.size
   ·have HR := hid (numS_none t (Or.inl (by rw [← HDL.out, Array.length_toList]; exact z2)))
    have z2' : (18 : Int) < D.size := by omega
    go_wp2_with fail
    (try simp only [Exit.inBlock, Exit.then])
    refine bodyPost_ret (results_tmp2 rfl _ _ _) rfl ⟨?_, rfl⟩
    rw [HR.out]
    rfl
   ·have z2' : ¬ (18 : Int) < D.size := by omega
    go_wp2_with fail
    go_loop [5, 6] (fun v i => ∃ k n : Nat, k ≤ D.size ∧ i = .int .i64 k ∧ v = .int .i64 n ∧ Hid (allD (D.data.toList.take k) = true) ∧ Hid (n = valF 0 (D.data.toList.take k))) (fun _ i => D.size - (intOf i).toNat)
    case atStart => exact ⟨0, 0, Nat.zero_le _, rfl, rfl, hid rfl, hid rfl⟩
    case round =>
     obtain ⟨k, n, hk, rfl, rfl, HA, HN⟩ := hrel
     by_cases hlt : k < D.size
     ·have hc := iv_get D k hlt
      obtain ⟨y, hy⟩ : ∃ y, iv (bt D k) = y := ⟨_, rfl⟩
      rw [hy] at hc
      have HI := hid (fun W => IW.out y W)
      have hn17 := lt17 hlt z2 HA.out HN.out
      cases cd : digB y
      ·have HR := hid (numS_none t (Or.inr (Or.inr (by rw [← HDL.out]; exact allD_no D k hlt (by rw [hy]; exact cd)))))
       rw [cd] at HI
       clear hy cd
       go_wp2_with (go_at_call 77; refine (HI.out _).mono ?_; rintro e w1 ⟨rfl, hww⟩; subst hww)
       (try simp only [Exit.inBlock, Exit.then])
       refine bodyPost_ret (results_tmp2 rfl _ _ _) rfl ⟨?_, rfl⟩
       rw [HR.out]
       rfl
      ·obtain ⟨m, e1, e2, e3⟩ := dig_nat' hy cd
       have HA2 := hid (show allD (D.data.toList.take (k + 1)) = true by rw [take_snoc D k hlt, allD_snoc, HA.out, hy, cd]; rfl)
       have HN2 := hid (show 10 * n + m = valF 0 (D.data.toList.take (k + 1)) by rw [take_snoc D k hlt, valF_snoc, ← HN.out, e3]; omega)
       rw [cd] at HI
       clear hy cd e3
       subst e1
       go_wp2_with (go_at_call 77; refine (HI.out _).mono ?_; rintro e w1 ⟨rfl, hww⟩; subst hww)
       exact ⟨⟨k + 1, 10 * n + m, by omega, by go_num, by go_num, HA2, HN2⟩, by simp [intOf]; omega⟩
     ·have hke : k = D.size := by omega
      have HA2 := hid (show allD (dgs t) = true by rw [← HDL.out, ← take_all D, ← hke]; exact HA.out)
      have HN2 := hid (show n = valF 0 (dgs t) by rw [← HDL.out, ← take_all D, ← hke]; exact HN.out)
      have hz : 0 < D.size := by omega
      have hcz := iv_get D 0 hz
      have HH := hid (show (dgs t).head? = some (bt D 0) by rw [← HDL.out]; exact head_bt D hz)
      obtain ⟨z, hzz⟩ : ∃ z, iv (bt D 0) = z := ⟨_, rfl⟩
      rw [hzz] at hcz
      clear HA HN
      by_cases c48 : z = 48
      ·have i48 : bt D 0 = 48 := iv_eq (n := 48) hzz c48 (by decide)
       rw [i48] at HH
       clear hzz
       subst c48
       have HR := hid (numS_zero t HH.out (Or.inl HC.out))
       go_wp2_with fail
       (try simp only [Exit.inBlock, Exit.then])
       refine bodyPost_ret (results_tmp2 rfl _ _ _) rfl ⟨?_, rfl⟩
       rw [HR.out]
       rfl
      ·have n48 : bt D 0 ≠ 48 := iv_ne (n := 48) hzz c48 (by decide)
       have c48' : (z == 48) = false := by simpa using c48
       have HR := hid (numS_some t (by rw [← HDL.out, Array.length_toList]; exact z2) (by rw [HH.out]; intro e; exact n48 (Option.some.inj e)) (by intro e; have := HH.out; rw [e] at this; cases this) HA2.out)
       rw [if_pos HC.out] at HR
       rw [← HN2.out] at HR
       have hn18 := lt18 (by rw [← HDL.out, Array.length_toList]; exact z2) HA2.out HN2.out
       clear hzz n48
       go_wp2_with fail
       (try simp only [Exit.inBlock, Exit.then])
       refine bodyPost_ret (results_tmp2 rfl _ _ _) rfl ⟨?_, rfl⟩
       rw [HR.out]
       rfl
 ·unfold dgT at HDL
  rw [if_neg c] at HDL
  have HC := hid c
  by_cases hsz : 0 < t.size
  ·have hc0 := iv_get t 0 hsz
   obtain ⟨x, hx⟩ : ∃ x, iv (bt t 0) = x := ⟨_, rfl⟩
   rw [hx] at hc0
   have hx45 : (x == 45) = false := by rw [← hx]; exact ne_iv c
   clear hx c
   go_enter Tryz.func80, Tryz.ntmps80
   go_upto_region 4 with fail
   clear hc0
   by_cases z1 : t.size < 1
   ·have HR := hid (numS_none t (Or.inr (Or.inl (by rw [← HDL.out]; exact List.length_eq_zero_iff.1 (by rw [Array.length_toList]; exact Nat.lt_one_iff.1 z1)))))
    have z1' : (t.size : Int) < 1 := by omega
    go_wp2_with fail
    (try simp only [Exit.inBlock, Exit.then])
    refine bodyPost_ret (results_tmp2 rfl _ _ _) rfl ⟨?_, rfl⟩
    rw [HR.out]
    rfl
   ·have z1' : ¬ (t.size : Int) < 1 := by omega
    by_cases z2 : 18 < t.size
    ·have HR := hid (numS_none t (Or.inl (by rw [← HDL.out, Array.length_toList]; exact z2)))
     have z2' : (18 : Int) < t.size := by omega
     go_wp2_with fail
     (try simp only [Exit.inBlock, Exit.then])
     refine bodyPost_ret (results_tmp2 rfl _ _ _) rfl ⟨?_, rfl⟩
     rw [HR.out]
     rfl
    ·have z2' : ¬ (18 : Int) < t.size := by omega
     go_wp2_with fail
     go_loop [5, 6] (fun v i => ∃ k n : Nat, k ≤ t.size ∧ i = .int .i64 k ∧ v = .int .i64 n ∧ Hid (allD (t.data.toList.take k) = true) ∧ Hid (n = valF 0 (t.data.toList.take k))) (fun _ i => t.size - (intOf i).toNat)
     case atStart => exact ⟨0, 0, Nat.zero_le _, rfl, rfl, hid rfl, hid rfl⟩
     case round =>
      obtain ⟨k, n, hk, rfl, rfl, HA, HN⟩ := hrel
      by_cases hlt : k < t.size
      ·have hc := iv_get t k hlt
       obtain ⟨y, hy⟩ : ∃ y, iv (bt t k) = y := ⟨_, rfl⟩
       rw [hy] at hc
       have HI := hid (fun W => IW.out y W)
       have hn17 := lt17 hlt z2 HA.out HN.out
       cases cd : digB y
       ·have HR := hid (numS_none t (Or.inr (Or.inr (by rw [← HDL.out]; exact allD_no t k hlt (by rw [hy]; exact cd)))))
        rw [cd] at HI
        clear hy cd
        go_wp2_with (go_at_call 77; refine (HI.out _).mono ?_; rintro e w1 ⟨rfl, hww⟩; subst hww)
        (try simp only [Exit.inBlock, Exit.then])
        refine bodyPost_ret (results_tmp2 rfl _ _ _) rfl ⟨?_, rfl⟩
        rw [HR.out]
        rfl
       ·obtain ⟨m, e1, e2, e3⟩ := dig_nat' hy cd
        have HA2 := hid (show allD (t.data.toList.take (k + 1)) = true by rw [take_snoc t k hlt, allD_snoc, HA.out, hy, cd]; rfl)
        have HN2 := hid (show 10 * n + m = valF 0 (t.data.toList.take (k + 1)) by rw [take_snoc t k hlt, valF_snoc, ← HN.out, e3]; omega)
        rw [cd] at HI
        clear hy cd e3
        subst e1
        go_wp2_with (go_at_call 77; refine (HI.out _).mono ?_; rintro e w1 ⟨rfl, hww⟩; subst hww)
        exact ⟨⟨k + 1, 10 * n + m, by omega, by go_num, by go_num, HA2, HN2⟩, by simp [intOf]; omega⟩
      ·have hke : k = t.size := by omega
       have HA2 := hid (show allD (dgs t) = true by rw [← HDL.out, ← take_all t, ← hke]; exact HA.out)
       have HN2 := hid (show n = valF 0 (dgs t) by rw [← HDL.out, ← take_all t, ← hke]; exact HN.out)
       have hz : 0 < t.size := by omega
       have hcz := iv_get t 0 hz
       have HH := hid (show (dgs t).head? = some (bt t 0) by rw [← HDL.out]; exact head_bt t hz)
       obtain ⟨z, hzz⟩ : ∃ z, iv (bt t 0) = z := ⟨_, rfl⟩
       rw [hzz] at hcz
       clear HA HN
       by_cases c48 : z = 48
       ·have i48 : bt t 0 = 48 := iv_eq (n := 48) hzz c48 (by decide)
        rw [i48] at HH
        clear hzz
        subst c48
        by_cases z3 : t.size = 1
        ·have ht : t.data.toList = [48] := by
          have := drop_bt t 0 hz
          rw [List.drop_zero, i48, List.drop_eq_nil_of_le (by rw [Array.length_toList]; exact Nat.le_of_eq z3)] at this
          exact this
         have hst : t.toList = [48] := by rw [ByteArray.toList_eq]; exact ht
         have HR := hid (show numS t = some 0 by unfold numS; rw [if_pos (by rw [← HDL.out]; exact ht), if_neg HC.out])
         have hn0 : n = 0 := by rw [HN2.out, ← HDL.out, ht]; rfl
         have HZ := hid hn0
         clear i48 ht hn0
         go_wp2_with fail
         (try simp only [Exit.inBlock, Exit.then])
         refine bodyPost_ret (results_tmp2 rfl _ _ _) rfl ⟨?_, rfl⟩
         rw [HR.out, HZ.out]
         rfl
        ·have hne0 : t.data.toList ≠ [48] := by
          intro e
          have := congrArg List.length e
          rw [Array.length_toList] at this
          exact z3 this
         have hne := str_ne hne0
         have HR := hid (numS_zero t HH.out (Or.inr (by rw [← HDL.out]; exact hne0)))
         go_wp2_with fail
         (try simp only [Exit.inBlock, Exit.then])
         refine bodyPost_ret (results_tmp2 rfl _ _ _) rfl ⟨?_, rfl⟩
         rw [HR.out]
         rfl
       ·have n48 : bt t 0 ≠ 48 := iv_ne (n := 48) hzz c48 (by decide)
        have c48' : (z == 48) = false := by simpa using c48
        have HR := hid (numS_some t (by rw [← HDL.out, Array.length_toList]; exact z2) (by rw [HH.out]; intro e; exact n48 (Option.some.inj e)) (by intro e; have := HH.out; rw [e] at this; cases this) HA2.out)
        rw [if_neg HC.out] at HR
        rw [← HN2.out] at HR
        have hn18 := lt18 (by rw [← HDL.out, Array.length_toList]; exact z2) HA2.out HN2.out
        clear hzz n48
        go_wp2_with fail
        (try simp only [Exit.inBlock, Exit.then])
        refine bodyPost_ret (results_tmp2 rfl _ _ _) rfl ⟨?_, rfl⟩
        rw [HR.out]
        rfl
  ·have HR := hid (numS_none t (Or.inr (Or.inl (by rw [← HDL.out]; exact List.length_eq_zero_iff.1 (by rw [Array.length_toList]; exact Nat.eq_zero_of_not_pos hsz)))))
   have hz0 : t.size = 0 := by omega
   clear c
   go_enter Tryz.func80, Tryz.ntmps80
   go_wp2_with fail
   (try simp only [Exit.inBlock, Exit.then])
   refine bodyPost_ret (results_tmp2 rfl _ _ _) rfl ⟨?_, rfl⟩
   rw [HR.out]
   rfl
end Go.Proofs.YtcldglilhhhdoaaGreatDoor.L
namespace Go.Proofs.YtcldglilhhhdoaaGreatDoor.L
open Go.RowKit Go.Shelf
set_option linter.unusedVariables false
/-- The document's marks, in its order. -/
def mkT : Nat → ByteArray
 | 0 => ⟨#[38, 38]⟩ | 1 => ⟨#[124, 124]⟩ | 2 => ⟨#[61, 61]⟩ | 3 => ⟨#[33, 61]⟩ | 4 => ⟨#[60, 61]⟩ | 5 => ⟨#[62, 61]⟩
 | 6 => ⟨#[33]⟩ | 7 => ⟨#[60]⟩ | 8 => ⟨#[62]⟩ | 9 => ⟨#[40]⟩ | 10 => ⟨#[41]⟩ | 11 => ⟨#[91]⟩ | 12 => ⟨#[93]⟩ | 13 => ⟨#[123]⟩ | 14 => ⟨#[125]⟩ | 15 => ⟨#[44]⟩ | 16 => ⟨#[46]⟩
 | _ => ⟨#[]⟩
theorem upto17 {j : Nat} (h : j ≤ 17) : j = 0 ∨ j = 1 ∨ j = 2 ∨ j = 3 ∨ j = 4 ∨ j = 5 ∨ j = 6 ∨ j = 7 ∨ j = 8 ∨ j = 9 ∨ j = 10 ∨ j = 11 ∨ j = 12 ∨ j = 13 ∨ j = 14 ∨ j = 15 ∨ j = 16 ∨ j = 17 := by omega
set_option maxHeartbeats 4000000 in
theorem rmarks_any (j : Nat) (hj : j ≤ 17) (w : World) : Calls Tryz.prog 81 #[.int .i64 (j : Int)] w fun e w' => e = .returned (.string (mkT j)) ∧ w' = w := by
 rcases upto17 hj with h | h | h | h | h | h | h | h | h | h | h | h | h | h | h | h | h | h <;> subst h <;>
 ·go_enter Tryz.func81, Tryz.ntmps81
  go_wp2_with fail
  go_ret
  exact ⟨rfl, rfl⟩
def hit (s : ByteArray) (k : Nat) (m : ByteArray) : Prop := k + m.size ≤ s.size ∧ (s.extract k (k + m.size)).toList = m.toList
theorem ext1 (s : ByteArray) (k : Nat) (h : k + 1 ≤ s.size) : (s.extract k (k + 1)).toList = [bt s k] := by
 rw [ByteArray.toList_eq, ByteArray.data_extract]
 have h1 := drop_bt s k (by omega)
 simp at h1 ⊢
 rw [h1]
 rfl
theorem hit2 {s : ByteArray} {k : Nat} {a b : UInt8} : hit s k ⟨#[a, b]⟩ ↔ k + 2 ≤ s.size ∧ bt s k = a ∧ bt s (k + 1) = b := by
 unfold hit
 rw [show (⟨#[a, b]⟩ : ByteArray).size = 2 from rfl, show (⟨#[a, b]⟩ : ByteArray).toList = [a, b] by rw [ByteArray.toList_eq]]
 constructor
 ·rintro ⟨h1, h2⟩
  rw [two_list s k h1] at h2
  simp at h2
  exact ⟨h1, h2⟩
 ·rintro ⟨h1, h2, h3⟩
  exact ⟨h1, by rw [two_list s k h1, h2, h3]⟩
theorem hit1 {s : ByteArray} {k : Nat} {a : UInt8} : hit s k ⟨#[a]⟩ ↔ k + 1 ≤ s.size ∧ bt s k = a := by
 unfold hit
 rw [show (⟨#[a]⟩ : ByteArray).size = 1 from rfl, show (⟨#[a]⟩ : ByteArray).toList = [a] by rw [ByteArray.toList_eq]]
 constructor
 ·rintro ⟨h1, h2⟩
  rw [ext1 s k h1] at h2
  simp at h2
  exact ⟨h1, h2⟩
 ·rintro ⟨h1, h2⟩
  exact ⟨h1, by rw [ext1 s k h1, h2]⟩
theorem mk2_hit {s : ByteArray} {k : Nat} (h : mk2 (bt s k) (bt s (k + 1)) = true) : ∃ j, j < 6 ∧ hit s k (mkT j) := by
 have h2 := mk2_size h
 unfold mk2 at h
 simp only [Bool.or_eq_true, Bool.and_eq_true, beq_iff_eq] at h
 rcases h with ((((h | h) | h) | h) | h) | h
 ·exact ⟨0, by decide, hit2.2 ⟨h2, h⟩⟩
 ·exact ⟨1, by decide, hit2.2 ⟨h2, h⟩⟩
 ·exact ⟨2, by decide, hit2.2 ⟨h2, h⟩⟩
 ·exact ⟨3, by decide, hit2.2 ⟨h2, h⟩⟩
 ·exact ⟨4, by decide, hit2.2 ⟨h2, h⟩⟩
 ·exact ⟨5, by decide, hit2.2 ⟨h2, h⟩⟩
theorem mk1_cases (a : UInt8) (h : mk1 a = true) : a = 33 ∨ a = 60 ∨ a = 62 ∨ a = 40 ∨ a = 41 ∨ a = 91 ∨ a = 93 ∨ a = 123 ∨ a = 125 ∨ a = 44 ∨ a = 46 := by
 have := all_u8 (p := fun a => ! mk1 a || (a == 33 || a == 60 || a == 62 || a == 40 || a == 41 || a == 91 || a == 93 || a == 123 || a == 125 || a == 44 || a == 46)) (by decide +kernel) a
 rw [h] at this
 simpa [or_assoc] using this
theorem mk1_hit {s : ByteArray} {k : Nat} (hk : k < s.size) (h : mk1 (bt s k) = true) : ∃ j, j < 17 ∧ hit s k (mkT j) := by
 rcases mk1_cases _ h with h | h | h | h | h | h | h | h | h | h | h
 ·exact ⟨6, by decide, hit1.2 ⟨hk, h⟩⟩
 ·exact ⟨7, by decide, hit1.2 ⟨hk, h⟩⟩
 ·exact ⟨8, by decide, hit1.2 ⟨hk, h⟩⟩
 ·exact ⟨9, by decide, hit1.2 ⟨hk, h⟩⟩
 ·exact ⟨10, by decide, hit1.2 ⟨hk, h⟩⟩
 ·exact ⟨11, by decide, hit1.2 ⟨hk, h⟩⟩
 ·exact ⟨12, by decide, hit1.2 ⟨hk, h⟩⟩
 ·exact ⟨13, by decide, hit1.2 ⟨hk, h⟩⟩
 ·exact ⟨14, by decide, hit1.2 ⟨hk, h⟩⟩
 ·exact ⟨15, by decide, hit1.2 ⟨hk, h⟩⟩
 ·exact ⟨16, by decide, hit1.2 ⟨hk, h⟩⟩
theorem mark_miss {s : ByteArray} {k : Nat} (hk : k < s.size) (h : ∀ j, j < 17 → ¬ hit s k (mkT j)) : markS s k = .bad 111 k := by
 unfold markS
 rw [if_neg (by intro e; obtain ⟨j, h1, h2⟩ := mk2_hit e; exact h j (by omega) h2), if_neg (by intro e; obtain ⟨j, h1, h2⟩ := mk1_hit hk e; exact h j h1 h2)]
theorem ext_eq {s m : ByteArray} {a b : Nat} (h : (s.extract a b).toList = m.toList) : s.extract a b = m := by
 rw [ByteArray.toList_eq, ByteArray.toList_eq] at h
 exact ByteArray.ext (Array.toList_inj.1 h)
theorem mark_hit1 {s : ByteArray} {k j : Nat} {a : UInt8} (hm : mkT j = ⟨#[a]⟩) (h6 : 6 ≤ j) (ha : mk1 a = true) (h : hit s k (mkT j)) (hn : ∀ i, i < j → ¬ hit s k (mkT i)) : markS s k = .ok ⟨4, mkT j, 0, k, k + (mkT j).size⟩ := by
 have he := ext_eq h.2
 have hb : bt s k = a := by rw [hm] at h; exact (hit1.1 h).2
 unfold markS
 rw [if_neg (by intro e; obtain ⟨i, h1, h2⟩ := mk2_hit e; exact hn i (by omega) h2), if_pos (by rw [hb]; exact ha)]
 rw [show (mkT j).size = 1 by rw [hm]; rfl] at he ⊢
 rw [he]
theorem mark_hit2 {s : ByteArray} {k j : Nat} {a b : UInt8} (hm : mkT j = ⟨#[a, b]⟩) (ha : mk2 a b = true) (h : hit s k (mkT j)) : markS s k = .ok ⟨4, mkT j, 0, k, k + (mkT j).size⟩ := by
 have he := ext_eq h.2
 have hb : bt s k = a ∧ bt s (k + 1) = b := by rw [hm] at h; exact (hit2.1 h).2
 unfold markS
 rw [if_pos (by rw [hb.1, hb.2]; exact ha)]
 rw [show (mkT j).size = 2 by rw [hm]; rfl] at he ⊢
 rw [he]
theorem mark_hit {s : ByteArray} {k j : Nat} (hj : j < 17) (h : hit s k (mkT j)) (hn : ∀ i, i < j → ¬ hit s k (mkT i)) : markS s k = .ok ⟨4, mkT j, 0, k, k + (mkT j).size⟩ := by
 rcases upto17 (Nat.le_of_lt hj) with e | e | e | e | e | e | e | e | e | e | e | e | e | e | e | e | e | e
 ·subst e; exact mark_hit2 rfl (by decide) h
 ·subst e; exact mark_hit2 rfl (by decide) h
 ·subst e; exact mark_hit2 rfl (by decide) h
 ·subst e; exact mark_hit2 rfl (by decide) h
 ·subst e; exact mark_hit2 rfl (by decide) h
 ·subst e; exact mark_hit2 rfl (by decide) h
 ·subst e; exact mark_hit1 rfl (by decide) (by decide) h hn
 ·subst e; exact mark_hit1 rfl (by decide) (by decide) h hn
 ·subst e; exact mark_hit1 rfl (by decide) (by decide) h hn
 ·subst e; exact mark_hit1 rfl (by decide) (by decide) h hn
 ·subst e; exact mark_hit1 rfl (by decide) (by decide) h hn
 ·subst e; exact mark_hit1 rfl (by decide) (by decide) h hn
 ·subst e; exact mark_hit1 rfl (by decide) (by decide) h hn
 ·subst e; exact mark_hit1 rfl (by decide) (by decide) h hn
 ·subst e; exact mark_hit1 rfl (by decide) (by decide) h hn
 ·subst e; exact mark_hit1 rfl (by decide) (by decide) h hn
 ·subst e; exact mark_hit1 rfl (by decide) (by decide) h hn
 ·omega
theorem mkT_ne {j : Nat} (h : j < 17) : 1 ≤ (mkT j).size ∧ (mkT j).size ≤ 2 ∧ (mkT j).toList ≠ [] := by
 rw [ByteArray.toList_eq]
 rcases upto17 (Nat.le_of_lt h) with e | e | e | e | e | e | e | e | e | e | e | e | e | e | e | e | e | e
 any_goals (subst e; decide)
 omega
end Go.Proofs.YtcldglilhhhdoaaGreatDoor.L
