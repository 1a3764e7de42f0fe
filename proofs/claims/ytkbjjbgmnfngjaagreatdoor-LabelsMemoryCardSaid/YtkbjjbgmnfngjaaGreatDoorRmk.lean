import Derived.Test.YtkbjjbgmnfngjaaGreatDoorRri
import Derived.Test.YtkbjjbgmnfngjaaGreatDoorRck
namespace Go.Proofs.YtkbjjbgmnfngjaaGreatDoor.L
open Go.RowKit
set_option linter.unusedVariables false
set_option maxHeartbeats 4000000 in
theorem rmake_many (v : Value) (l : List Lb) (w : World) (hi : Items w v l) (hl : l.length ≤ maxLen) (h : 32 < l.length) : Calls Tryz.prog 26 #[v] w fun e w' => e = .returned (.tuple #[.slice none 0 0, .string ByteArray.empty, .int .i64 34]) ∧ w' = w := by
  obtain ⟨a, cap, rfl, hi⟩ := hi
  unfold maxLen at hl
  generalize l.length = len at *
  clear hi
  go_enter Tryz.func26, Tryz.ntmps26
  go_wp2
  go_ret3
  exact ⟨rfl, rfl⟩
set_option maxHeartbeats 8000000 in
set_option maxRecDepth 100000 in
theorem rmake_few (v : Value) (l : List Lb) (w : World) (hi : Items w v l) (hg : Good l) (h : l.length ≤ 32) : Calls Tryz.prog 26 #[v] w fun e w' => ∃ v' l', e = .returned (.tuple #[v', .string (makeN l).1, .int .i64 (makeN l).2]) ∧ Below w.heap.size w w' ∧ (((makeN l).2 ≠ 0 ∧ v' = .slice none 0 0) ∨ ((makeN l).2 = 0 ∧ Own w' w.heap.size v' l' ∧ l'.Perm l ∧ Up l')) := by
  have HIT := hid hi
  have F3 := hid (fun s W (hb : Below w.heap.size w W) => rfind_any v l s W (hi.low hb) hg.1.1)
  have HRI := hid (fun W (hb : Below w.heap.size w W) hd => rrise_any v l W (hi.low hb) (by omega) hd)
  obtain ⟨a, cap, rfl, hi⟩ := hi
  have HR := hid (show makeN l = mkS l (l.length - 0) 0 by unfold makeN; rw [if_neg (by omega)]; rfl)
  have HG := hid hg.2
  obtain ⟨len, hlen⟩ : ∃ n, n = l.length := ⟨_, rfl⟩
  have HLEN := hid hlen
  rw [← hlen] at h hi HR F3 HRI ⊢
  have HI := hid hi
  clear hg hlen hi HIT
  go_enter Tryz.func26, Tryz.ntmps26
  go_wp2
  go_loopw [5] (fun i wr => ∃ k : Nat, k ≤ len ∧ i = .int .i64 k ∧ Hid (Below w.heap.size w wr) ∧ Hid (makeN l = mkS l (len - k) k)) (fun i _ => len - (intOf i).toNat)
  case atStart => exact ⟨0, Nat.zero_le _, rfl, hid (Below.refl _ _), HR⟩
  case round =>
    obtain ⟨k, hk, rfl, HB, HK⟩ := hrel
    by_cases hlt : k < len
    · rcases HI.out with h0 | ⟨b, off, rfl, hbl, hc⟩
      · omega
      obtain ⟨c0, c1⟩ := hc k hlt
      rw [← HB.out.cell (p := ⟨b, off + k * 2, none⟩) hbl] at c0
      rw [← HB.out.cell (p := ⟨b, off + k * 2 + 1, none⟩) hbl] at c1
      have hsz : b < wr.heap.size := Nat.lt_of_lt_of_le hbl HB.out.size
      have hkl : k < l.length := by rw [← HLEN.out]; exact hlt
      have hn := HG.out _ (kv_mem l k hkl)
      have F1 := hid (fun W => rkey_any (ky l k) W hn.1)
      have F2 := hid (fun W => rvalue_any (vl l k) W hn.2)
      have G3 := hid (F3.out (ky l k))
      have st := HK.out.trans (mkS_step l len k hlt)
      have FY := hid (find_first_yes l k hkl)
      have FN := hid (find_first_no l k hkl)
      unfold mkF labE at st
      generalize hs' : ky l k = s' at *
      generalize vl l k = n at *
      generalize findN l s' = fN at *
      clear hc hn hs' F3
      cases e1 : keyB s'
      · rw [e1] at F1 st
        simp only [if_true, show ¬ ((31 : Int) = 0) by decide, if_false] at st
        have HF := hid st
        clear st FY FN
        go_wp2_with fail
        refine (F1.out _).mono ?_
        rintro e w1 ⟨rfl, hb⟩
        have c2 := (hb.cell (p := ⟨b, off + k * 2 + 1, none⟩) hsz).trans c1
        have c3 := (hb.cell (p := ⟨b, off + k * 2, none⟩) hsz).trans c0
        have hsz1 := Nat.lt_of_lt_of_le hsz hb.size
        have HB1 := hid (HB.out.trans (hb.mono HB.out.size))
        clear hb
        go_wp2_with fail
        refine (F2.out _).mono ?_
        rintro e w2 ⟨rfl, hww⟩; subst hww
        go_wp2_with fail
        refine (G3.out _ HB1.out).mono ?_
        rintro e w2 ⟨rfl, hww⟩; subst hww
        go_wp2_with fail
        go_quiet (fail)
        go_wp2_with fail
        go_ret3
        exact ⟨_, [], by rw [HF.out]; rfl, below_drewN HB1.out _, Or.inl ⟨by rw [HF.out]; simp, rfl⟩⟩
      · rw [e1] at F1 st
        cases e2 : valB n
        · rw [e2] at F2 st
          simp only [Bool.true_eq_false, if_true, if_false, show ¬ ((32 : Int) = 0) by decide] at st
          have HF := hid st
          clear st FY FN
          go_wp2_with fail
          refine (F1.out _).mono ?_
          rintro e w1 ⟨rfl, hb⟩
          have c2 := (hb.cell (p := ⟨b, off + k * 2 + 1, none⟩) hsz).trans c1
          have c3 := (hb.cell (p := ⟨b, off + k * 2, none⟩) hsz).trans c0
          have hsz1 := Nat.lt_of_lt_of_le hsz hb.size
          have HB1 := hid (HB.out.trans (hb.mono HB.out.size))
          clear hb
          go_wp2_with fail
          refine (F2.out _).mono ?_
          rintro e w2 ⟨rfl, hww⟩; subst hww
          go_wp2_with fail
          refine (G3.out _ HB1.out).mono ?_
          rintro e w2 ⟨rfl, hww⟩; subst hww
          go_wp2_with fail
          go_quiet (fail)
          go_wp2_with fail
          go_ret3
          exact ⟨_, [], by rw [HF.out]; rfl, below_drewN HB1.out _, Or.inl ⟨by rw [HF.out]; simp, rfl⟩⟩
        · rw [e2] at F2 st
          simp only [Bool.true_eq_false, if_true, if_false] at st
          cases e3 : (getN (l.take k) s').2
          · rw [e3] at st
            simp only [Bool.false_eq_true, if_true, if_false] at st
            obtain rfl := FN.out e3
            have HF := hid st
            clear st FY FN
            go_wp2_with fail
            refine (F1.out _).mono ?_
            rintro e w1 ⟨rfl, hb⟩
            have c2 := (hb.cell (p := ⟨b, off + k * 2 + 1, none⟩) hsz).trans c1
            have c3 := (hb.cell (p := ⟨b, off + k * 2, none⟩) hsz).trans c0
            have hsz1 := Nat.lt_of_lt_of_le hsz hb.size
            have HB1 := hid (HB.out.trans (hb.mono HB.out.size))
            clear hb
            go_wp2_with fail
            refine (F2.out _).mono ?_
            rintro e w2 ⟨rfl, hww⟩; subst hww
            go_wp2_with fail
            refine (G3.out _ HB1.out).mono ?_
            rintro e w2 ⟨rfl, hww⟩; subst hww
            go_wp2_with fail
            exact ⟨⟨k + 1, by omega, by go_num, HB1, HF⟩, by simp [intOf]; omega⟩
          · rw [e3] at st
            simp only [if_true, show ¬ ((33 : Int) = 0) by decide, if_false] at st
            obtain ⟨j, hj, rfl⟩ := FY.out e3
            have hj' : (j : Int) < (k : Int) := by omega
            have HF := hid st
            clear st FY FN
            go_wp2_with fail
            refine (F1.out _).mono ?_
            rintro e w1 ⟨rfl, hb⟩
            have c2 := (hb.cell (p := ⟨b, off + k * 2 + 1, none⟩) hsz).trans c1
            have c3 := (hb.cell (p := ⟨b, off + k * 2, none⟩) hsz).trans c0
            have hsz1 := Nat.lt_of_lt_of_le hsz hb.size
            have HB1 := hid (HB.out.trans (hb.mono HB.out.size))
            clear hb
            go_wp2_with fail
            refine (F2.out _).mono ?_
            rintro e w2 ⟨rfl, hww⟩; subst hww
            go_wp2_with fail
            refine (G3.out _ HB1.out).mono ?_
            rintro e w2 ⟨rfl, hww⟩; subst hww
            go_wp2_with fail
            go_quiet (fail)
            go_wp2_with fail
            go_ret3
            exact ⟨_, [], by rw [HF.out]; rfl, below_drewN HB1.out _, Or.inl ⟨by rw [HF.out]; simp, rfl⟩⟩
    · obtain rfl : k = len := by omega
      have HF := hid (show makeN l = (ByteArray.empty, 0) by rw [HK.out, Nat.sub_self]; rfl)
      have HD := hid (make_ok (l := l) (by rw [HF.out])).2.2.1
      go_wp2_with fail
      refine (HRI.out _ HB.out HD.out).mono ?_
      rintro e w2 ⟨v', l', rfl, hit, hp, hu, hb⟩
      have R := hid (show Own w2 w.heap.size v' l' ∧ l'.Perm l ∧ Up l' ∧ Below w.heap.size w w2 from ⟨own_mono hit HB.out.size, hp, hu, HB.out.trans (hb.mono HB.out.size)⟩)
      clear hit hp hu hb
      go_wp2_with fail
      go_ret3
      exact ⟨_, l', by rw [HF.out]; rfl, R.out.2.2.2, Or.inr ⟨by rw [HF.out], R.out.1, R.out.2.1, R.out.2.2.1⟩⟩
theorem rmake_any (v : Value) (l : List Lb) (w : World) (hi : Items w v l) (hg : Good l) : Calls Tryz.prog 26 #[v] w fun e w' => ∃ v' l', e = .returned (.tuple #[v', .string (makeN l).1, .int .i64 (makeN l).2]) ∧ Below w.heap.size w w' ∧ (((makeN l).2 ≠ 0 ∧ v' = .slice none 0 0) ∨ ((makeN l).2 = 0 ∧ Own w' w.heap.size v' l' ∧ l'.Perm l ∧ Up l')) := by
  by_cases h : 32 < l.length
  · refine (rmake_many v l w hi hg.1.1 h).mono ?_
    rintro e w' ⟨rfl, rfl⟩
    have e : makeN l = (ByteArray.empty, 34) := by unfold makeN; rw [if_pos h]
    rw [e]
    exact ⟨_, [], rfl, Below.refl _ _, Or.inl ⟨by decide, rfl⟩⟩
  · exact rmake_few v l w hi hg (by omega)
end Go.Proofs.YtkbjjbgmnfngjaaGreatDoor.L
