import Derived.Test.YtodamoblnlcodaaDoorRnk
import Derived.Test.YtodamoblnlcodaaDoorOk
import Derived.Test.YtodamoblnlcodaaDoorRSm
namespace Go.Proofs.YtodamoblnlcodaaDoor.L
open Go.RowKit
set_option linter.unusedVariables false
theorem less_nil (x : List UInt8) : Op.bytesLess x [] = false := by
  cases x <;> rfl
theorem rise_first {k : ByteArray} (h : keyB k = true) : riseE ⟨#[]⟩ k = 0 := by
  unfold riseE
  rw [if_neg (by rw [eqS_ne.2 (key_ne h)]; decide), if_neg]
  rw [show (⟨#[]⟩ : ByteArray).toList = [] from by rw [bytes_toList], less_nil]
  decide
theorem rcheck_many (v : Value) (l : List Lb) (w : World) (hi : Items w v l) (hl : l.length ≤ maxLen) (h : 32 < l.length) : Calls Tryd.prog 13 #[v] w fun e w' => e = .returned (.tuple #[.int .i64 32, .int .i64 34]) ∧ w' = w := by
  obtain ⟨a, cap, rfl, hi⟩ := hi
  unfold maxLen at hl
  have g : (32 : Int) < (l.length : Int) := by omega
  go_enter Tryd.func13, Tryd.ntmps13
  go_wp2
  go_ret2
  exact ⟨rfl, rfl⟩
set_option maxHeartbeats 8000000 in
set_option maxRecDepth 100000 in
theorem rcheck_few (v : Value) (l : List Lb) (w : World) (hi : Items w v l) (hg : ∀ x ∈ l, x.1.size ≤ maxLen ∧ x.2.size ≤ maxLen) (h : l.length ≤ 32) : Calls Tryd.prog 13 #[v] w fun e w' => e = .returned (.tuple #[.int .i64 (checkN l).1, .int .i64 (checkN l).2]) ∧ Below w.heap.size w w' := by
  obtain ⟨a, cap, rfl, hi⟩ := hi
  have HR := hid (show checkN l = chk l (l.length - 0) 0 by unfold checkN; rw [if_neg (by omega)]; rfl)
  have HG := hid hg
  obtain ⟨len, hlen⟩ : ∃ n, n = l.length := ⟨_, rfl⟩
  have HLEN := hid hlen
  rw [← hlen] at h hi HR ⊢
  have HI := hid hi
  clear hg hlen hi
  go_enter Tryd.func13, Tryd.ntmps13
  go_wp2
  go_loopw [4] (fun i wr => ∃ k : Nat, k ≤ len ∧ i = .int .i64 k ∧ Hid (Below w.heap.size w wr) ∧ Hid (checkN l = chk l (len - k) k)) (fun i _ => len - (intOf i).toNat)
  case atStart => exact ⟨0, Nat.zero_le _, rfl, hid (Below.refl _ _), HR⟩
  case round =>
    obtain ⟨k, hk, rfl, HB, HK⟩ := hrel
    by_cases hlt : k < len
    · rcases HI.out with h0 | ⟨b, off, rfl, hbl, hc⟩
      · omega
      obtain ⟨c0, c1⟩ := hc k hlt
      rw [← HB.out.cell (p := ⟨b, off + k * 2, none⟩) hbl] at c0
      rw [← HB.out.cell (p := ⟨b, off + k * 2 + 1, none⟩) hbl] at c1
      have hsz : b < wr.heap.size := Nat.lt_of_lt_of_le hbl HB.out.size
      have hn := HG.out _ (kv_mem l k (by rw [← HLEN.out]; exact hlt))
      have F1 := hid (fun W => rkey_any (ky l k) W hn.1)
      have F2 := hid (fun W => rvalue_any (vl l k) W hn.2)
      have st := HK.out.trans (chk_step l len k hlt)
      have HFI := hid (fun h : keyB (ky l k) = true => rise_first h)
      have HP0 := hid (show k = 0 → prv l k = ⟨#[]⟩ from fun h => by unfold prv; rw [if_pos h])
      have HP1 := hid (show ∀ j, k = j + 1 → prv l k = ky l j from fun j h => by unfold prv; rw [if_neg (by omega), h]; rfl)
      have HC := hid (fun j (hj : j < len) => show wr.cell? ⟨b, off + j * 2, none⟩ = some (.string (ky l j)) from (HB.out.cell (p := ⟨b, off + j * 2, none⟩) hbl).trans (hc j hj).1)
      unfold flt labE at st
      generalize ky l k = s' at *
      generalize vl l k = n at *
      generalize prv l k = p at *
      clear hc hn
      cases e1 : keyB s'
      · rw [e1] at F1 st
        simp only [if_true, show ¬ ((31 : Int) = 0) by decide, if_false] at st
        have HF := hid st
        clear st HFI
        go_wp2_with fail
        refine (F1.out _).mono ?_
        rintro e w1 ⟨rfl, hb⟩
        have c2 := (hb.cell (p := ⟨b, off + k * 2 + 1, none⟩) hsz).trans c1
        have hsz1 := Nat.lt_of_lt_of_le hsz hb.size
        have HB1 := hid (HB.out.trans (hb.mono HB.out.size))
        clear hb
        go_wp2_with fail
        refine (F2.out _).mono ?_
        rintro e w2 ⟨rfl, hww⟩; subst hww
        go_wp2_with fail
        go_ret2
        exact ⟨by rw [HF.out]; rfl, HB1.out⟩
      · have hfi := HFI.out e1
        rw [e1] at F1 st
        cases e2 : valB n
        · rw [e2] at F2 st
          simp only [Bool.true_eq_false, if_true, if_false, show ¬ ((32 : Int) = 0) by decide] at st
          have HF := hid st
          clear st HFI hfi
          go_wp2_with fail
          refine (F1.out _).mono ?_
          rintro e w1 ⟨rfl, hb⟩
          have c2 := (hb.cell (p := ⟨b, off + k * 2 + 1, none⟩) hsz).trans c1
          have hsz1 := Nat.lt_of_lt_of_le hsz hb.size
          have HB1 := hid (HB.out.trans (hb.mono HB.out.size))
          clear hb
          go_wp2_with fail
          refine (F2.out _).mono ?_
          rintro e w2 ⟨rfl, hww⟩; subst hww
          go_wp2_with fail
          go_ret2
          exact ⟨by rw [HF.out]; rfl, HB1.out⟩
        · rw [e2] at F2 st
          simp only [Bool.true_eq_false, if_true, if_false] at st
          by_cases hk0 : k = 0
          · rw [HP0.out hk0, hfi] at st
            simp only [if_true] at st
            have HF := hid st
            clear st HFI hfi HP0 HP1
            subst hk0
            rw [show ((0 : Nat) : Int) = 0 from rfl]
            simp only [Nat.zero_mul, Nat.add_zero] at c0 c1
            go_wp2_with fail
            refine (F1.out _).mono ?_
            rintro e w1 ⟨rfl, hb⟩
            have c2 := (hb.cell (p := ⟨b, off + 1, none⟩) hsz).trans c1
            have hsz1 := Nat.lt_of_lt_of_le hsz hb.size
            have HB1 := hid (HB.out.trans (hb.mono HB.out.size))
            clear hb
            go_wp2_with fail
            refine (F2.out _).mono ?_
            rintro e w2 ⟨rfl, hww⟩; subst hww
            go_wp2_with fail
            go_quiet (fail)
            go_wp2_with fail
            go_quiet (fail)
            go_wp2_with fail
            exact ⟨⟨1, by omega, by go_num, hid (below_drewN HB1.out _), HF⟩, by simp [intOf]; omega⟩
          · obtain ⟨j, rfl⟩ : ∃ j, k = j + 1 := ⟨k - 1, by omega⟩
            rw [HP1.out j rfl] at st
            have q0 := HC.out j (by omega)
            unfold riseE eqS at st
            generalize ky l j = q at *
            clear HP0 HP1 HFI hfi HC
            have g0 : (0 : Int) < ((j + 1 : Nat) : Int) := by omega
            cases e3 : (s'.toList == q.toList)
            · rw [e3] at st
              cases e4 : Op.bytesLess s'.toList q.toList
              · rw [e4] at st
                simp only [Bool.false_eq_true, if_false, if_true] at st
                have HF := hid st
                clear st
                go_wp2_with fail
                refine (F1.out _).mono ?_
                rintro e w1 ⟨rfl, hb⟩
                have c2 := (hb.cell (p := ⟨b, off + (j + 1) * 2 + 1, none⟩) hsz).trans c1
                have c3 := (hb.cell (p := ⟨b, off + (j + 1) * 2, none⟩) hsz).trans c0
                have q1 := (hb.cell (p := ⟨b, off + j * 2, none⟩) hsz).trans q0
                have hsz1 := Nat.lt_of_lt_of_le hsz hb.size
                have HB1 := hid (HB.out.trans (hb.mono HB.out.size))
                clear hb
                go_wp2_with fail
                refine (F2.out _).mono ?_
                rintro e w2 ⟨rfl, hww⟩; subst hww
                go_wp2_with fail
                go_quiet (fail)
                go_wp2_with fail
                go_quiet (fail)
                go_wp2_with fail
                exact ⟨⟨j + 1 + 1, by omega, by go_num, hid (below_drewN HB1.out _), HF⟩, by simp [intOf]; omega⟩
              · rw [e4] at st
                simp only [Bool.false_eq_true, if_false, if_true, show ¬ ((36 : Int) = 0) by decide] at st
                have HF := hid st
                clear st
                go_wp2_with fail
                refine (F1.out _).mono ?_
                rintro e w1 ⟨rfl, hb⟩
                have c2 := (hb.cell (p := ⟨b, off + (j + 1) * 2 + 1, none⟩) hsz).trans c1
                have c3 := (hb.cell (p := ⟨b, off + (j + 1) * 2, none⟩) hsz).trans c0
                have q1 := (hb.cell (p := ⟨b, off + j * 2, none⟩) hsz).trans q0
                have hsz1 := Nat.lt_of_lt_of_le hsz hb.size
                have HB1 := hid (HB.out.trans (hb.mono HB.out.size))
                clear hb
                go_wp2_with fail
                refine (F2.out _).mono ?_
                rintro e w2 ⟨rfl, hww⟩; subst hww
                go_wp2_with fail
                go_quiet (fail)
                go_wp2_with fail
                go_quiet (fail)
                go_wp2_with fail
                go_ret2
                exact ⟨by rw [HF.out]; rfl, below_drewN (below_drewN HB1.out _) _⟩
            · rw [e3] at st
              simp only [if_true, show ¬ ((33 : Int) = 0) by decide, if_false] at st
              have HF := hid st
              clear st
              go_wp2_with fail
              refine (F1.out _).mono ?_
              rintro e w1 ⟨rfl, hb⟩
              have c2 := (hb.cell (p := ⟨b, off + (j + 1) * 2 + 1, none⟩) hsz).trans c1
              have c3 := (hb.cell (p := ⟨b, off + (j + 1) * 2, none⟩) hsz).trans c0
              have q1 := (hb.cell (p := ⟨b, off + j * 2, none⟩) hsz).trans q0
              have hsz1 := Nat.lt_of_lt_of_le hsz hb.size
              have HB1 := hid (HB.out.trans (hb.mono HB.out.size))
              clear hb
              go_wp2_with fail
              refine (F2.out _).mono ?_
              rintro e w2 ⟨rfl, hww⟩; subst hww
              go_wp2_with fail
              go_quiet (fail)
              go_wp2_with fail
              go_ret2
              exact ⟨by rw [HF.out]; rfl, below_drewN HB1.out _⟩
    · obtain rfl : k = len := by omega
      have HF := hid (HK.out.trans (by rw [Nat.sub_self]; rfl : chk l (k - k) k = (0, 0)))
      go_wp2
      go_ret2
      exact ⟨by rw [HF.out]; rfl, HB.out⟩
theorem rcheck_any (v : Value) (l : List Lb) (w : World) (hi : Items w v l) (hg : Good l) : Calls Tryd.prog 13 #[v] w fun e w' => e = .returned (.tuple #[.int .i64 (checkN l).1, .int .i64 (checkN l).2]) ∧ Below w.heap.size w w' := by
  by_cases h : 32 < l.length
  · refine (rcheck_many v l w hi hg.1.1 h).mono ?_
    rintro e w' ⟨rfl, rfl⟩
    have e : checkN l = (32, 34) := by unfold checkN; rw [if_pos h]
    rw [e]
    exact ⟨rfl, Below.refl _ _⟩
  · exact rcheck_few v l w hi hg.2 (by omega)
end Go.Proofs.YtodamoblnlcodaaDoor.L
