import Derived.Test.YtnldagpbmphdhaaDoorNums
namespace Go.Proofs.YtnldagpbmphdhaaDoor.L
open Go.RowKit
set_option linter.unusedVariables false
theorem digit_low {c : UInt8} (h : 48 ≤ c.toNat ∧ c.toNat ≤ 57) : lowB (c.toNat : Int) = true := by
  unfold lowB
  simp
  omega
theorem tx_at (n : Int) (j : Nat) : at' (tx n) j = (((Lib.itoa n).getD j 0).toNat : Int) := rfl
theorem tx_size (n : Int) : (tx n).size = (Lib.itoa n).length := by
  show (Lib.itoa n).toArray.size = _
  simp
theorem tx_val (n : Int) (h0 : -999999999999999 ≤ n) (h1 : n ≤ 999999999999999) : valB (tx n) = true ∧ (tx n).size ≤ 16 := by
  obtain ⟨hl, c, r, e, hc, hr⟩ := itoa_form n h0 h1
  refine ⟨?_, by rw [tx_size]; exact hl⟩
  have hs := tx_size n
  have ha := tx_at n
  rw [e] at hs ha hl
  have each : ∀ j, j < r.length → wordB (at' (tx n) (j + 1)) = true := by
    intro j hj
    rw [ha]
    have := digit_low (hr (r[j]) (List.getElem_mem hj))
    unfold wordB
    simp [hj, this]
  have z : at' (tx n) 0 = (c.toNat : Int) := by rw [ha]; rfl
  have first : wordB (at' (tx n) 0) = true ∨ at' (tx n) 0 = 45 ∧ r ≠ [] := by
    rw [z]
    rcases hc with ⟨rfl, hr'⟩ | hc
    · exact Or.inr ⟨rfl, hr'⟩
    · left
      unfold wordB
      rw [digit_low hc]
      rfl
  have last : wordB (at' (tx n) ((tx n).size - 1)) = true := by
    rw [hs]
    cases r with
    | nil =>
      rcases first with f | f
      · exact f
      · exact absurd rfl f.2
    | cons b r =>
      have := each r.length (by simp)
      simpa using this
  have all : allB innB (tx n) = true := by
    apply all_good
    intro j hj
    rw [hs] at hj
    unfold innB
    cases j with
    | zero =>
      rcases first with f | f
      · rw [f]; rfl
      · rw [f.1]; rfl
    | succ j =>
      rw [each j (by simpa using hj)]
      rfl
  unfold valB
  rw [all, last, decide_eq_true (show (tx n).size ≤ 63 by rw [hs]; omega)]
  have : (wordB (at' (tx n) 0) || at' (tx n) 0 == 45) = true := by
    rcases first with f | f
    · rw [f]; rfl
    · rw [f.1]; decide
  rw [this]
  simp
theorem tx_int (n : Int) (h0 : -999999999999999 ≤ n) (h1 : n ≤ 999999999999999) : intOk (tx n) n := by
  refine ⟨?_, h0, h1, rfl⟩
  show Lib.atoiAll (Lib.itoa n).toArray.toList = _
  exact atoi_itoa n (by omega) (by omega)
theorem tx_five : tx (-5) = ⟨#[45, 53]⟩ := by
  unfold tx
  rw [show ((-5 : Int)) = -((5 : Nat) : Int) from rfl, Lib.itoa_neg 5 (by decide), dec_small (by decide)]
  rfl
set_option maxHeartbeats 4000000 in
theorem numbers_walk (n : Int) (s : ByteArray) (h0 : -9223372036854775808 ≤ n) (h1 : n ≤ 9223372036854775807) (hs : s.size ≤ 281474976710656) (w : World) (hv : Vars w) :
    Calls Tryd.prog 3 #[.int .i64 n, .string s] w fun e w' => e = .returned (.bool true) ∧ Below w.heap.size w w' := by
  have H5 := hid (inttext_in (-5) (by decide) (by decide) w hv)
  rw [tx_five] at H5
  by_cases r : -999999999999999 ≤ n ∧ n ≤ 999999999999999
  · have HT := hid (fun W (hb : Below w.heap.size w W) => inttext_in n r.1 r.2 W (hv.low hb))
    have HR := hid (fun W (hb : Below w.heap.size w W) => int_yes (tx n) (by have := (tx_val n r.1 r.2).2; omega) n (tx_int n r.1 r.2) W (hv.low hb))
    have HV := hid (fun W => value_any (tx n) W (by have := (tx_val n r.1 r.2).2; unfold maxLen; omega))
    rw [(tx_val n r.1 r.2).1] at HV
    have a : -1000000000000000 < n := by omega
    have b : n < 1000000000000000 := by omega
    generalize tx n = t at *
    by_cases ok : ∃ k, intOk s k
    · obtain ⟨k, hk⟩ := ok
      have HK := hid (fun W (hb : Below w.heap.size w W) => int_yes s hs k hk W (hv.low hb))
      have HU := hid (fun W (hb : Below w.heap.size w W) => inttext_in k hk.2.1 hk.2.2.1 W (hv.low hb))
      have HW := hid (fun W => value_any s W (by unfold maxLen; omega))
      have hw := (tx_val k hk.2.1 hk.2.2.1).1
      rw [hk.2.2.2] at HU hw
      rw [hw] at HW
      clear hk hw
      go_enter Tryd.func3, Tryd.ntmps3
      go_wp2_with fail
      refine H5.out.mono ?_
      rintro e w1 ⟨rfl, hb⟩
      have B1 := hid hb
      clear hb
      go_wp2_with fail
      refine (HT.out _ B1.out).mono ?_
      rintro e w2 ⟨rfl, hb⟩
      have B2 := hid (B1.out.trans (hb.mono B1.out.size))
      clear hb
      go_wp2_with fail
      refine (HR.out _ B2.out).mono ?_
      rintro e w3 ⟨rfl, hb⟩
      have B3 := hid (B2.out.trans (hb.mono B2.out.size))
      clear hb
      go_wp2_with fail
      refine (HV.out _).mono ?_
      rintro e w4 ⟨rfl, hb⟩
      subst hb
      go_wp2_with fail
      refine (HK.out _ B3.out).mono ?_
      rintro e w5 ⟨rfl, hb⟩
      have B5 := hid (B3.out.trans (hb.mono B3.out.size))
      clear hb
      go_wp2_with fail
      refine (HU.out _ B5.out).mono ?_
      rintro e w6 ⟨rfl, hb⟩
      have B6 := hid (B5.out.trans (hb.mono B5.out.size))
      clear hb
      go_wp2_with fail
      refine (HW.out _).mono ?_
      rintro e w7 ⟨rfl, hb⟩
      subst hb
      go_wp2_with fail
      go_ret
      exact ⟨rfl, B6.out⟩
    · have HK := hid (fun W (hb : Below w.heap.size w W) => int_no s hs (fun k hk => ok ⟨k, hk⟩) W (hv.low hb))
      go_enter Tryd.func3, Tryd.ntmps3
      go_wp2_with fail
      refine H5.out.mono ?_
      rintro e w1 ⟨rfl, hb⟩
      have B1 := hid hb
      clear hb
      go_wp2_with fail
      refine (HT.out _ B1.out).mono ?_
      rintro e w2 ⟨rfl, hb⟩
      have B2 := hid (B1.out.trans (hb.mono B1.out.size))
      clear hb
      go_wp2_with fail
      refine (HR.out _ B2.out).mono ?_
      rintro e w3 ⟨rfl, hb⟩
      have B3 := hid (B2.out.trans (hb.mono B2.out.size))
      clear hb
      go_wp2_with fail
      refine (HV.out _).mono ?_
      rintro e w4 ⟨rfl, hb⟩
      subst hb
      go_wp2_with fail
      refine (HK.out _ B3.out).mono ?_
      rintro e w5 ⟨rfl, hb⟩
      have B5 := hid (B3.out.trans (hb.mono B3.out.size))
      clear hb
      go_wp2_with fail
      go_ret
      exact ⟨rfl, B5.out⟩
  · have HT := hid (fun W => inttext_out n h0 h1 W r)
    by_cases ok : ∃ k, intOk s k
    · obtain ⟨k, hk⟩ := ok
      have HK := hid (fun W (hb : Below w.heap.size w W) => int_yes s hs k hk W (hv.low hb))
      have HU := hid (fun W (hb : Below w.heap.size w W) => inttext_in k hk.2.1 hk.2.2.1 W (hv.low hb))
      have HW := hid (fun W => value_any s W (by unfold maxLen; omega))
      have hw := (tx_val k hk.2.1 hk.2.2.1).1
      rw [hk.2.2.2] at HU hw
      rw [hw] at HW
      clear hk hw
      by_cases a : -1000000000000000 < n
      · have b : ¬ n < 1000000000000000 := by omega
        go_enter Tryd.func3, Tryd.ntmps3
        go_wp2_with fail
        refine H5.out.mono ?_
        rintro e w1 ⟨rfl, hb⟩
        have B1 := hid hb
        clear hb
        go_wp2_with fail
        refine (HT.out _).mono ?_
        rintro e w2 ⟨rfl, hb⟩
        subst hb
        go_wp2_with fail
        refine (HK.out _ B1.out).mono ?_
        rintro e w5 ⟨rfl, hb⟩
        have B5 := hid (B1.out.trans (hb.mono B1.out.size))
        clear hb
        go_wp2_with fail
        refine (HU.out _ B5.out).mono ?_
        rintro e w6 ⟨rfl, hb⟩
        have B6 := hid (B5.out.trans (hb.mono B5.out.size))
        clear hb
        go_wp2_with fail
        refine (HW.out _).mono ?_
        rintro e w7 ⟨rfl, hb⟩
        subst hb
        go_wp2_with fail
        go_ret
        exact ⟨rfl, B6.out⟩
      · go_enter Tryd.func3, Tryd.ntmps3
        go_wp2_with fail
        refine H5.out.mono ?_
        rintro e w1 ⟨rfl, hb⟩
        have B1 := hid hb
        clear hb
        go_wp2_with fail
        refine (HT.out _).mono ?_
        rintro e w2 ⟨rfl, hb⟩
        subst hb
        go_wp2_with fail
        refine (HK.out _ B1.out).mono ?_
        rintro e w5 ⟨rfl, hb⟩
        have B5 := hid (B1.out.trans (hb.mono B1.out.size))
        clear hb
        go_wp2_with fail
        refine (HU.out _ B5.out).mono ?_
        rintro e w6 ⟨rfl, hb⟩
        have B6 := hid (B5.out.trans (hb.mono B5.out.size))
        clear hb
        go_wp2_with fail
        refine (HW.out _).mono ?_
        rintro e w7 ⟨rfl, hb⟩
        subst hb
        go_wp2_with fail
        go_ret
        exact ⟨rfl, B6.out⟩
    · have HK := hid (fun W (hb : Below w.heap.size w W) => int_no s hs (fun k hk => ok ⟨k, hk⟩) W (hv.low hb))
      by_cases a : -1000000000000000 < n
      · have b : ¬ n < 1000000000000000 := by omega
        go_enter Tryd.func3, Tryd.ntmps3
        go_wp2_with fail
        refine H5.out.mono ?_
        rintro e w1 ⟨rfl, hb⟩
        have B1 := hid hb
        clear hb
        go_wp2_with fail
        refine (HT.out _).mono ?_
        rintro e w2 ⟨rfl, hb⟩
        subst hb
        go_wp2_with fail
        refine (HK.out _ B1.out).mono ?_
        rintro e w5 ⟨rfl, hb⟩
        have B5 := hid (B1.out.trans (hb.mono B1.out.size))
        clear hb
        go_wp2_with fail
        go_ret
        exact ⟨rfl, B5.out⟩
      · go_enter Tryd.func3, Tryd.ntmps3
        go_wp2_with fail
        refine H5.out.mono ?_
        rintro e w1 ⟨rfl, hb⟩
        have B1 := hid hb
        clear hb
        go_wp2_with fail
        refine (HT.out _).mono ?_
        rintro e w2 ⟨rfl, hb⟩
        subst hb
        go_wp2_with fail
        refine (HK.out _ B1.out).mono ?_
        rintro e w5 ⟨rfl, hb⟩
        have B5 := hid (B1.out.trans (hb.mono B1.out.size))
        clear hb
        go_wp2_with fail
        go_ret
        exact ⟨rfl, B5.out⟩
end Go.Proofs.YtnldagpbmphdhaaDoor.L
