import Derived.Test.YtodamoblnlcodaaDoorNam
namespace Go.Proofs.YtodamoblnlcodaaDoor.L
open Go.RowKit
set_option linter.unusedVariables false
theorem rlow_any (c : Int) (w : World) : Calls Tryd.prog 52 #[.int .u8 c] w fun e w' => e = .returned (.bool (lowB c)) ∧ w' = w := by
  unfold lowB
  by_cases a : 97 ≤ c
  · by_cases b : c ≤ 122
    · go_enter Tryd.func52, Tryd.ntmps52
      go_wp2
      go_ret
      exact ⟨ret_bool (by simp [a, b]), rfl⟩
    · have a2 : 48 ≤ c := by omega
      have b2 : ¬ c ≤ 57 := by omega
      go_enter Tryd.func52, Tryd.ntmps52
      go_wp2
      go_ret
      exact ⟨ret_bool (by simp; omega), rfl⟩
  · by_cases a2 : 48 ≤ c
    · by_cases b2 : c ≤ 57
      · go_enter Tryd.func52, Tryd.ntmps52
        go_wp2
        go_ret
        exact ⟨ret_bool (by simp), rfl⟩
      · go_enter Tryd.func52, Tryd.ntmps52
        go_wp2
        go_ret
        exact ⟨ret_bool (by simp; omega), rfl⟩
    · go_enter Tryd.func52, Tryd.ntmps52
      go_wp2
      go_ret
      exact ⟨ret_bool (by simp; omega), rfl⟩
theorem rword_any (c : Int) (w : World) : Calls Tryd.prog 40 #[.int .u8 c] w fun e w' => e = .returned (.bool (wordB c)) ∧ w' = w := by
  have HL := hid (fun W => rlow_any c W)
  unfold wordB
  cases e1 : lowB c
  · rw [e1] at HL
    by_cases a : 65 ≤ c
    · by_cases b : c ≤ 90
      · go_enter Tryd.func40, Tryd.ntmps40
        go_wp2_with (go_at_call 52; refine (HL.out _).mono ?_; rintro e w1 ⟨rfl, hww⟩; subst hww)
        go_ret
        exact ⟨ret_bool (by simp [a, b]), rfl⟩
      · go_enter Tryd.func40, Tryd.ntmps40
        go_wp2_with (go_at_call 52; refine (HL.out _).mono ?_; rintro e w1 ⟨rfl, hww⟩; subst hww)
        go_ret
        exact ⟨ret_bool (by simp; omega), rfl⟩
    · go_enter Tryd.func40, Tryd.ntmps40
      go_wp2_with (go_at_call 52; refine (HL.out _).mono ?_; rintro e w1 ⟨rfl, hww⟩; subst hww)
      go_ret
      exact ⟨ret_bool (by simp; omega), rfl⟩
  · rw [e1] at HL
    go_enter Tryd.func40, Tryd.ntmps40
    go_wp2_with (go_at_call 52; refine (HL.out _).mono ?_; rintro e w1 ⟨rfl, hww⟩; subst hww)
    go_ret
    exact ⟨ret_bool (by simp), rfl⟩
set_option maxHeartbeats 4000000 in
theorem rinner_any (c : Int) (w : World) : Calls Tryd.prog 39 #[.int .u8 c] w fun e w' => e = .returned (.bool (innB c)) ∧ w' = w := by
  have HL := hid (fun W => rword_any c W)
  unfold innB
  cases e1 : wordB c
  · rw [e1] at HL
    cases f1 : (c == 45)
    · cases f2 : (c == 95)
      · cases f3 : (c == 46) <;>
        · go_enter Tryd.func39, Tryd.ntmps39
          go_wp2_with (go_at_call 40; refine (HL.out _).mono ?_; rintro e w1 ⟨rfl, hww⟩; subst hww)
          go_ret
          exact ⟨rfl, rfl⟩
      · go_enter Tryd.func39, Tryd.ntmps39
        go_wp2_with (go_at_call 40; refine (HL.out _).mono ?_; rintro e w1 ⟨rfl, hww⟩; subst hww)
        go_ret
        exact ⟨rfl, rfl⟩
    · go_enter Tryd.func39, Tryd.ntmps39
      go_wp2_with (go_at_call 40; refine (HL.out _).mono ?_; rintro e w1 ⟨rfl, hww⟩; subst hww)
      go_ret
      exact ⟨rfl, rfl⟩
  · rw [e1] at HL
    go_enter Tryd.func39, Tryd.ntmps39
    go_wp2_with (go_at_call 40; refine (HL.out _).mono ?_; rintro e w1 ⟨rfl, hww⟩; subst hww)
    go_ret
    exact ⟨rfl, rfl⟩
set_option maxHeartbeats 4000000 in
theorem rpart_any (s : ByteArray) (w : World) (hs : s.size ≤ maxLen) : Calls Tryd.prog 51 #[.string s] w fun e w' => e = .returned (.bool (partB s)) ∧ w' = w := by
  unfold maxLen at hs
  by_cases h0 : s.size = 0
  · have HN := hid (show partB s = false by unfold partB; rw [decide_eq_false (by simpa using h0)]; rfl)
    have hE := empty_yes h0
    go_enter Tryd.func51, Tryd.ntmps51
    go_wp2
    go_ret
    exact ⟨ret_bool HN.out.symm, rfl⟩
  · have hE := empty_no h0
    have HP := hid (show partB s = (allB dashB s && lowB (at' s 0) && lowB (at' s (s.size - 1))) by unfold partB; rw [decide_eq_true h0]; rfl)
    go_enter Tryd.func51, Tryd.ntmps51
    go_wp2
    go_loop [3] (fun i => ∃ k : Nat, k ≤ s.size ∧ i = .int .i64 k ∧ Hid (∀ j, j < k → dashB (at' s j) = true)) (fun i => s.size - (intOf i).toNat)
    case atStart => exact ⟨0, Nat.zero_le _, rfl, hid (fun j hj => by omega)⟩
    case round =>
      obtain ⟨k, hk, rfl, HO⟩ := hrel
      by_cases hlt : k < s.size
      · obtain ⟨c, hc⟩ : ∃ c : Int, ((s[k]'hlt).toNat : Int) = c := ⟨_, rfl⟩
        have HC := hid ((at_get s k hlt).trans hc)
        have HL := hid (fun W => rlow_any c W)
        by_cases c1 : lowB c = true
        · rw [c1] at HL
          have HO2 := hid (all_snoc (p := dashB) HO.out (show dashB (at' s k) = true by rw [HC.out]; unfold dashB; rw [c1]; rfl))
          clear HO HC c1
          go_wp2_with (go_at_call 52; refine (HL.out _).mono ?_; rintro e w1 ⟨rfl, hww⟩; subst hww)
          exact ⟨⟨k + 1, by omega, by go_num, HO2⟩, by simp [intOf]; omega⟩
        · have c1' : lowB c = false := by simpa using c1
          rw [c1'] at HL
          by_cases c3 : c = 45
          · subst c3
            have HO2 := hid (all_snoc (p := dashB) HO.out (show dashB (at' s k) = true by rw [HC.out]; decide))
            clear HO HC c1 c1'
            go_wp2_with (go_at_call 52; refine (HL.out _).mono ?_; rintro e w1 ⟨rfl, hww⟩; subst hww)
            exact ⟨⟨k + 1, by omega, by go_num, HO2⟩, by simp [intOf]; omega⟩
          · have HN := hid (show partB s = false by rw [HP.out, all_bad (p := dashB) hlt (show dashB (at' s k) = false by rw [HC.out]; unfold dashB; simp [c1', c3])]; rfl)
            have b3 : (c != 45) = true := by simpa using c3
            clear c1 c1' c3
            go_wp2_with (go_at_call 52; refine (HL.out _).mono ?_; rintro e w1 ⟨rfl, hww⟩; subst hww)
            go_ret
            exact ⟨ret_bool HN.out.symm, rfl⟩
      · obtain rfl : k = s.size := by omega
        have HV := hid (show partB s = (lowB (at' s 0) && lowB (at' s (s.size - 1))) by rw [HP.out, all_good HO.out]; rfl)
        obtain ⟨c, hc⟩ : ∃ c : Int, ((s[0]'(by omega)).toNat : Int) = c := ⟨_, rfl⟩
        obtain ⟨d, hd⟩ : ∃ d : Int, ((s[s.size - 1]'(by omega)).toNat : Int) = d := ⟨_, rfl⟩
        rw [at_get s 0 (by omega), hc, at_get s (s.size - 1) (by omega), hd] at HV
        have HC := hid (fun W => rlow_any c W)
        have HD := hid (fun W => rlow_any d W)
        have hsub : ((s.size : Int) - 1).toNat = s.size - 1 := by omega
        cases e1 : lowB c
        · rw [e1] at HC HV
          go_wp2_with fail
          refine (HC.out _).mono ?_
          rintro e w1 ⟨rfl, hww⟩; subst hww
          go_wp2_with fail
          go_ret
          exact ⟨ret_bool (by rw [HV.out]; rfl), rfl⟩
        · rw [e1] at HC HV
          cases e2 : lowB d <;>
          · rw [e2] at HD HV
            go_wp2_with fail
            refine (HC.out _).mono ?_
            rintro e w1 ⟨rfl, hww⟩; subst hww
            go_wp2_with fail
            refine (HD.out _).mono ?_
            rintro e w1 ⟨rfl, hww⟩; subst hww
            go_wp2_with fail
            go_ret
            exact ⟨ret_bool (by rw [HV.out]; rfl), rfl⟩
set_option maxHeartbeats 4000000 in
theorem rshort_any (s : ByteArray) (w : World) (hs : s.size ≤ maxLen) : Calls Tryd.prog 37 #[.string s] w fun e w' => e = .returned (.bool (shortB s)) ∧ w' = w := by
  unfold maxLen at hs
  by_cases h0 : s.size = 0
  · have HN := hid (show shortB s = false by unfold shortB; rw [decide_eq_false (by simp [h0])]; rfl)
    have hE := empty_yes h0
    go_enter Tryd.func37, Tryd.ntmps37
    go_wp2
    go_ret
    exact ⟨ret_bool HN.out.symm, rfl⟩
  · have hE := empty_no h0
    by_cases h63 : s.size ≤ 63
    · have g63 : ¬ (63 : Int) < (s.size : Int) := by omega
      have HV := hid (show shortB s = (allB innB s && (wordB (at' s 0) && wordB (at' s (s.size - 1)))) by unfold shortB; rw [decide_eq_true ⟨h0, h63⟩]; simp [Bool.and_assoc])
      go_enter Tryd.func37, Tryd.ntmps37
      go_wp2
      go_loop [3] (fun i => ∃ k : Nat, k ≤ s.size ∧ i = .int .i64 k ∧ Hid (∀ j, j < k → innB (at' s j) = true)) (fun i => s.size - (intOf i).toNat)
      case atStart => exact ⟨0, Nat.zero_le _, rfl, hid (fun j hj => by omega)⟩
      case round =>
        obtain ⟨k, hk, rfl, HO⟩ := hrel
        by_cases hlt : k < s.size
        · obtain ⟨c, hc⟩ : ∃ c : Int, ((s[k]'hlt).toNat : Int) = c := ⟨_, rfl⟩
          have HC := hid ((at_get s k hlt).trans hc)
          have HL := hid (fun W => rinner_any c W)
          cases c1 : innB c
          · rw [c1] at HL
            have HN := hid (show shortB s = false by rw [HV.out, all_bad (p := innB) hlt (show innB (at' s k) = false by rw [HC.out]; exact c1)]; rfl)
            clear HO HC c1
            go_wp2_with (go_at_call 39; refine (HL.out _).mono ?_; rintro e w1 ⟨rfl, hww⟩; subst hww)
            go_ret
            exact ⟨ret_bool HN.out.symm, rfl⟩
          · rw [c1] at HL
            have HO2 := hid (all_snoc (p := innB) HO.out (show innB (at' s k) = true by rw [HC.out]; exact c1))
            clear HO HC c1
            go_wp2_with (go_at_call 39; refine (HL.out _).mono ?_; rintro e w1 ⟨rfl, hww⟩; subst hww)
            exact ⟨⟨k + 1, by omega, by go_num, HO2⟩, by simp [intOf]; omega⟩
        · obtain rfl : k = s.size := by omega
          rw [all_good HO.out, Bool.true_and] at HV
          obtain ⟨c, hc⟩ : ∃ c : Int, ((s[0]'(by omega)).toNat : Int) = c := ⟨_, rfl⟩
          obtain ⟨d, hd⟩ : ∃ d : Int, ((s[s.size - 1]'(by omega)).toNat : Int) = d := ⟨_, rfl⟩
          rw [at_get s 0 (by omega), hc, at_get s (s.size - 1) (by omega), hd] at HV
          have HC := hid (fun W => rword_any c W)
          have HD := hid (fun W => rword_any d W)
          have hsub : ((s.size : Int) - 1).toNat = s.size - 1 := by omega
          clear HO
          cases e1 : wordB c
          · rw [e1] at HC HV
            go_wp2_with fail
            refine (HC.out _).mono ?_
            rintro e w1 ⟨rfl, hww⟩; subst hww
            go_wp2_with fail
            go_ret
            exact ⟨ret_bool (by rw [HV.out]; rfl), rfl⟩
          · rw [e1] at HC HV
            cases e2 : wordB d <;>
            · rw [e2] at HD HV
              go_wp2_with fail
              refine (HC.out _).mono ?_
              rintro e w1 ⟨rfl, hww⟩; subst hww
              go_wp2_with fail
              refine (HD.out _).mono ?_
              rintro e w1 ⟨rfl, hww⟩; subst hww
              go_wp2_with fail
              go_ret
              exact ⟨ret_bool (by rw [HV.out]; rfl), rfl⟩
    · have g63 : (63 : Int) < (s.size : Int) := by omega
      have HN := hid (show shortB s = false by unfold shortB; rw [decide_eq_false (by omega)]; rfl)
      go_enter Tryd.func37, Tryd.ntmps37
      go_wp2
      go_ret
      exact ⟨ret_bool HN.out.symm, rfl⟩
set_option maxHeartbeats 4000000 in
theorem rvalue_any (s : ByteArray) (w : World) (hs : s.size ≤ maxLen) : Calls Tryd.prog 26 #[.string s] w fun e w' => e = .returned (.bool (valB s)) ∧ w' = w := by
  unfold maxLen at hs
  by_cases h0 : s.size = 0
  · have HN := hid (show valB s = true by unfold valB; rw [decide_eq_true h0]; rfl)
    have hE := empty_yes h0
    go_enter Tryd.func26, Tryd.ntmps26
    go_wp2
    go_ret
    exact ⟨ret_bool HN.out.symm, rfl⟩
  · have hE := empty_no h0
    by_cases h63 : s.size ≤ 63
    · have g63 : ¬ (63 : Int) < (s.size : Int) := by omega
      have HV := hid (show valB s = (allB innB s && ((wordB (at' s 0) || at' s 0 == 45) && wordB (at' s (s.size - 1)))) by unfold valB; rw [decide_eq_false h0, decide_eq_true h63]; simp [Bool.and_assoc])
      go_enter Tryd.func26, Tryd.ntmps26
      go_wp2
      go_loop [3] (fun i => ∃ k : Nat, k ≤ s.size ∧ i = .int .i64 k ∧ Hid (∀ j, j < k → innB (at' s j) = true)) (fun i => s.size - (intOf i).toNat)
      case atStart => exact ⟨0, Nat.zero_le _, rfl, hid (fun j hj => by omega)⟩
      case round =>
        obtain ⟨k, hk, rfl, HO⟩ := hrel
        by_cases hlt : k < s.size
        · obtain ⟨c, hc⟩ : ∃ c : Int, ((s[k]'hlt).toNat : Int) = c := ⟨_, rfl⟩
          have HC := hid ((at_get s k hlt).trans hc)
          have HL := hid (fun W => rinner_any c W)
          cases c1 : innB c
          · rw [c1] at HL
            have HN := hid (show valB s = false by rw [HV.out, all_bad (p := innB) hlt (show innB (at' s k) = false by rw [HC.out]; exact c1)]; rfl)
            clear HO HC c1
            go_wp2_with (go_at_call 39; refine (HL.out _).mono ?_; rintro e w1 ⟨rfl, hww⟩; subst hww)
            go_ret
            exact ⟨ret_bool HN.out.symm, rfl⟩
          · rw [c1] at HL
            have HO2 := hid (all_snoc (p := innB) HO.out (show innB (at' s k) = true by rw [HC.out]; exact c1))
            clear HO HC c1
            go_wp2_with (go_at_call 39; refine (HL.out _).mono ?_; rintro e w1 ⟨rfl, hww⟩; subst hww)
            exact ⟨⟨k + 1, by omega, by go_num, HO2⟩, by simp [intOf]; omega⟩
        · obtain rfl : k = s.size := by omega
          rw [all_good HO.out, Bool.true_and] at HV
          obtain ⟨c, hc⟩ : ∃ c : Int, ((s[0]'(by omega)).toNat : Int) = c := ⟨_, rfl⟩
          obtain ⟨d, hd⟩ : ∃ d : Int, ((s[s.size - 1]'(by omega)).toNat : Int) = d := ⟨_, rfl⟩
          rw [at_get s 0 (by omega), hc, at_get s (s.size - 1) (by omega), hd] at HV
          have HC := hid (fun W => rword_any c W)
          have HD := hid (fun W => rword_any d W)
          have hsub : ((s.size : Int) - 1).toNat = s.size - 1 := by omega
          clear HO
          cases e1 : wordB c
          · rw [e1] at HC HV
            by_cases c3 : c = 45
            · subst c3
              cases e2 : wordB d <;>
              · rw [e2] at HD HV
                go_wp2_with fail
                refine (HC.out _).mono ?_
                rintro e w1 ⟨rfl, hww⟩; subst hww
                go_wp2_with fail
                refine (HD.out _).mono ?_
                rintro e w1 ⟨rfl, hww⟩; subst hww
                go_wp2_with fail
                go_ret
                exact ⟨ret_bool (by rw [HV.out]; first | rfl | decide), rfl⟩
            · have b3 : (c == 45) = false := by simpa using c3
              rw [b3] at HV
              go_wp2_with fail
              refine (HC.out _).mono ?_
              rintro e w1 ⟨rfl, hww⟩; subst hww
              go_wp2_with fail
              go_ret
              exact ⟨ret_bool (by rw [HV.out]; rfl), rfl⟩
          · rw [e1] at HC HV
            cases e2 : wordB d <;>
            · rw [e2] at HD HV
              go_wp2_with fail
              refine (HC.out _).mono ?_
              rintro e w1 ⟨rfl, hww⟩; subst hww
              go_wp2_with fail
              refine (HD.out _).mono ?_
              rintro e w1 ⟨rfl, hww⟩; subst hww
              go_wp2_with fail
              go_ret
              exact ⟨ret_bool (by rw [HV.out]; first | rfl | simp), rfl⟩
    · have g63 : (63 : Int) < (s.size : Int) := by omega
      have HN := hid (show valB s = false by unfold valB; rw [decide_eq_false h0, decide_eq_false h63]; rfl)
      go_enter Tryd.func26, Tryd.ntmps26
      go_wp2
      go_ret
      exact ⟨ret_bool HN.out.symm, rfl⟩
end Go.Proofs.YtodamoblnlcodaaDoor.L
