import Derived.Test.YtodamoblnlcodaaDoorLab
namespace Go.Proofs.YtodamoblnlcodaaDoor.L
open Go.RowKit
set_option linter.unusedVariables false
def lowB (c : Int) : Bool := decide (97 ≤ c ∧ c ≤ 122) || decide (48 ≤ c ∧ c ≤ 57)
def wordB (c : Int) : Bool := lowB c || decide (65 ≤ c ∧ c ≤ 90)
def innB (c : Int) : Bool := wordB c || c == 45 || c == 95 || c == 46
theorem low_any (c : Int) (w : World) : Calls Tryd.prog 78 #[.int .u8 c] w fun e w' => e = .returned (.bool (lowB c)) ∧ w' = w := by
  unfold lowB
  by_cases a : 97 ≤ c
  · by_cases b : c ≤ 122
    · go_enter Tryd.func78, Tryd.ntmps78
      go_wp2
      go_ret
      exact ⟨ret_bool (by simp [a, b]), rfl⟩
    · have a2 : 48 ≤ c := by omega
      have b2 : ¬ c ≤ 57 := by omega
      go_enter Tryd.func78, Tryd.ntmps78
      go_wp2
      go_ret
      exact ⟨ret_bool (by simp; omega), rfl⟩
  · by_cases a2 : 48 ≤ c
    · by_cases b2 : c ≤ 57
      · go_enter Tryd.func78, Tryd.ntmps78
        go_wp2
        go_ret
        exact ⟨ret_bool (by simp), rfl⟩
      · go_enter Tryd.func78, Tryd.ntmps78
        go_wp2
        go_ret
        exact ⟨ret_bool (by simp; omega), rfl⟩
    · go_enter Tryd.func78, Tryd.ntmps78
      go_wp2
      go_ret
      exact ⟨ret_bool (by simp; omega), rfl⟩
theorem word_any (c : Int) (w : World) : Calls Tryd.prog 60 #[.int .u8 c] w fun e w' => e = .returned (.bool (wordB c)) ∧ w' = w := by
  have HL := hid (fun W => low_any c W)
  unfold wordB
  cases e1 : lowB c
  · rw [e1] at HL
    by_cases a : 65 ≤ c
    · by_cases b : c ≤ 90
      · go_enter Tryd.func60, Tryd.ntmps60
        go_wp2_with (go_at_call 78; refine (HL.out _).mono ?_; rintro e w1 ⟨rfl, hww⟩; subst hww)
        go_ret
        exact ⟨ret_bool (by simp [a, b]), rfl⟩
      · go_enter Tryd.func60, Tryd.ntmps60
        go_wp2_with (go_at_call 78; refine (HL.out _).mono ?_; rintro e w1 ⟨rfl, hww⟩; subst hww)
        go_ret
        exact ⟨ret_bool (by simp; omega), rfl⟩
    · go_enter Tryd.func60, Tryd.ntmps60
      go_wp2_with (go_at_call 78; refine (HL.out _).mono ?_; rintro e w1 ⟨rfl, hww⟩; subst hww)
      go_ret
      exact ⟨ret_bool (by simp; omega), rfl⟩
  · rw [e1] at HL
    go_enter Tryd.func60, Tryd.ntmps60
    go_wp2_with (go_at_call 78; refine (HL.out _).mono ?_; rintro e w1 ⟨rfl, hww⟩; subst hww)
    go_ret
    exact ⟨ret_bool (by simp), rfl⟩
def at' (s : ByteArray) (i : Nat) : Int := ((s.data.toList.getD i 0).toNat : Int)
theorem at_get (s : ByteArray) (k : Nat) (h : k < s.size) : at' s k = ((s[k]'h).toNat : Int) := by
  unfold at'
  simp [h]
  rfl
theorem all_snoc {p : Int → Bool} {s : ByteArray} {k : Nat} (h : ∀ j, j < k → p (at' s j) = true) (h' : p (at' s k) = true) : ∀ j, j < k + 1 → p (at' s j) = true := by
  intro j hj
  by_cases e : j < k
  · exact h j e
  · obtain rfl : j = k := by omega
    exact h'
def allB (p : Int → Bool) (s : ByteArray) : Bool := decide (∀ i, i < s.size → p (at' s i) = true)
theorem all_bad {p : Int → Bool} {s : ByteArray} {k : Nat} (hk : k < s.size) (h : p (at' s k) = false) : allB p s = false := by
  unfold allB
  rw [decide_eq_false]
  intro x
  rw [x k hk] at h
  cases h
theorem all_good {p : Int → Bool} {s : ByteArray} (h : ∀ j, j < s.size → p (at' s j) = true) : allB p s = true := by
  unfold allB
  exact decide_eq_true h
set_option maxHeartbeats 4000000 in
theorem plain_any (s : ByteArray) (w : World) (hs : s.size ≤ maxLen) : Calls Tryd.prog 59 #[.string s] w fun e w' => e = .returned (.bool (allB innB s)) ∧ w' = w := by
  unfold maxLen at hs
  go_enter Tryd.func59, Tryd.ntmps59
  go_wp2
  go_loop [6] (fun i => ∃ k : Nat, k ≤ s.size ∧ i = .int .i64 k ∧ Hid (∀ j, j < k → innB (at' s j) = true)) (fun i => s.size - (intOf i).toNat)
  case atStart => exact ⟨0, Nat.zero_le _, rfl, hid (fun j hj => by omega)⟩
  case round =>
    obtain ⟨k, hk, rfl, HO⟩ := hrel
    by_cases hlt : k < s.size
    · obtain ⟨c, hc⟩ : ∃ c : Int, ((s[k]'hlt).toNat : Int) = c := ⟨_, rfl⟩
      have HC := hid ((at_get s k hlt).trans hc)
      have HL := hid (fun W => word_any c W)
      by_cases c1 : wordB c = true
      · rw [c1] at HL
        have HO2 := hid (all_snoc (p := innB) HO.out (show innB (at' s k) = true by rw [HC.out]; unfold innB; rw [c1]; rfl))
        clear HO HC c1
        go_wp2_with (go_at_call 60; refine (HL.out _).mono ?_; rintro e w1 ⟨rfl, hww⟩; subst hww)
        exact ⟨⟨k + 1, by omega, by go_num, HO2⟩, by simp [intOf]; omega⟩
      · have c1' : wordB c = false := by simpa using c1
        rw [c1'] at HL
        by_cases c3 : c = 45
        · subst c3
          have HO2 := hid (all_snoc (p := innB) HO.out (show innB (at' s k) = true by rw [HC.out]; decide))
          clear HO HC c1 c1'
          go_wp2_with (go_at_call 60; refine (HL.out _).mono ?_; rintro e w1 ⟨rfl, hww⟩; subst hww)
          exact ⟨⟨k + 1, by omega, by go_num, HO2⟩, by simp [intOf]; omega⟩
        · by_cases c4 : c = 95
          · subst c4
            have HO2 := hid (all_snoc (p := innB) HO.out (show innB (at' s k) = true by rw [HC.out]; decide))
            clear HO HC c1 c1' c3
            go_wp2_with (go_at_call 60; refine (HL.out _).mono ?_; rintro e w1 ⟨rfl, hww⟩; subst hww)
            exact ⟨⟨k + 1, by omega, by go_num, HO2⟩, by simp [intOf]; omega⟩
          · by_cases c5 : c = 46
            · subst c5
              have HO2 := hid (all_snoc (p := innB) HO.out (show innB (at' s k) = true by rw [HC.out]; decide))
              clear HO HC c1 c1' c3 c4
              go_wp2_with (go_at_call 60; refine (HL.out _).mono ?_; rintro e w1 ⟨rfl, hww⟩; subst hww)
              exact ⟨⟨k + 1, by omega, by go_num, HO2⟩, by simp [intOf]; omega⟩
            · have HN := hid (all_bad (p := innB) hlt (show innB (at' s k) = false by rw [HC.out]; unfold innB; simp [c1', c3, c4, c5]))
              have b3 : (c != 45) = true := by simpa using c3
              have b4 : (c != 95) = true := by simpa using c4
              have b5 : (c != 46) = true := by simpa using c5
              clear c1 c1' c3 c4 c5
              go_wp2_with (go_at_call 60; refine (HL.out _).mono ?_; rintro e w1 ⟨rfl, hww⟩; subst hww)
              go_ret
              exact ⟨ret_bool HN.out.symm, rfl⟩
    · obtain rfl : k = s.size := by omega
      have HN := hid (all_good HO.out)
      go_wp2
      go_ret
      exact ⟨ret_bool HN.out.symm, rfl⟩
theorem empty_yes {s : ByteArray} (h : s.size = 0) : s.toList.isEmpty = true := by
  rw [ByteArray.toList_eq]
  simp
  rw [ByteArray.size_eq_zero_iff.1 h]
  rfl
theorem empty_no {s : ByteArray} (h : s.size ≠ 0) : s.toList.isEmpty = false := by
  rw [ByteArray.toList_eq]
  cases e : s.data.toList.isEmpty
  · rfl
  · simp at e
    exact absurd (by show s.data.size = 0; rw [e]; rfl) h
def valB (s : ByteArray) : Bool := decide (s.size = 0) || (decide (s.size ≤ 63) && allB innB s && (wordB (at' s 0) || at' s 0 == 45) && wordB (at' s (s.size - 1)))
set_option maxHeartbeats 4000000 in
theorem value_any (s : ByteArray) (w : World) (hs : s.size ≤ maxLen) : Calls Tryd.prog 47 #[.string s] w fun e w' => e = .returned (.bool (valB s)) ∧ w' = w := by
  unfold maxLen at hs
  by_cases h0 : s.size = 0
  · have HN := hid (show valB s = true by unfold valB; rw [decide_eq_true h0]; rfl)
    have hE := empty_yes h0
    go_enter Tryd.func47, Tryd.ntmps47
    go_wp2
    go_ret
    exact ⟨ret_bool HN.out.symm, rfl⟩
  · have hE := empty_no h0
    by_cases h63 : s.size ≤ 63
    · have g63 : (s.size : Int) ≤ 63 := by omega
      have HV := hid (show valB s = (allB innB s && (wordB (at' s 0) || at' s 0 == 45) && wordB (at' s (s.size - 1))) by unfold valB; rw [decide_eq_false h0, decide_eq_true h63]; simp)
      have HP := hid (fun W => plain_any s W (by unfold maxLen; omega))
      obtain ⟨c, hc⟩ : ∃ c : Int, ((s[0]'(by omega)).toNat : Int) = c := ⟨_, rfl⟩
      obtain ⟨d, hd⟩ : ∃ d : Int, ((s[s.size - 1]'(by omega)).toNat : Int) = d := ⟨_, rfl⟩
      rw [at_get s 0 (by omega), hc, at_get s (s.size - 1) (by omega), hd] at HV
      have HC := hid (fun W => word_any c W)
      have HD := hid (fun W => word_any d W)
      have hsub : ((s.size : Int) - 1).toNat = s.size - 1 := by omega
      cases e0 : allB innB s
      · rw [e0] at HV HP
        go_enter Tryd.func47, Tryd.ntmps47
        go_wp2_with (go_at_call 59; refine (HP.out _).mono ?_; rintro e w1 ⟨rfl, hww⟩; subst hww)
        go_ret
        exact ⟨ret_bool (by rw [HV.out]; rfl), rfl⟩
      · rw [e0] at HV HP
        cases e1 : wordB c
        · rw [e1] at HC HV
          by_cases c3 : c = 45
          · subst c3
            cases e2 : wordB d
            · rw [e2] at HD HV
              go_enter Tryd.func47, Tryd.ntmps47
              go_wp2_with fail
              refine (HP.out _).mono ?_
              rintro e w1 ⟨rfl, hww⟩; subst hww
              go_wp2_with fail
              refine (HC.out _).mono ?_
              rintro e w1 ⟨rfl, hww⟩; subst hww
              go_wp2_with fail
              refine (HD.out _).mono ?_
              rintro e w1 ⟨rfl, hww⟩; subst hww
              go_wp2_with fail
              go_ret
              exact ⟨ret_bool (by rw [HV.out]; first | rfl | decide | simp_all), rfl⟩
            · rw [e2] at HD HV
              go_enter Tryd.func47, Tryd.ntmps47
              go_wp2_with fail
              refine (HP.out _).mono ?_
              rintro e w1 ⟨rfl, hww⟩; subst hww
              go_wp2_with fail
              refine (HC.out _).mono ?_
              rintro e w1 ⟨rfl, hww⟩; subst hww
              go_wp2_with fail
              refine (HD.out _).mono ?_
              rintro e w1 ⟨rfl, hww⟩; subst hww
              go_wp2_with fail
              go_ret
              exact ⟨ret_bool (by rw [HV.out]; first | rfl | decide | simp_all), rfl⟩
          · have b3 : (c == 45) = false := by simpa using c3
            rw [b3] at HV
            go_enter Tryd.func47, Tryd.ntmps47
            go_wp2_with fail
            refine (HP.out _).mono ?_
            rintro e w1 ⟨rfl, hww⟩; subst hww
            go_wp2_with fail
            refine (HC.out _).mono ?_
            rintro e w1 ⟨rfl, hww⟩; subst hww
            go_wp2_with fail
            go_ret
            exact ⟨ret_bool (by rw [HV.out]; first | rfl | decide | simp_all), rfl⟩
        · rw [e1] at HC HV
          cases e2 : wordB d
          · rw [e2] at HD HV
            go_enter Tryd.func47, Tryd.ntmps47
            go_wp2_with fail
            refine (HP.out _).mono ?_
            rintro e w1 ⟨rfl, hww⟩; subst hww
            go_wp2_with fail
            refine (HC.out _).mono ?_
            rintro e w1 ⟨rfl, hww⟩; subst hww
            go_wp2_with fail
            refine (HD.out _).mono ?_
            rintro e w1 ⟨rfl, hww⟩; subst hww
            go_wp2_with fail
            go_ret
            exact ⟨ret_bool (by rw [HV.out]; first | rfl | decide | simp_all), rfl⟩
          · rw [e2] at HD HV
            go_enter Tryd.func47, Tryd.ntmps47
            go_wp2_with fail
            refine (HP.out _).mono ?_
            rintro e w1 ⟨rfl, hww⟩; subst hww
            go_wp2_with fail
            refine (HC.out _).mono ?_
            rintro e w1 ⟨rfl, hww⟩; subst hww
            go_wp2_with fail
            refine (HD.out _).mono ?_
            rintro e w1 ⟨rfl, hww⟩; subst hww
            go_wp2_with fail
            go_ret
            exact ⟨ret_bool (by rw [HV.out]; first | rfl | decide | simp_all), rfl⟩
    · have g63 : ¬ (s.size : Int) ≤ 63 := by omega
      have HN := hid (show valB s = false by unfold valB; rw [decide_eq_false h0, decide_eq_false h63]; rfl)
      go_enter Tryd.func47, Tryd.ntmps47
      go_wp2
      go_ret
      exact ⟨ret_bool HN.out.symm, rfl⟩
end Go.Proofs.YtodamoblnlcodaaDoor.L
