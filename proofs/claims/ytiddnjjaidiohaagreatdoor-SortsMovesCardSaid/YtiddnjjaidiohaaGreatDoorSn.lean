import Derived.Test.YtiddnjjaidiohaaGreatDoorS8
import Derived.Test.YtiddnjjaidiohaaGreatDoorNam
import Derived.WalkKit
import Derived.WalkSpells
import Derived.WalkLawsBesides
import Derived.Handy
import Derived.Deep.QuietTactic
import Derived.BigQuiet
namespace Go.Proofs.YtiddnjjaidiohaaGreatDoor.L.Qn
open Go.RowKit Go.Shelf
set_option linter.unusedVariables false
def letB (c : Int) : Bool := decide (97 ≤ c ∧ c ≤ 122)
def digB (c : Int) : Bool := decide (48 ≤ c ∧ c ≤ 57)
def okB (c : Int) : Bool := letB c || digB c || c == 45 || c == 46 || c == 47
theorem letter_any (c : Int) (w : World) : Calls Tryz.prog 103 #[.int .u8 c] w fun e w' => e = .returned (.bool (letB c)) ∧ w' = w := by
  unfold letB
  by_cases a : 97 ≤ c
  · by_cases b : c ≤ 122
    · go_enter Tryz.func103, Tryz.ntmps103
      go_wp2
      go_ret
      exact ⟨ret_bool (by simp [a, b]), rfl⟩
    · go_enter Tryz.func103, Tryz.ntmps103
      go_wp2
      go_ret
      exact ⟨ret_bool (by simp; omega), rfl⟩
  · go_enter Tryz.func103, Tryz.ntmps103
    go_wp2
    go_ret
    exact ⟨ret_bool (by simp; omega), rfl⟩
theorem digit_any (c : Int) (w : World) : Calls Tryz.prog 104 #[.int .u8 c] w fun e w' => e = .returned (.bool (digB c)) ∧ w' = w := by
  unfold digB
  by_cases a : 48 ≤ c
  · by_cases b : c ≤ 57
    · go_enter Tryz.func104, Tryz.ntmps104
      go_wp2
      go_ret
      exact ⟨ret_bool (by simp [a, b]), rfl⟩
    · go_enter Tryz.func104, Tryz.ntmps104
      go_wp2
      go_ret
      exact ⟨ret_bool (by simp; omega), rfl⟩
  · go_enter Tryz.func104, Tryz.ntmps104
    go_wp2
    go_ret
    exact ⟨ret_bool (by simp; omega), rfl⟩
def at' (s : ByteArray) (i : Nat) : Int := ((s.data.toList.getD i 0).toNat : Int)
def nameB (s : ByteArray) : Bool := decide (1 ≤ s.size ∧ s.size ≤ 32 ∧ ∀ i, i < s.size → okB (at' s i) = true) && letB (at' s 0) && (letB (at' s (s.size - 1)) || digB (at' s (s.size - 1)))
theorem at_get (s : ByteArray) (k : Nat) (h : k < s.size) : at' s k = ((s[k]'h).toNat : Int) := by
  unfold at'
  simp [h]
  rfl
theorem ok_snoc {s : ByteArray} {k : Nat} (h : ∀ j, j < k → okB (at' s j) = true) (h' : okB (at' s k) = true) : ∀ j, j < k + 1 → okB (at' s j) = true := by
  intro j hj
  by_cases e : j < k
  · exact h j e
  · obtain rfl : j = k := by omega
    exact h'
theorem name_bad (s : ByteArray) (k : Nat) (hk : k < s.size) (h : okB (at' s k) = false) : nameB s = false := by
  unfold nameB
  rw [decide_eq_false]
  · rfl
  · intro x
    rw [x.2.2 k hk] at h
    cases h
theorem name_good (s : ByteArray) (h0 : 1 ≤ s.size) (h1 : s.size ≤ 32) (h : ∀ j, j < s.size → okB (at' s j) = true) : nameB s = (letB (at' s 0) && (letB (at' s (s.size - 1)) || digB (at' s (s.size - 1)))) := by
  unfold nameB
  rw [decide_eq_true ⟨h0, h1, h⟩]
  simp
set_option maxHeartbeats 4000000 in
theorem name_out (s : ByteArray) (w : World) (hs : s.size ≤ maxLen) (h : s.size = 0 ∨ 32 < s.size) : Calls Tryz.prog 99 #[.string s] w fun e w' => e = .returned (.bool (nameB s)) ∧ ∃ n, w' = w.drewN n := by
  unfold maxLen at hs
  have HN := hid (show nameB s = false by unfold nameB; rw [decide_eq_false (by omega)]; rfl)
  rcases h with h | h
  · go_enter Tryz.func99, Tryz.ntmps99
    go_wp2
    go_ret
    exact ⟨ret_bool HN.out.symm, 0, rfl⟩
  · have h' : ¬ s.size = 0 := by omega
    go_enter Tryz.func99, Tryz.ntmps99
    go_wp2
    go_ret
    exact ⟨ret_bool HN.out.symm, 0, rfl⟩
set_option maxHeartbeats 4000000 in
theorem name_in (s : ByteArray) (w : World) (h0 : 1 ≤ s.size) (h1 : s.size ≤ 32) : Calls Tryz.prog 99 #[.string s] w fun e w' => e = .returned (.bool (nameB s)) ∧ ∃ n, w' = w.drewN n := by
  have hz : ((s.size : Int) == 0) = false := by simp; intro e; subst e; simp at h0
  have h32 : ¬ (32 : Int) < (s.size : Int) := by omega
  go_enter Tryz.func99, Tryz.ntmps99
  go_wp2
  go_loop [15] (fun i => ∃ k : Nat, k ≤ s.size ∧ i = .int .i64 k ∧ Hid (∀ j, j < k → okB (at' s j) = true)) (fun i => s.size - (intOf i).toNat)
  case atStart => exact ⟨0, Nat.zero_le _, rfl, hid (fun j hj => by omega)⟩
  case round =>
    obtain ⟨k, hk, rfl, HO⟩ := hrel
    by_cases hlt : k < s.size
    · obtain ⟨c, hc⟩ : ∃ c : Int, ((s[k]'hlt).toNat : Int) = c := ⟨_, rfl⟩
      have HC := hid ((at_get s k hlt).trans hc)
      have HL := hid (fun W => letter_any c W)
      have HD := hid (fun W => digit_any c W)
      by_cases c1 : letB c = true
      · rw [c1] at HL
        have HO2 := hid (ok_snoc HO.out (show okB (at' s k) = true by rw [HC.out]; unfold okB; rw [c1]; rfl))
        clear HO HC c1
        go_wp2_with (first | (go_at_call 103; refine (HL.out _).mono ?_; rintro e w1 ⟨rfl, hww⟩; subst hww) | (go_at_call 104; refine (HD.out _).mono ?_; rintro e w1 ⟨rfl, hww⟩; subst hww))
        exact ⟨⟨k + 1, by omega, by go_num, HO2⟩, by simp [intOf]; omega⟩
      · have c1' : letB c = false := by simpa using c1
        rw [c1'] at HL
        by_cases c2 : digB c = true
        · rw [c2] at HD
          have HO2 := hid (ok_snoc HO.out (show okB (at' s k) = true by rw [HC.out]; unfold okB; rw [c2]; simp))
          clear HO HC c1 c1' c2
          go_wp2_with (first | (go_at_call 103; refine (HL.out _).mono ?_; rintro e w1 ⟨rfl, hww⟩; subst hww) | (go_at_call 104; refine (HD.out _).mono ?_; rintro e w1 ⟨rfl, hww⟩; subst hww))
          exact ⟨⟨k + 1, by omega, by go_num, HO2⟩, by simp [intOf]; omega⟩
        · have c2' : digB c = false := by simpa using c2
          rw [c2'] at HD
          by_cases c3 : c = 45
          · subst c3
            have HO2 := hid (ok_snoc HO.out (show okB (at' s k) = true by rw [HC.out]; decide))
            clear HO HC c1 c1' c2 c2'
            go_wp2_with (first | (go_at_call 103; refine (HL.out _).mono ?_; rintro e w1 ⟨rfl, hww⟩; subst hww) | (go_at_call 104; refine (HD.out _).mono ?_; rintro e w1 ⟨rfl, hww⟩; subst hww))
            exact ⟨⟨k + 1, by omega, by go_num, HO2⟩, by simp [intOf]; omega⟩
          · by_cases c4 : c = 46
            · subst c4
              have HO2 := hid (ok_snoc HO.out (show okB (at' s k) = true by rw [HC.out]; decide))
              clear HO HC c1 c1' c2 c2' c3
              go_wp2_with (first | (go_at_call 103; refine (HL.out _).mono ?_; rintro e w1 ⟨rfl, hww⟩; subst hww) | (go_at_call 104; refine (HD.out _).mono ?_; rintro e w1 ⟨rfl, hww⟩; subst hww))
              exact ⟨⟨k + 1, by omega, by go_num, HO2⟩, by simp [intOf]; omega⟩
            · by_cases c5 : c = 47
              · subst c5
                have HO2 := hid (ok_snoc HO.out (show okB (at' s k) = true by rw [HC.out]; decide))
                clear HO HC c1 c1' c2 c2' c3 c4
                go_wp2_with (first | (go_at_call 103; refine (HL.out _).mono ?_; rintro e w1 ⟨rfl, hww⟩; subst hww) | (go_at_call 104; refine (HD.out _).mono ?_; rintro e w1 ⟨rfl, hww⟩; subst hww))
                exact ⟨⟨k + 1, by omega, by go_num, HO2⟩, by simp [intOf]; omega⟩
              · have HN := hid (name_bad s k hlt (show okB (at' s k) = false by rw [HC.out]; unfold okB; simp [c1', c2', c3, c4, c5]))
                have b3 : (c != 45) = true := by simpa using c3
                have b4 : (c != 46) = true := by simpa using c4
                have b5 : (c != 47) = true := by simpa using c5
                clear c1 c1' c2 c2' c3 c4 c5
                go_wp2_with (first | (go_at_call 103; refine (HL.out _).mono ?_; rintro e w1 ⟨rfl, hww⟩; subst hww) | (go_at_call 104; refine (HD.out _).mono ?_; rintro e w1 ⟨rfl, hww⟩; subst hww))
                go_ret
                exact ⟨ret_bool HN.out.symm, 0, rfl⟩
    · obtain rfl : k = s.size := by omega
      obtain ⟨c, hc⟩ : ∃ c : Int, ((s[0]'(by omega)).toNat : Int) = c := ⟨_, rfl⟩
      obtain ⟨d, hd⟩ : ∃ d : Int, ((s[s.size - 1]'(by omega)).toNat : Int) = d := ⟨_, rfl⟩
      have HN := hid (name_good s h0 h1 HO.out)
      rw [at_get s 0 (by omega), hc, at_get s (s.size - 1) (by omega), hd] at HN
      have HC := hid (fun W => letter_any c W)
      have HL := hid (fun W => letter_any d W)
      have HD := hid (fun W => digit_any d W)
      have hsub : ((s.size : Int) - 1).toNat = s.size - 1 := by omega
      cases e1 : letB c
      · rw [e1] at HC HN
        go_wp2_with fail
        refine (HC.out _).mono ?_
        rintro e w1 ⟨rfl, hww⟩; subst hww
        go_wp2_with fail
        go_ret
        exact ⟨ret_bool (by rw [HN.out]; rfl), 0, rfl⟩
      · rw [e1] at HC HN
        cases e2 : letB d
        · rw [e2] at HL HN
          go_wp2_with fail
          refine (HC.out _).mono ?_
          rintro e w1 ⟨rfl, hww⟩; subst hww
          go_wp2_with fail
          refine (HL.out _).mono ?_
          rintro e w1 ⟨rfl, hww⟩; subst hww
          go_wp2_with fail
          refine (HD.out _).mono ?_
          rintro e w1 ⟨rfl, hww⟩; subst hww
          go_wp2_with fail
          go_ret
          exact ⟨ret_bool (by rw [HN.out]; rfl), 0, rfl⟩
        · rw [e2] at HL HN
          go_wp2_with fail
          refine (HC.out _).mono ?_
          rintro e w1 ⟨rfl, hww⟩; subst hww
          go_wp2_with fail
          refine (HL.out _).mono ?_
          rintro e w1 ⟨rfl, hww⟩; subst hww
          go_wp2_with fail
          go_ret
          exact ⟨ret_bool (by rw [HN.out]; rfl), 0, rfl⟩
theorem name_any (s : ByteArray) (w : World) (hs : s.size ≤ maxLen) : Calls Tryz.prog 99 #[.string s] w fun e w' => e = .returned (.bool (nameB s)) ∧ ∃ n, w' = w.drewN n := by
  by_cases h : s.size = 0 ∨ 32 < s.size
  · exact name_out s w hs h
  · exact name_in s w (by omega) (by omega)
end Go.Proofs.YtiddnjjaidiohaaGreatDoor.L.Qn
