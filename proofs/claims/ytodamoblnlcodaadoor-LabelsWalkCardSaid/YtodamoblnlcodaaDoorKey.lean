import Derived.Test.YtodamoblnlcodaaDoorSch
import Derived.Test.YtodamoblnlcodaaDoorLayS
namespace Go.Proofs.YtodamoblnlcodaaDoor.L
open Go.RowKit
set_option linter.unusedVariables false
/-- The pieces between a byte. -/
def pieces (s : ByteArray) (c : UInt8) : List ByteArray := Lib.splitB ⟨#[c]⟩ 0 (Lib.countB s ⟨#[c]⟩) s
theorem info9 : (Tryd.prog.info? 9).map (fun i => (i.zero, i.size, i.bytes)) = some (some (.string ByteArray.empty), 1, 16) := by kernel_rfl
theorem pieces_len (s : ByteArray) (c : UInt8) : (pieces s c).length = Lib.countB s ⟨#[c]⟩ + 1 := Lib.splitB_all ⟨#[c]⟩ (Nat.le_refl 1) 0 _ s rfl
theorem pieces_count (s : ByteArray) (c : UInt8) : Lib.countB s ⟨#[c]⟩ ≤ s.size := Lib.countB_le ⟨#[c]⟩ (Nat.le_refl 1) s.size s (Nat.le_refl _)
set_option maxHeartbeats 1000000 in
set_option maxRecDepth 100000 in
theorem split_any (s : ByteArray) (c : UInt8) (w : World) (hs : s.size < 4294967281) :
    Calls Tryd.prog 21 #[.string s, .string ⟨#[c]⟩] w fun e w' => e = .returned (.slice (some ⟨w.heap.size, 0, none⟩) (pieces s c).length (pieces s c).length) ∧ w' = w.alloc (.cells ((pieces s c).map Value.string).toArray 9) := by
  have h1 : 1 ≤ (⟨#[c]⟩ : ByteArray).size := Nat.le_refl 1
  have hle := pieces_count s c
  have hlen := pieces_len s c
  have hc : Lib.countB s ⟨#[c]⟩ = Lib.countByte s.data.toList c := by
    show Lib.count s.data.toList [c] = _
    rw [Lib.count_one]
    rfl
  have g := Any.strings_genSplit_core lays221 info9 s ⟨#[c]⟩ 0 (-1) (Lib.countB s ⟨#[c]⟩ + 1) w hs h1 (Nat.zero_le _)
    (fun x a hx => by
      have := sindex_any x c (w.alloc (.cells a 9))
      have e : Lib.indexB x ⟨#[c]⟩ = idx x c := Lib.index_one x.data.toList c
      rw [e]
      exact this)
    (by rw [hc]; exact count_any s c w)
    (by decide) (by decide) (by rw [if_pos (by decide)]; omega)
  rw [Nat.add_sub_cancel] at g
  have e2 : Lib.cellsOf (Lib.splitB ⟨#[c]⟩ 0 (Lib.countB s ⟨#[c]⟩) s) (Lib.countB s ⟨#[c]⟩ + 1) = ((pieces s c).map Value.string).toArray := by rw [← hlen]; exact Lib.cellsOf_full _
  rw [e2, ← hlen] at g
  rw [show Lib.splitB ⟨#[c]⟩ 0 (Lib.countB s ⟨#[c]⟩) s = pieces s c from rfl] at g
  have G := hid (show Calls Tryd.prog 29 _ _ _ from g)
  clear g hc hlen hle e2
  generalize pieces s c = ps at *
  go_enter Tryd.func21, Tryd.ntmps21
  go_wp2_with fail
  refine G.out.mono ?_
  rintro e w1 ⟨rfl, rfl⟩
  go_wp2_with fail
  go_ret
  exact ⟨rfl, rfl⟩
def dashB (c : Int) : Bool := lowB c || c == 45
def partB (s : ByteArray) : Bool := decide (s.size ≠ 0) && allB dashB s && lowB (at' s 0) && lowB (at' s (s.size - 1))
def nameB (s : ByteArray) : Bool := decide (s.size ≤ 63) && (pieces s 46).all partB
def shortB (s : ByteArray) : Bool := decide (s.size ≠ 0 ∧ s.size ≤ 63) && allB innB s && wordB (at' s 0) && wordB (at' s (s.size - 1))
def keyB (s : ByteArray) : Bool := if idx s 47 = -1 then shortB s else nameB (s.extract 0 (idx s 47).toNat) && shortB (s.extract ((idx s 47).toNat + 1) s.size)
set_option maxHeartbeats 4000000 in
theorem part_any (s : ByteArray) (w : World) (hs : s.size ≤ maxLen) : Calls Tryd.prog 77 #[.string s] w fun e w' => e = .returned (.bool (partB s)) ∧ w' = w := by
  unfold maxLen at hs
  by_cases h0 : s.size = 0
  · have HN := hid (show partB s = false by unfold partB; rw [decide_eq_false (by simpa using h0)]; rfl)
    have hE := empty_yes h0
    go_enter Tryd.func77, Tryd.ntmps77
    go_wp2
    go_ret
    exact ⟨ret_bool HN.out.symm, rfl⟩
  · have hE := empty_no h0
    have HP := hid (show partB s = (allB dashB s && lowB (at' s 0) && lowB (at' s (s.size - 1))) by unfold partB; rw [decide_eq_true h0]; rfl)
    go_enter Tryd.func77, Tryd.ntmps77
    go_wp2
    go_loop [8] (fun i => ∃ k : Nat, k ≤ s.size ∧ i = .int .i64 k ∧ Hid (∀ j, j < k → dashB (at' s j) = true)) (fun i => s.size - (intOf i).toNat)
    case atStart => exact ⟨0, Nat.zero_le _, rfl, hid (fun j hj => by omega)⟩
    case round =>
      obtain ⟨k, hk, rfl, HO⟩ := hrel
      by_cases hlt : k < s.size
      · obtain ⟨c, hc⟩ : ∃ c : Int, ((s[k]'hlt).toNat : Int) = c := ⟨_, rfl⟩
        have HC := hid ((at_get s k hlt).trans hc)
        have HL := hid (fun W => low_any c W)
        by_cases c1 : lowB c = true
        · rw [c1] at HL
          have HO2 := hid (all_snoc (p := dashB) HO.out (show dashB (at' s k) = true by rw [HC.out]; unfold dashB; rw [c1]; rfl))
          clear HO HC c1
          go_wp2_with (go_at_call 78; refine (HL.out _).mono ?_; rintro e w1 ⟨rfl, hww⟩; subst hww)
          exact ⟨⟨k + 1, by omega, by go_num, HO2⟩, by simp [intOf]; omega⟩
        · have c1' : lowB c = false := by simpa using c1
          rw [c1'] at HL
          by_cases c3 : c = 45
          · subst c3
            have HO2 := hid (all_snoc (p := dashB) HO.out (show dashB (at' s k) = true by rw [HC.out]; decide))
            clear HO HC c1 c1'
            go_wp2_with (go_at_call 78; refine (HL.out _).mono ?_; rintro e w1 ⟨rfl, hww⟩; subst hww)
            exact ⟨⟨k + 1, by omega, by go_num, HO2⟩, by simp [intOf]; omega⟩
          · have HN := hid (show partB s = false by rw [HP.out, all_bad (p := dashB) hlt (show dashB (at' s k) = false by rw [HC.out]; unfold dashB; simp [c1', c3])]; rfl)
            have b3 : (c != 45) = true := by simpa using c3
            clear c1 c1' c3
            go_wp2_with (go_at_call 78; refine (HL.out _).mono ?_; rintro e w1 ⟨rfl, hww⟩; subst hww)
            go_ret
            exact ⟨ret_bool HN.out.symm, rfl⟩
      · obtain rfl : k = s.size := by omega
        have HV := hid (show partB s = (lowB (at' s 0) && lowB (at' s (s.size - 1))) by rw [HP.out, all_good HO.out]; rfl)
        obtain ⟨c, hc⟩ : ∃ c : Int, ((s[0]'(by omega)).toNat : Int) = c := ⟨_, rfl⟩
        obtain ⟨d, hd⟩ : ∃ d : Int, ((s[s.size - 1]'(by omega)).toNat : Int) = d := ⟨_, rfl⟩
        rw [at_get s 0 (by omega), hc, at_get s (s.size - 1) (by omega), hd] at HV
        have HC := hid (fun W => low_any c W)
        have HD := hid (fun W => low_any d W)
        have hsub : ((s.size : Int) - 1).toNat = s.size - 1 := by omega
        cases e1 : lowB c
        · rw [e1] at HC HV
          go_wp2_with fail
          refine (HC.out _).mono ?_
          rintro e w1 ⟨rfl, hww⟩; subst hww
          go_wp2_with fail
          go_ret
          exact ⟨ret_bool (by rw [HV.out]; rfl), rfl⟩
        · rw [e1] at HC HV
          cases e2 : lowB d <;>
          · rw [e2] at HD HV
            go_wp2_with fail
            refine (HC.out _).mono ?_
            rintro e w1 ⟨rfl, hww⟩; subst hww
            go_wp2_with fail
            refine (HD.out _).mono ?_
            rintro e w1 ⟨rfl, hww⟩; subst hww
            go_wp2_with fail
            go_ret
            exact ⟨ret_bool (by rw [HV.out]; rfl), rfl⟩
set_option maxHeartbeats 4000000 in
theorem short_any (s : ByteArray) (w : World) (hs : s.size ≤ maxLen) : Calls Tryd.prog 57 #[.string s] w fun e w' => e = .returned (.bool (shortB s)) ∧ w' = w := by
  unfold maxLen at hs
  by_cases h0 : s.size = 0
  · have HN := hid (show shortB s = false by unfold shortB; rw [decide_eq_false (by simp [h0])]; rfl)
    have hE := empty_yes h0
    go_enter Tryd.func57, Tryd.ntmps57
    go_wp2
    go_ret
    exact ⟨ret_bool HN.out.symm, rfl⟩
  · have hE := empty_no h0
    by_cases h63 : s.size ≤ 63
    · have g63 : ¬ (63 : Int) < (s.size : Int) := by omega
      have HV := hid (show shortB s = (allB innB s && wordB (at' s 0) && wordB (at' s (s.size - 1))) by unfold shortB; rw [decide_eq_true ⟨h0, h63⟩]; simp)
      have HP := hid (fun W => plain_any s W (by unfold maxLen; omega))
      obtain ⟨c, hc⟩ : ∃ c : Int, ((s[0]'(by omega)).toNat : Int) = c := ⟨_, rfl⟩
      obtain ⟨d, hd⟩ : ∃ d : Int, ((s[s.size - 1]'(by omega)).toNat : Int) = d := ⟨_, rfl⟩
      rw [at_get s 0 (by omega), hc, at_get s (s.size - 1) (by omega), hd] at HV
      have HC := hid (fun W => word_any c W)
      have HD := hid (fun W => word_any d W)
      have hsub : ((s.size : Int) - 1).toNat = s.size - 1 := by omega
      cases e0 : allB innB s
      · rw [e0] at HV HP
        go_enter Tryd.func57, Tryd.ntmps57
        go_wp2_with fail
        refine (HP.out _).mono ?_
        rintro e w1 ⟨rfl, hww⟩; subst hww
        go_wp2_with fail
        go_ret
        exact ⟨ret_bool (by rw [HV.out]; rfl), rfl⟩
      · rw [e0] at HV HP
        cases e1 : wordB c
        · rw [e1] at HC HV
          go_enter Tryd.func57, Tryd.ntmps57
          go_wp2_with fail
          refine (HP.out _).mono ?_
          rintro e w1 ⟨rfl, hww⟩; subst hww
          go_wp2_with fail
          refine (HC.out _).mono ?_
          rintro e w1 ⟨rfl, hww⟩; subst hww
          go_wp2_with fail
          go_ret
          exact ⟨ret_bool (by rw [HV.out]; rfl), rfl⟩
        · rw [e1] at HC HV
          cases e2 : wordB d <;>
          · rw [e2] at HD HV
            go_enter Tryd.func57, Tryd.ntmps57
            go_wp2_with fail
            refine (HP.out _).mono ?_
            rintro e w1 ⟨rfl, hww⟩; subst hww
            go_wp2_with fail
            refine (HC.out _).mono ?_
            rintro e w1 ⟨rfl, hww⟩; subst hww
            go_wp2_with fail
            refine (HD.out _).mono ?_
            rintro e w1 ⟨rfl, hww⟩; subst hww
            go_wp2_with fail
            go_ret
            exact ⟨ret_bool (by rw [HV.out]; rfl), rfl⟩
    · have g63 : (63 : Int) < (s.size : Int) := by omega
      have HN := hid (show shortB s = false by unfold shortB; rw [decide_eq_false (by omega)]; rfl)
      go_enter Tryd.func57, Tryd.ntmps57
      go_wp2
      go_ret
      exact ⟨ret_bool HN.out.symm, rfl⟩
end Go.Proofs.YtodamoblnlcodaaDoor.L
