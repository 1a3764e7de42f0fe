import Derived.Test.YtppblibcbjpfnaaGreatDoorMgB
import Derived.Test.YtppblibcbjpfnaaGreatDoorCut
import Derived.OwnWalk
import Derived.Laws.AppendOwnNone
namespace Go.Proofs.YtppblibcbjpfnaaGreatDoor.L
open Go.RowKit
set_option linter.unusedVariables false
theorem rlow_any (c : Int) (w : World) : Calls Tryz.prog 79 #[.int .u8 c] w fun e w' => e = .returned (.bool (lowB c)) ∧ w' = w := by
  unfold lowB
  by_cases a : 97 ≤ c
  · by_cases b : c ≤ 122
    · go_enter Tryz.func79, Tryz.ntmps79
      go_wp2
      go_ret
      exact ⟨ret_bool (by simp [a, b]), rfl⟩
    · have a2 : 48 ≤ c := by omega
      have b2 : ¬ c ≤ 57 := by omega
      go_enter Tryz.func79, Tryz.ntmps79
      go_wp2
      go_ret
      exact ⟨ret_bool (by simp; omega), rfl⟩
  · by_cases a2 : 48 ≤ c
    · by_cases b2 : c ≤ 57
      · go_enter Tryz.func79, Tryz.ntmps79
        go_wp2
        go_ret
        exact ⟨ret_bool (by simp), rfl⟩
      · go_enter Tryz.func79, Tryz.ntmps79
        go_wp2
        go_ret
        exact ⟨ret_bool (by simp; omega), rfl⟩
    · go_enter Tryz.func79, Tryz.ntmps79
      go_wp2
      go_ret
      exact ⟨ret_bool (by simp; omega), rfl⟩
theorem rword_any (c : Int) (w : World) : Calls Tryz.prog 69 #[.int .u8 c] w fun e w' => e = .returned (.bool (wordB c)) ∧ w' = w := by
  have HL := hid (fun W => rlow_any c W)
  unfold wordB
  cases e1 : lowB c
  · rw [e1] at HL
    by_cases a : 65 ≤ c
    · by_cases b : c ≤ 90
      · go_enter Tryz.func69, Tryz.ntmps69
        go_wp2_with (go_at_call 79; refine (HL.out _).mono ?_; rintro e w1 ⟨rfl, hww⟩; subst hww)
        go_ret
        exact ⟨ret_bool (by simp [a, b]), rfl⟩
      · go_enter Tryz.func69, Tryz.ntmps69
        go_wp2_with (go_at_call 79; refine (HL.out _).mono ?_; rintro e w1 ⟨rfl, hww⟩; subst hww)
        go_ret
        exact ⟨ret_bool (by simp; omega), rfl⟩
    · go_enter Tryz.func69, Tryz.ntmps69
      go_wp2_with (go_at_call 79; refine (HL.out _).mono ?_; rintro e w1 ⟨rfl, hww⟩; subst hww)
      go_ret
      exact ⟨ret_bool (by simp; omega), rfl⟩
  · rw [e1] at HL
    go_enter Tryz.func69, Tryz.ntmps69
    go_wp2_with (go_at_call 79; refine (HL.out _).mono ?_; rintro e w1 ⟨rfl, hww⟩; subst hww)
    go_ret
    exact ⟨ret_bool (by simp), rfl⟩
set_option maxHeartbeats 4000000 in
theorem rinner_any (c : Int) (w : World) : Calls Tryz.prog 68 #[.int .u8 c] w fun e w' => e = .returned (.bool (innB c)) ∧ w' = w := by
  have HL := hid (fun W => rword_any c W)
  unfold innB
  cases e1 : wordB c
  · rw [e1] at HL
    cases f1 : (c == 45)
    · cases f2 : (c == 95)
      · cases f3 : (c == 46) <;>
        · go_enter Tryz.func68, Tryz.ntmps68
          go_wp2_with (go_at_call 69; refine (HL.out _).mono ?_; rintro e w1 ⟨rfl, hww⟩; subst hww)
          go_ret
          exact ⟨rfl, rfl⟩
      · go_enter Tryz.func68, Tryz.ntmps68
        go_wp2_with (go_at_call 69; refine (HL.out _).mono ?_; rintro e w1 ⟨rfl, hww⟩; subst hww)
        go_ret
        exact ⟨rfl, rfl⟩
    · go_enter Tryz.func68, Tryz.ntmps68
      go_wp2_with (go_at_call 69; refine (HL.out _).mono ?_; rintro e w1 ⟨rfl, hww⟩; subst hww)
      go_ret
      exact ⟨rfl, rfl⟩
  · rw [e1] at HL
    go_enter Tryz.func68, Tryz.ntmps68
    go_wp2_with (go_at_call 69; refine (HL.out _).mono ?_; rintro e w1 ⟨rfl, hww⟩; subst hww)
    go_ret
    exact ⟨rfl, rfl⟩
set_option maxHeartbeats 4000000 in
theorem rpart_any (s : ByteArray) (w : World) (hs : s.size ≤ maxLen) : Calls Tryz.prog 78 #[.string s] w fun e w' => e = .returned (.bool (partB s)) ∧ w' = w := by
  unfold maxLen at hs
  by_cases h0 : s.size = 0
  · have HN := hid (show partB s = false by unfold partB; rw [decide_eq_false (by simpa using h0)]; rfl)
    have hE := empty_yes h0
    go_enter Tryz.func78, Tryz.ntmps78
    go_wp2
    go_ret
    exact ⟨ret_bool HN.out.symm, rfl⟩
  · have hE := empty_no h0
    have HP := hid (show partB s = (allB dashB s && lowB (at' s 0) && lowB (at' s (s.size - 1))) by unfold partB; rw [decide_eq_true h0]; rfl)
    go_enter Tryz.func78, Tryz.ntmps78
    go_wp2
    go_loop [3] (fun i => ∃ k : Nat, k ≤ s.size ∧ i = .int .i64 k ∧ Hid (∀ j, j < k → dashB (at' s j) = true)) (fun i => s.size - (intOf i).toNat)
    case atStart => exact ⟨0, Nat.zero_le _, rfl, hid (fun j hj => by omega)⟩
    case round =>
      obtain ⟨k, hk, rfl, HO⟩ := hrel
      by_cases hlt : k < s.size
      · obtain ⟨c, hc⟩ : ∃ c : Int, ((s[k]'hlt).toNat : Int) = c := ⟨_, rfl⟩
        have HC := hid ((at_get s k hlt).trans hc)
        have HL := hid (fun W => rlow_any c W)
        by_cases c1 : lowB c = true
        · rw [c1] at HL
          have HO2 := hid (all_snoc (p := dashB) HO.out (show dashB (at' s k) = true by rw [HC.out]; unfold dashB; rw [c1]; rfl))
          clear HO HC c1
          go_wp2_with (go_at_call 79; refine (HL.out _).mono ?_; rintro e w1 ⟨rfl, hww⟩; subst hww)
          exact ⟨⟨k + 1, by omega, by go_num, HO2⟩, by simp [intOf]; omega⟩
        · have c1' : lowB c = false := by simpa using c1
          rw [c1'] at HL
          by_cases c3 : c = 45
          · subst c3
            have HO2 := hid (all_snoc (p := dashB) HO.out (show dashB (at' s k) = true by rw [HC.out]; decide))
            clear HO HC c1 c1'
            go_wp2_with (go_at_call 79; refine (HL.out _).mono ?_; rintro e w1 ⟨rfl, hww⟩; subst hww)
            exact ⟨⟨k + 1, by omega, by go_num, HO2⟩, by simp [intOf]; omega⟩
          · have HN := hid (show partB s = false by rw [HP.out, all_bad (p := dashB) hlt (show dashB (at' s k) = false by rw [HC.out]; unfold dashB; simp [c1', c3])]; rfl)
            have b3 : (c != 45) = true := by simpa using c3
            clear c1 c1' c3
            go_wp2_with (go_at_call 79; refine (HL.out _).mono ?_; rintro e w1 ⟨rfl, hww⟩; subst hww)
            go_ret
            exact ⟨ret_bool HN.out.symm, rfl⟩
      · obtain rfl : k = s.size := by omega
        have HV := hid (show partB s = (lowB (at' s 0) && lowB (at' s (s.size - 1))) by rw [HP.out, all_good HO.out]; rfl)
        obtain ⟨c, hc⟩ : ∃ c : Int, ((s[0]'(by omega)).toNat : Int) = c := ⟨_, rfl⟩
        obtain ⟨d, hd⟩ : ∃ d : Int, ((s[s.size - 1]'(by omega)).toNat : Int) = d := ⟨_, rfl⟩
        rw [at_get s 0 (by omega), hc, at_get s (s.size - 1) (by omega), hd] at HV
        have HC := hid (fun W => rlow_any c W)
        have HD := hid (fun W => rlow_any d W)
        have hsub : ((s.size : Int) - 1).toNat = s.size - 1 := by omega
        cases e1 : lowB c
        · rw [e1] at HC HV
          go_wp2_with fail
          refine (HC.out _).mono ?_
          rintro e w1 ⟨rfl, hww⟩; subst hww
          go_wp2_with fail
          go_ret
          exact ⟨ret_bool (by rw [HV.out]; rfl), rfl⟩
        · rw [e1] at HC HV
          cases e2 : lowB d <;>
          · rw [e2] at HD HV
            go_wp2_with fail
            refine (HC.out _).mono ?_
            rintro e w1 ⟨rfl, hww⟩; subst hww
            go_wp2_with fail
            refine (HD.out _).mono ?_
            rintro e w1 ⟨rfl, hww⟩; subst hww
            go_wp2_with fail
            go_ret
            exact ⟨ret_bool (by rw [HV.out]; rfl), rfl⟩
set_option maxHeartbeats 4000000 in
theorem rshort_any (s : ByteArray) (w : World) (hs : s.size ≤ maxLen) : Calls Tryz.prog 66 #[.string s] w fun e w' => e = .returned (.bool (shortB s)) ∧ w' = w := by
  unfold maxLen at hs
  by_cases h0 : s.size = 0
  · have HN := hid (show shortB s = false by unfold shortB; rw [decide_eq_false (by simp [h0])]; rfl)
    have hE := empty_yes h0
    go_enter Tryz.func66, Tryz.ntmps66
    go_wp2
    go_ret
    exact ⟨ret_bool HN.out.symm, rfl⟩
  · have hE := empty_no h0
    by_cases h63 : s.size ≤ 63
    · have g63 : ¬ (63 : Int) < (s.size : Int) := by omega
      have HV := hid (show shortB s = (allB innB s && (wordB (at' s 0) && wordB (at' s (s.size - 1)))) by unfold shortB; rw [decide_eq_true ⟨h0, h63⟩]; simp [Bool.and_assoc])
      go_enter Tryz.func66, Tryz.ntmps66
      go_wp2
      go_loop [3] (fun i => ∃ k : Nat, k ≤ s.size ∧ i = .int .i64 k ∧ Hid (∀ j, j < k → innB (at' s j) = true)) (fun i => s.size - (intOf i).toNat)
      case atStart => exact ⟨0, Nat.zero_le _, rfl, hid (fun j hj => by omega)⟩
      case round =>
        obtain ⟨k, hk, rfl, HO⟩ := hrel
        by_cases hlt : k < s.size
        · obtain ⟨c, hc⟩ : ∃ c : Int, ((s[k]'hlt).toNat : Int) = c := ⟨_, rfl⟩
          have HC := hid ((at_get s k hlt).trans hc)
          have HL := hid (fun W => rinner_any c W)
          cases c1 : innB c
          · rw [c1] at HL
            have HN := hid (show shortB s = false by rw [HV.out, all_bad (p := innB) hlt (show innB (at' s k) = false by rw [HC.out]; exact c1)]; rfl)
            clear HO HC c1
            go_wp2_with (go_at_call 68; refine (HL.out _).mono ?_; rintro e w1 ⟨rfl, hww⟩; subst hww)
            go_ret
            exact ⟨ret_bool HN.out.symm, rfl⟩
          · rw [c1] at HL
            have HO2 := hid (all_snoc (p := innB) HO.out (show innB (at' s k) = true by rw [HC.out]; exact c1))
            clear HO HC c1
            go_wp2_with (go_at_call 68; refine (HL.out _).mono ?_; rintro e w1 ⟨rfl, hww⟩; subst hww)
            exact ⟨⟨k + 1, by omega, by go_num, HO2⟩, by simp [intOf]; omega⟩
        · obtain rfl : k = s.size := by omega
          rw [all_good HO.out, Bool.true_and] at HV
          obtain ⟨c, hc⟩ : ∃ c : Int, ((s[0]'(by omega)).toNat : Int) = c := ⟨_, rfl⟩
          obtain ⟨d, hd⟩ : ∃ d : Int, ((s[s.size - 1]'(by omega)).toNat : Int) = d := ⟨_, rfl⟩
          rw [at_get s 0 (by omega), hc, at_get s (s.size - 1) (by omega), hd] at HV
          have HC := hid (fun W => rword_any c W)
          have HD := hid (fun W => rword_any d W)
          have hsub : ((s.size : Int) - 1).toNat = s.size - 1 := by omega
          clear HO
          cases e1 : wordB c
          · rw [e1] at HC HV
            go_wp2_with fail
            refine (HC.out _).mono ?_
            rintro e w1 ⟨rfl, hww⟩; subst hww
            go_wp2_with fail
            go_ret
            exact ⟨ret_bool (by rw [HV.out]; rfl), rfl⟩
          · rw [e1] at HC HV
            cases e2 : wordB d <;>
            · rw [e2] at HD HV
              go_wp2_with fail
              refine (HC.out _).mono ?_
              rintro e w1 ⟨rfl, hww⟩; subst hww
              go_wp2_with fail
              refine (HD.out _).mono ?_
              rintro e w1 ⟨rfl, hww⟩; subst hww
              go_wp2_with fail
              go_ret
              exact ⟨ret_bool (by rw [HV.out]; rfl), rfl⟩
    · have g63 : (63 : Int) < (s.size : Int) := by omega
      have HN := hid (show shortB s = false by unfold shortB; rw [decide_eq_false (by omega)]; rfl)
      go_enter Tryz.func66, Tryz.ntmps66
      go_wp2
      go_ret
      exact ⟨ret_bool HN.out.symm, rfl⟩
set_option maxHeartbeats 4000000 in
theorem rvalue_any (s : ByteArray) (w : World) (hs : s.size ≤ maxLen) : Calls Tryz.prog 45 #[.string s] w fun e w' => e = .returned (.bool (valB s)) ∧ w' = w := by
  unfold maxLen at hs
  by_cases h0 : s.size = 0
  · have HN := hid (show valB s = true by unfold valB; rw [decide_eq_true h0]; rfl)
    have hE := empty_yes h0
    go_enter Tryz.func45, Tryz.ntmps45
    go_wp2
    go_ret
    exact ⟨ret_bool HN.out.symm, rfl⟩
  · have hE := empty_no h0
    by_cases h63 : s.size ≤ 63
    · have g63 : ¬ (63 : Int) < (s.size : Int) := by omega
      have HV := hid (show valB s = (allB innB s && ((wordB (at' s 0) || at' s 0 == 45) && wordB (at' s (s.size - 1)))) by unfold valB; rw [decide_eq_false h0, decide_eq_true h63]; simp [Bool.and_assoc])
      go_enter Tryz.func45, Tryz.ntmps45
      go_wp2
      go_loop [3] (fun i => ∃ k : Nat, k ≤ s.size ∧ i = .int .i64 k ∧ Hid (∀ j, j < k → innB (at' s j) = true)) (fun i => s.size - (intOf i).toNat)
      case atStart => exact ⟨0, Nat.zero_le _, rfl, hid (fun j hj => by omega)⟩
      case round =>
        obtain ⟨k, hk, rfl, HO⟩ := hrel
        by_cases hlt : k < s.size
        · obtain ⟨c, hc⟩ : ∃ c : Int, ((s[k]'hlt).toNat : Int) = c := ⟨_, rfl⟩
          have HC := hid ((at_get s k hlt).trans hc)
          have HL := hid (fun W => rinner_any c W)
          cases c1 : innB c
          · rw [c1] at HL
            have HN := hid (show valB s = false by rw [HV.out, all_bad (p := innB) hlt (show innB (at' s k) = false by rw [HC.out]; exact c1)]; rfl)
            clear HO HC c1
            go_wp2_with (go_at_call 68; refine (HL.out _).mono ?_; rintro e w1 ⟨rfl, hww⟩; subst hww)
            go_ret
            exact ⟨ret_bool HN.out.symm, rfl⟩
          · rw [c1] at HL
            have HO2 := hid (all_snoc (p := innB) HO.out (show innB (at' s k) = true by rw [HC.out]; exact c1))
            clear HO HC c1
            go_wp2_with (go_at_call 68; refine (HL.out _).mono ?_; rintro e w1 ⟨rfl, hww⟩; subst hww)
            exact ⟨⟨k + 1, by omega, by go_num, HO2⟩, by simp [intOf]; omega⟩
        · obtain rfl : k = s.size := by omega
          rw [all_good HO.out, Bool.true_and] at HV
          obtain ⟨c, hc⟩ : ∃ c : Int, ((s[0]'(by omega)).toNat : Int) = c := ⟨_, rfl⟩
          obtain ⟨d, hd⟩ : ∃ d : Int, ((s[s.size - 1]'(by omega)).toNat : Int) = d := ⟨_, rfl⟩
          rw [at_get s 0 (by omega), hc, at_get s (s.size - 1) (by omega), hd] at HV
          have HC := hid (fun W => rword_any c W)
          have HD := hid (fun W => rword_any d W)
          have hsub : ((s.size : Int) - 1).toNat = s.size - 1 := by omega
          clear HO
          cases e1 : wordB c
          · rw [e1] at HC HV
            by_cases c3 : c = 45
            · subst c3
              cases e2 : wordB d <;>
              · rw [e2] at HD HV
                go_wp2_with fail
                refine (HC.out _).mono ?_
                rintro e w1 ⟨rfl, hww⟩; subst hww
                go_wp2_with fail
                refine (HD.out _).mono ?_
                rintro e w1 ⟨rfl, hww⟩; subst hww
                go_wp2_with fail
                go_ret
                exact ⟨ret_bool (by rw [HV.out]; first | rfl | decide), rfl⟩
            · have b3 : (c == 45) = false := by simpa using c3
              rw [b3] at HV
              go_wp2_with fail
              refine (HC.out _).mono ?_
              rintro e w1 ⟨rfl, hww⟩; subst hww
              go_wp2_with fail
              go_ret
              exact ⟨ret_bool (by rw [HV.out]; rfl), rfl⟩
          · rw [e1] at HC HV
            cases e2 : wordB d <;>
            · rw [e2] at HD HV
              go_wp2_with fail
              refine (HC.out _).mono ?_
              rintro e w1 ⟨rfl, hww⟩; subst hww
              go_wp2_with fail
              refine (HD.out _).mono ?_
              rintro e w1 ⟨rfl, hww⟩; subst hww
              go_wp2_with fail
              go_ret
              exact ⟨ret_bool (by rw [HV.out]; first | rfl | simp), rfl⟩
    · have g63 : (63 : Int) < (s.size : Int) := by omega
      have HN := hid (show valB s = false by unfold valB; rw [decide_eq_false h0, decide_eq_false h63]; rfl)
      go_enter Tryz.func45, Tryz.ntmps45
      go_wp2
      go_ret
      exact ⟨ret_bool HN.out.symm, rfl⟩
end Go.Proofs.YtppblibcbjpfnaaGreatDoor.L
namespace Go.Proofs.YtppblibcbjpfnaaGreatDoor.L
open Go.RowKit
set_option linter.unusedVariables false
/-- A row of texts that lies in the world. -/
def StrAt (W : World) (v : Value) (ps : List ByteArray) : Prop := ∃ b cap, v = .slice (some ⟨b, 0, none⟩) ps.length cap ∧ b < W.heap.size ∧ ∀ k (hk : k < ps.length), W.cell? ⟨b, k, none⟩ = some (.string ps[k])
theorem strAt_own {W : World} {base : Nat} {v : Value} {ps : List ByteArray} (h : W.ownsRow base 9 1 v ps.length (ps.map Value.string)) (hp : ps ≠ []) : StrAt W v ps := by
  obtain ⟨h1, h2⟩ := h
  rcases h2 with ⟨rfl, hz⟩ | ⟨g, cap, cur, rfl, hb, hh, hle, hm, hs, ht⟩
  · exact absurd (List.length_eq_zero_iff.1 hz) hp
  · have hlt : g < W.heap.size := by
      apply Classical.byContradiction
      intro n
      rw [Array.getElem?_eq_none (by omega)] at hh
      cases hh
    refine ⟨g, cap, rfl, hlt, fun k hk => ?_⟩
    have hu : (ps.map Value.string)[k]? = some (.string ps[k]) := by simp [hk]
    rw [← ht, List.getElem?_take, if_pos (by omega)] at hu
    simp [World.cell?, hh]
    simpa using hu
theorem cell_str_at (w : World) (b : Nat) (x : Value) (t : TypeId) (hb : b = w.heap.size) : ∀ (j : Nat) (u : Value), [x][j]? = some u → (w.alloc (.cells #[x] t)).cell? ((⟨b, 0, none⟩ : Addr).add j) = some u := by
  subst hb
  intro j u hu
  rw [Go.WideShapes.add_plain]
  have h : (w.alloc (.cells #[x] t)).heap[w.heap.size]? = some (.cells #[x] t) := by
    show (w.heap.push _)[w.heap.size]? = _
    simp
  unfold World.cell?
  rw [h]
  match j, hu with
  | 0, hu => simpa using hu
  | n + 1, hu => simp at hu
theorem info9_parts : ∃ i, Tryz.prog.info? 9 = some i ∧ i.zero = some (.string ByteArray.empty) ∧ i.size = 1 ∧ i.bytes = 16 := by
  have h := info9
  cases e : Tryz.prog.info? 9 with
  | none => rw [e] at h; cases h
  | some i =>
    rw [e] at h
    simp at h
    exact ⟨i, rfl, h⟩
theorem ext_list (s : ByteArray) (a b : Nat) : (s.extract a b).data.toList = (s.data.toList.drop a).take (b - a) := by
  simp [List.extract]
theorem list_ba {ps qs : List ByteArray} (h : ps.map (·.data.toList) = qs.map (·.data.toList)) : ps = qs := by
  induction ps generalizing qs with
  | nil =>
    cases qs with
    | nil => rfl
    | cons q qs => simp at h
  | cons p ps ih =>
    cases qs with
    | nil => simp at h
    | cons q qs =>
      simp at h
      rw [ih (by simpa using h.2)]
      obtain ⟨p⟩ := p
      obtain ⟨q⟩ := q
      congr 2
      simpa using h.1
/-- The state of the cut: the pieces so far, where the next begins, how far it is read. -/
def cutSt (c : UInt8) (s : ByteArray) (ps : List ByteArray) (f k : Nat) : Prop := cutL c s.data.toList = ps.map (·.data.toList) ++ cutL c (s.data.toList.drop f) ∧ c ∉ (s.data.toList.drop f).take (k - f)
theorem cutSt_no {c : UInt8} {s : ByteArray} {ps : List ByteArray} {f k : Nat} (h : cutSt c s ps f k) (hf : f ≤ k) (hk : k < s.size) (hb : s[k] ≠ c) : cutSt c s ps f (k + 1) := by
  refine ⟨h.1, ?_⟩
  rw [show k + 1 - f = (k - f) + 1 by omega, List.take_add_one]
  intro m
  rcases List.mem_append.1 m with m | m
  · exact h.2 m
  · have e : (s.data.toList.drop f)[k - f]? = some s[k] := by
      rw [List.getElem?_drop, show f + (k - f) = k by omega]
      have : k < s.data.toList.length := by simpa using hk
      rw [List.getElem?_eq_getElem this]
      rfl
    rw [e] at m
    simp at m
    exact hb m.symm
theorem cutSt_yes {c : UInt8} {s : ByteArray} {ps : List ByteArray} {f k : Nat} (h : cutSt c s ps f k) (hf : f ≤ k) (hk : k < s.size) (hb : s[k] = c) : cutSt c s (ps ++ [s.extract f k]) (k + 1) (k + 1) := by
  refine ⟨?_, by simp⟩
  have e : s.data.toList.drop f = (s.data.toList.drop f).take (k - f) ++ c :: s.data.toList.drop (k + 1) := by
    have hk' : k < s.data.toList.length := by simpa using hk
    have e1 : (s.data.toList.drop f).drop (k - f) = c :: s.data.toList.drop (k + 1) := by
      rw [List.drop_drop, show f + (k - f) = k by omega, List.drop_eq_getElem_cons hk']
      congr 1
    conv => lhs; rw [← List.take_append_drop (k - f) (s.data.toList.drop f), e1]
  rw [h.1, e, cut_app, cut_none c _ h.2]
  simp only [List.map_append, List.map_cons, List.map_nil, ext_list, List.append_assoc]
theorem cutSt_end {c : UInt8} {s : ByteArray} {ps : List ByteArray} {f : Nat} (h : cutSt c s ps f s.size) (hf : f ≤ s.size) : ps ++ [s.extract f s.size] = pieces s c := by
  apply list_ba
  rw [pieces_cut, h.1]
  have hl : s.data.toList.length = s.size := by simp
  have e : (s.data.toList.drop f).take (s.size - f) = s.data.toList.drop f := by
    apply List.take_of_length_le
    rw [List.length_drop, hl]
    omega
  have h2 := h.2
  rw [e] at h2
  rw [cut_none c _ h2]
  simp only [List.map_append, List.map_cons, List.map_nil, ext_list, e]
set_option maxHeartbeats 4000000 in
set_option maxRecDepth 100000 in
theorem rcut_any (s : ByteArray) (c : UInt8) (w : World) (hs : s.size ≤ 100000) : Calls Tryz.prog 65 #[.string s, .int .u8 (c.toNat : Int)] w fun e w' => ∃ v, e = .returned v ∧ w'.ownsRow w.heap.size 9 1 v (pieces s c).length ((pieces s c).map Value.string) ∧ Below w.heap.size w w' := by
  obtain ⟨i0, hi0, hz0, hz1, hz2⟩ := info9_parts
  have HN := hid (fun ps f k (h : cutSt c s ps f k) => cutSt_no h)
  have HY := hid (fun ps f k (h : cutSt c s ps f k) => cutSt_yes h)
  have HE := hid (fun ps f (h : cutSt c s ps f s.size) => cutSt_end h)
  have H0 := hid (show cutSt c s [] 0 0 from ⟨by simp, by simp⟩)
  generalize hps : pieces s c = pieces at *
  clear hps
  obtain ⟨cc, hcc⟩ : ∃ cc : Int, (c.toNat : Int) = cc := ⟨_, rfl⟩
  have HCC := hid hcc
  rw [hcc]
  clear hcc
  go_enter Tryz.func65, Tryz.ntmps65
  go_wp2
  go_loopw [5, 6, 7] (fun o f i wr => ∃ (k g : Nat) (ps : List ByteArray), k ≤ s.size ∧ g ≤ k ∧ ps.length ≤ k ∧ i = .int .i64 k ∧ f = .int .i64 g ∧ Hid (Below w.heap.size w wr) ∧ Hid (cutSt c s ps g k) ∧ Hid (wr.ownsRow w.heap.size 9 1 o ps.length (ps.map Value.string))) (fun _ _ i _ => s.size - (intOf i).toNat)
  case atStart => exact ⟨0, 0, [], Nat.zero_le _, Nat.le_refl _, Nat.le_refl _, rfl, rfl, hid (Below.refl _ _), H0, hid (World.ownsRow_nil _ _ _ _)⟩
  case round =>
    obtain ⟨k, g, ps, hk, hg, hpl, rfl, rfl, HB, HC, OW⟩ := hrel
    have hws : w.heap.size ≤ wr.heap.size := HB.out.size
    obtain ⟨np, hnp⟩ : ∃ np, np = ps.length := ⟨_, rfl⟩
    by_cases hlt : k < s.size
    · obtain ⟨d, hd⟩ : ∃ d : Int, ((s[k]'hlt).toNat : Int) = d := ⟨_, rfl⟩
      by_cases e1 : d = cc
      · have HC2 := hid (HY.out ps g k HC.out hg hlt (by
          have := HCC.out
          rw [← e1, ← hd] at this
          exact (UInt8.toNat_inj.1 (by omega)).symm))
        subst e1
        clear HN HY HE H0
        go_wp2_with (first
          | (at_builtin; refine wpList_append_own _ rfl _ _ 91 rfl w.heap.size 9 i0 (.string ByteArray.empty) 1 16 Tryz.underlying91 hi0 hz0 hz1 hz2 rfl (by decide) _ _ _ rfl (World.ownsRow.alloc OW.out _) ⟨wr.heap.size, 0, none⟩ 1 1 [.string (s.extract g k)] rfl rfl (cell_str_at _ _ _ _ rfl) (fun x hx => by simp at hx; subst hx; rfl) (by unfold maxLen at *; omega) (by omega) (by simp; omega) ?_; intro v' w3 hown' hgrow3 hnil3)
          | go_in)
        clear hnil3
        have B3 : Below w.heap.size w w3 := (HB.out.alloc HB.out.size _).grown hgrow3 (by simp; omega) (fun j hj => (OW.out.lt j hj).1)
        exact ⟨⟨k + 1, k + 1, ps ++ [s.extract g k], by omega, by omega, by simp; omega, by go_num, by go_num, hid B3, HC2, hid (by rw [List.map_append, List.length_append]; exact hown')⟩, by simp [intOf]; omega⟩
      · have HC2 := hid (HN.out ps g k HC.out hg hlt (fun e => e1 (by rw [← hd, ← HCC.out, e])))
        have e2 : (d == cc) = false := by simpa using e1
        clear HN HY HE H0 e1
        go_wp2_with fail
        exact ⟨⟨k + 1, g, ps, by omega, by omega, by omega, by go_num, rfl, HB, HC2, OW⟩, by simp [intOf]; omega⟩
    · obtain rfl : k = s.size := by omega
      have HF := hid (HE.out ps g HC.out hg)
      clear HN HY HE H0
      go_wp2_with (first
        | (at_builtin; refine wpList_append_own _ rfl _ _ 91 rfl w.heap.size 9 i0 (.string ByteArray.empty) 1 16 Tryz.underlying91 hi0 hz0 hz1 hz2 rfl (by decide) _ _ _ rfl (World.ownsRow.alloc OW.out _) ⟨wr.heap.size, 0, none⟩ 1 1 [.string (s.extract g s.size)] rfl rfl (cell_str_at _ _ _ _ rfl) (fun x hx => by simp at hx; subst hx; rfl) (by unfold maxLen at *; omega) (by omega) (by simp; omega) ?_; intro v' w3 hown' hgrow3 hnil3)
        | go_in)
      clear hnil3
      have B3 : Below w.heap.size w w3 := (HB.out.alloc HB.out.size _).grown hgrow3 (by simp; omega) (fun j hj => (OW.out.lt j hj).1)
      go_ret
      exact ⟨_, rfl, by rw [← HF.out, List.map_append, List.length_append]; exact hown', B3⟩
end Go.Proofs.YtppblibcbjpfnaaGreatDoor.L
namespace Go.Proofs.YtppblibcbjpfnaaGreatDoor.L
open Go.RowKit
set_option linter.unusedVariables false
theorem pieces_ne (s : ByteArray) (c : UInt8) : pieces s c ≠ [] := by
  intro e
  have := pieces_len s c
  rw [e] at this
  simp at this
theorem rname_out (s : ByteArray) (w : World) (hs : s.size ≤ maxLen) (h : ¬ s.size ≤ 63) : Calls Tryz.prog 67 #[.string s] w fun e w' => e = .returned (.bool (nameB s)) ∧ Below w.heap.size w w' := by
  have HV := hid (show nameB s = false by unfold nameB; rw [decide_eq_false h]; rfl)
  have g : (63 : Int) < (s.size : Int) := by omega
  unfold maxLen at hs
  go_enter Tryz.func67, Tryz.ntmps67
  go_wp2
  go_ret
  exact ⟨ret_bool HV.out.symm, Below.refl _ _⟩
set_option maxHeartbeats 4000000 in
theorem rname_in (s : ByteArray) (w : World) (h : s.size ≤ 63) : Calls Tryz.prog 67 #[.string s] w fun e w' => e = .returned (.bool (nameB s)) ∧ Below w.heap.size w w' := by
  have g : ¬ (63 : Int) < (s.size : Int) := by omega
  have HV := hid (show nameB s = (pieces s 46).all partB by unfold nameB; rw [decide_eq_true h]; rfl)
  have HS := hid (rcut_any s 46 w (by omega))
  rw [show (((46 : UInt8).toNat : Nat) : Int) = 46 from rfl] at HS
  have hpl := pieces_len s 46
  have hpc := pieces_count s 46
  have hne := pieces_ne s 46
  have HP := hid (fun x (hx : x ∈ pieces s 46) W => rpart_any x W (by have := piece_small s 46 x hx; unfold maxLen; omega))
  generalize hps : pieces s 46 = ps at *
  have HNE := hid hne
  obtain ⟨len, hlen⟩ : ∃ n, n = ps.length := ⟨_, rfl⟩
  have HLEN := hid hlen
  have hl : len ≤ 64 := by omega
  clear hps hpl hpc hne
  go_enter Tryz.func67, Tryz.ntmps67
  go_wp2_with fail
  refine HS.out.mono ?_
  rintro e W1 ⟨v, rfl, how, hb⟩
  obtain ⟨b, cap, rfl, hbl, hcell⟩ := strAt_own how HNE.out
  have HB := hid hb
  have HCELL := hid hcell
  clear hcell how hb
  rw [← hlen]
  clear hlen
  go_wp2_with fail
  go_loop [4] (fun i => ∃ k : Nat, k ≤ len ∧ i = .int .i64 k ∧ Hid ((ps.take k).all partB = true)) (fun i => len - (intOf i).toNat)
  case atStart => exact ⟨0, Nat.zero_le _, rfl, hid (by simp)⟩
  case round =>
    obtain ⟨k, hk, rfl, HO⟩ := hrel
    by_cases hlt : k < len
    · have hkp : k < ps.length := by rw [← HLEN.out]; exact hlt
      have c0 := HCELL.out k hkp
      have HL := hid (fun W => HP.out ps[k] (List.getElem_mem hkp) W)
      have HT := hid (fun h : partB ps[k] = true => all_step hkp HO.out h)
      have HF := hid (fun h : partB ps[k] = false => show nameB s = false from by
        rw [HV.out]
        cases e : ps.all partB
        · rfl
        · rw [List.all_eq_true.1 e _ (List.getElem_mem hkp)] at h; cases h)
      generalize ps[k] = x at *
      cases e1 : partB x
      · rw [e1] at HL
        have HN := hid (HF.out e1)
        clear HF HT e1
        go_wp2_with fail
        refine (HL.out _).mono ?_
        rintro e w1 ⟨rfl, hww⟩; subst hww
        go_wp2_with fail
        go_ret
        exact ⟨ret_bool HN.out.symm, HB.out⟩
      · rw [e1] at HL
        have HN := hid (HT.out e1)
        clear HF HT e1
        go_wp2_with fail
        refine (HL.out _).mono ?_
        rintro e w1 ⟨rfl, hww⟩; subst hww
        go_wp2_with fail
        exact ⟨⟨k + 1, by omega, by go_num, HN⟩, by simp [intOf]; omega⟩
    · obtain rfl : k = len := by omega
      have HN := hid (show nameB s = true by
        have := HO.out
        rw [HLEN.out, List.take_length] at this
        rw [HV.out, this])
      go_wp2_with fail
      go_ret
      exact ⟨ret_bool HN.out.symm, HB.out⟩
theorem rname_any (s : ByteArray) (w : World) (hs : s.size ≤ maxLen) : Calls Tryz.prog 67 #[.string s] w fun e w' => e = .returned (.bool (nameB s)) ∧ Below w.heap.size w w' := by
  by_cases h : s.size ≤ 63
  · exact rname_in s w h
  · exact rname_out s w hs h
theorem idx_l (s : ByteArray) (c : UInt8) : idx s c = Lib.indexByte s.data.toList c := rfl
theorem pieces_one {s : ByteArray} {c : UInt8} (h : idx s c = -1) : pieces s c = [s] := by
  apply list_ba
  rw [pieces_cut, cut_none c _ (idx_none h)]
  rfl
theorem ext_first (s : ByteArray) (i : Nat) : (s.extract 0 i).data.toList = s.data.toList.take i := by
  rw [ext_list]
  simp
theorem ext_rest (s : ByteArray) (i : Nat) : (s.extract i s.size).data.toList = s.data.toList.drop i := by
  rw [ext_list]
  apply List.take_of_length_le
  rw [List.length_drop]
  simp
theorem pieces_more {s : ByteArray} {c : UInt8} {i : Nat} (h : idx s c = i) : pieces s c = s.extract 0 i :: pieces (s.extract (i + 1) s.size) c := by
  apply list_ba
  obtain ⟨h1, h2⟩ := idx_some (show Lib.indexByte s.data.toList c = i from h)
  rw [pieces_cut, List.map_cons, pieces_cut, ext_first, ext_rest]
  conv => lhs; rw [h1]
  rw [cut_app, cut_none c _ h2]
  rfl
theorem short_slash {s : ByteArray} {i : Nat} (h : idx s 47 = i) (hi : i < s.size) : shortB s = false := by
  obtain ⟨h1, h2⟩ := idx_some (show Lib.indexByte s.data.toList 47 = i from h)
  have hat : at' s i = 47 := by
    unfold at'
    have : s.data.toList[i]? = some 47 := by
      have hl : i < s.data.toList.length := by simpa using hi
      rw [h1, List.getElem?_append_right (by rw [List.length_take]; omega), List.length_take, show i - min i s.data.toList.length = 0 by omega]
      rfl
    rw [List.getD_eq_getElem?_getD, this]
    rfl
  unfold shortB
  rw [all_bad (p := innB) hi (by rw [hat]; decide)]
  simp
theorem short_size {s : ByteArray} (h : shortB s = true) : s.size ≤ 63 := by
  apply Classical.byContradiction
  intro n
  unfold shortB at h
  rw [decide_eq_false (by omega)] at h
  simp at h
theorem name_size {s : ByteArray} (h : nameB s = true) : s.size ≤ 63 := by
  apply Classical.byContradiction
  intro n
  unfold nameB at h
  rw [decide_eq_false (by omega)] at h
  simp at h
theorem ext_size (s : ByteArray) (a b : Nat) (h : b ≤ s.size) : (s.extract a b).size = b - a := by
  have e := congrArg List.length (ext_list s a b)
  have hl : s.data.toList.length = s.size := by simp
  rw [List.length_take, List.length_drop, hl] at e
  have : (s.extract a b).data.toList.length = (s.extract a b).size := by rw [Array.length_toList]; rfl
  omega
theorem key_long {s : ByteArray} (h : ¬ s.size ≤ 127) : keyB s = false := by
  cases e : keyB s
  · rfl
  · exfalso
    unfold keyB at e
    rcases idx_cases s 47 with h1 | ⟨i, h1, hi⟩
    · rw [if_pos h1] at e
      have := short_size e
      omega
    · rw [h1, if_neg (by omega), Bool.and_eq_true] at e
      have a := name_size e.1
      have b := short_size e.2
      rw [ext_size _ _ _ (by simp; omega)] at a
      rw [ext_size _ _ _ (Nat.le_refl _)] at b
      simp at a b
      omega
theorem rkey_out (s : ByteArray) (w : World) (hs : s.size ≤ maxLen) (h : ¬ s.size ≤ 127) : Calls Tryz.prog 44 #[.string s] w fun e w' => e = .returned (.bool (keyB s)) ∧ Below w.heap.size w w' := by
  have HV := hid (key_long h)
  have g : (127 : Int) < (s.size : Int) := by omega
  unfold maxLen at hs
  go_enter Tryz.func44, Tryz.ntmps44
  go_wp2
  go_ret
  exact ⟨ret_bool HV.out.symm, Below.refl _ _⟩
set_option maxHeartbeats 4000000 in
theorem rkey_in (s : ByteArray) (w : World) (h : s.size ≤ 127) : Calls Tryz.prog 44 #[.string s] w fun e w' => e = .returned (.bool (keyB s)) ∧ Below w.heap.size w w' := by
  have g : ¬ (127 : Int) < (s.size : Int) := by omega
  have HS := hid (rcut_any s 47 w (by omega))
  rw [show (((47 : UInt8).toNat : Nat) : Int) = 47 from rfl] at HS
  rcases idx_cases s 47 with h1 | ⟨i, h1, hi⟩
  · have HV := hid (show keyB s = shortB s by unfold keyB; rw [if_pos h1])
    rw [pieces_one h1] at HS
    have HR := hid (fun W => rshort_any s W (by unfold maxLen; omega))
    clear h1
    go_enter Tryz.func44, Tryz.ntmps44
    go_wp2_with fail
    refine HS.out.mono ?_
    rintro e W1 ⟨v, rfl, how, hb⟩
    obtain ⟨b, cap, rfl, hbl, hcell⟩ := strAt_own how (by simp)
    have HB := hid hb
    have c0 : W1.cell? ⟨b, 0, none⟩ = some (.string s) := hcell 0 (by simp)
    clear hcell how hb
    simp only [List.length_cons, List.length_nil]
    go_wp2_with fail
    refine (HR.out _).mono ?_
    rintro e w1 ⟨rfl, hww⟩; subst hww
    go_wp2_with fail
    go_ret
    exact ⟨ret_bool HV.out.symm, HB.out⟩
  · rw [pieces_more h1] at HS
    have ha : (s.extract 0 i).size ≤ 127 := by rw [ext_size _ _ _ (by omega)]; omega
    have hb' : (s.extract (i + 1) s.size).size ≤ 127 := by rw [ext_size _ _ _ (Nat.le_refl _)]; omega
    have HV := hid (show keyB s = (nameB (s.extract 0 i) && shortB (s.extract (i + 1) s.size)) by unfold keyB; rw [h1, if_neg (by omega)]; rfl)
    clear h1
    generalize s.extract 0 i = x at *
    generalize s.extract (i + 1) s.size = y at *
    rcases idx_cases y 47 with h2 | ⟨j, h2, hj⟩
    · rw [pieces_one h2] at HS
      have HN := hid (fun W => rname_any x W (by unfold maxLen; omega))
      have HR := hid (fun W => rshort_any y W (by unfold maxLen; omega))
      clear h2
      cases e1 : nameB x
      · rw [e1] at HN HV
        go_enter Tryz.func44, Tryz.ntmps44
        go_wp2_with fail
        refine HS.out.mono ?_
        rintro e W1 ⟨v, rfl, how, hb⟩
        obtain ⟨b, cap, rfl, hbl, hcell⟩ := strAt_own how (by simp)
        have HB := hid hb
        have c0 : W1.cell? ⟨b, 0, none⟩ = some (.string x) := hcell 0 (by simp)
        have c1 : W1.cell? ⟨b, 1, none⟩ = some (.string y) := hcell 1 (by simp)
        clear hcell how hb
        simp only [List.length_cons, List.length_nil]
        go_wp2_with fail
        refine (HN.out _).mono ?_
        rintro e w2 ⟨rfl, hb⟩
        have HB2 := hid (HB.out.trans (hb.mono HB.out.size))
        clear hb
        go_wp2_with fail
        go_ret
        exact ⟨ret_bool HV.out.symm, HB2.out⟩
      · rw [e1] at HN HV
        go_enter Tryz.func44, Tryz.ntmps44
        go_wp2_with fail
        refine HS.out.mono ?_
        rintro e W1 ⟨v, rfl, how, hb⟩
        obtain ⟨b, cap, rfl, hbl, hcell⟩ := strAt_own how (by simp)
        have HB := hid hb
        have c0 : W1.cell? ⟨b, 0, none⟩ = some (.string x) := hcell 0 (by simp)
        have c1 : W1.cell? ⟨b, 1, none⟩ = some (.string y) := hcell 1 (by simp)
        clear hcell how hb
        simp only [List.length_cons, List.length_nil]
        go_wp2_with fail
        refine (HN.out _).mono ?_
        rintro e w2 ⟨rfl, hb⟩
        have c2 : w2.cell? ⟨b, 1, none⟩ = some (.string y) := (hb.cell (p := ⟨b, 1, none⟩) hbl).trans c1
        have hbl2 : b < w2.heap.size := Nat.lt_of_lt_of_le hbl hb.size
        have HB2 := hid (HB.out.trans (hb.mono HB.out.size))
        clear hb
        go_wp2_with fail
        refine (HR.out _).mono ?_
        rintro e w1 ⟨rfl, hww⟩; subst hww
        go_wp2_with fail
        go_ret
        exact ⟨ret_bool (by rw [HV.out]; simp), HB2.out⟩
    · have HV2 := hid (show keyB s = false by rw [HV.out, short_slash h2 hj]; simp)
      rw [pieces_more h2] at HS
      obtain ⟨n, hn⟩ : ∃ n, n = (pieces (y.extract (j + 1) y.size) 47).length := ⟨_, rfl⟩
      have hn1 : 1 ≤ n := by rw [hn, pieces_len]; omega
      have hn2 : n ≤ 128 := by
        rw [hn, pieces_len]
        have := pieces_count (y.extract (j + 1) y.size) 47
        rw [ext_size _ _ _ (Nat.le_refl _)] at this
        omega
      generalize pieces (y.extract (j + 1) y.size) 47 = r at *
      clear h2 HV
      go_enter Tryz.func44, Tryz.ntmps44
      go_wp2_with fail
      refine HS.out.mono ?_
      rintro e W1 ⟨v, rfl, how, hb⟩
      obtain ⟨b, cap, rfl, hbl, hcell⟩ := strAt_own how (by simp)
      have HB := hid hb
      clear hcell how hb
      simp only [List.length_cons]
      rw [← hn]
      have q1 : ¬ ((n : Int) + 1 + 1 = 1) := by omega
      have q2 : ¬ ((n : Int) + 1 + 1 = 2) := by omega
      go_wp2_with fail
      go_ret
      exact ⟨ret_bool HV2.out.symm, HB.out⟩
theorem rkey_any (s : ByteArray) (w : World) (hs : s.size ≤ maxLen) : Calls Tryz.prog 44 #[.string s] w fun e w' => e = .returned (.bool (keyB s)) ∧ Below w.heap.size w w' := by
  by_cases h : s.size ≤ 127
  · exact rkey_in s w h
  · exact rkey_out s w hs h
end Go.Proofs.YtppblibcbjpfnaaGreatDoor.L
