import Derived.Test.YtimmjikpcekffaaGreatDoorMgAY
import Derived.Test.YtimmjikpcekffaaGreatDoorMgAX
import Derived.WalkKit
import Derived.WalkSpells
import Derived.WalkLawsBesides
import Derived.Handy
import Derived.Deep.QuietTactic
import Derived.BigQuiet
namespace Go.Proofs.YtimmjikpcekffaaGreatDoor.L
open Go.RowKit
set_option linter.unusedVariables false
set_option maxHeartbeats 4000000 in
theorem name_out (s : ByteArray) (w : World) (hs : s.size ≤ maxLen) (h : ¬ s.size ≤ 63) : Calls Tryz.prog 176 #[.string s] w fun e w' => e = .returned (.bool (nameB s)) ∧ Below w.heap.size w w' := by
  unfold maxLen at hs
  have HN := hid (show nameB s = false by unfold nameB; rw [decide_eq_false h]; rfl)
  have g : (63 : Int) < (s.size : Int) := by omega
  go_enter Tryz.func176, Tryz.ntmps176
  go_wp2
  go_ret
  exact ⟨ret_bool HN.out.symm, Below.refl _ _⟩
theorem piece_small (s : ByteArray) (c : UInt8) : ∀ x ∈ pieces s c, x.size ≤ s.size := by
  have key : ∀ (k : Nat) (t : ByteArray), ∀ x ∈ Lib.splitB ⟨#[c]⟩ 0 k t, x.size ≤ t.size := by
    intro k
    induction k with
    | zero =>
      intro t x hx
      rw [Lib.splitB_zero] at hx
      rw [List.mem_singleton.1 hx]
      exact Nat.le_refl _
    | succ k ih =>
      intro t x hx
      by_cases e : Lib.indexB t ⟨#[c]⟩ = -1
      · rw [Lib.splitB_miss _ _ _ _ e] at hx
        rw [List.mem_singleton.1 hx]
        exact Nat.le_refl _
      · rcases idx_cases t c with h | ⟨i, h, hi⟩
        · exact absurd ((Lib.index_one t.data.toList c).trans h) e
        · rw [Lib.splitB_hit _ _ _ _ i ((Lib.index_one t.data.toList c).trans h)] at hx
          rcases List.mem_cons.1 hx with rfl | hx
          · rw [ByteArray.size_extract]; omega
          · have := ih _ x hx
            rw [ByteArray.size_extract] at this
            omega
  exact key _ s
theorem all_step {p : ByteArray → Bool} {l : List ByteArray} {k : Nat} (hk : k < l.length) (h : (l.take k).all p = true) (h' : p l[k] = true) : (l.take (k + 1)).all p = true := by
  rw [List.take_succ_eq_append_getElem hk, List.all_append, h]
  simp [h']
set_option maxHeartbeats 4000000 in
theorem name_in (s : ByteArray) (w : World) (h : s.size ≤ 63) : Calls Tryz.prog 176 #[.string s] w fun e w' => e = .returned (.bool (nameB s)) ∧ Below w.heap.size w w' := by
  have g : ¬ (63 : Int) < (s.size : Int) := by omega
  have HV := hid (show nameB s = (pieces s 46).all partB by unfold nameB; rw [decide_eq_true h]; rfl)
  have HS := hid (split_any s 46 w (by omega))
  have hpl := pieces_len s 46
  have hpc := pieces_count s 46
  have HP := hid (fun x (hx : x ∈ pieces s 46) W => part_any x W (by have := piece_small s 46 x hx; unfold maxLen; omega))
  generalize hps : pieces s 46 = ps at *
  obtain ⟨len, hlen⟩ : ∃ n, n = ps.length := ⟨_, rfl⟩
  have HLEN := hid hlen
  rw [← hlen] at HS hpl
  have hl : len ≤ 64 := by omega
  clear hps hpl hpc hlen
  go_enter Tryz.func176, Tryz.ntmps176
  go_wp2_with fail
  refine HS.out.mono ?_
  rintro e w1 ⟨rfl, rfl⟩
  have HB := hid (belowA w (.cells (ps.map Value.string).toArray 9))
  have hcell : ∀ k, (hk : k < ps.length) → (w.alloc (.cells (ps.map Value.string).toArray 9)).cell? ⟨w.heap.size, k, none⟩ = some (.string ps[k]) := by
    intro k hk
    unfold World.cell?
    have h : (w.alloc (.cells (ps.map Value.string).toArray 9)).heap[w.heap.size]? = some (.cells (ps.map Value.string).toArray 9) := by
      show (w.heap.push _)[w.heap.size]? = _
      simp
    rw [h]
    simp [hk]
  have hsz : w.heap.size < (w.alloc (.cells (ps.map Value.string).toArray 9)).heap.size := by
    show w.heap.size < (w.heap.push _).size
    simp
  have HCELL := hid hcell
  generalize w.alloc (.cells (ps.map Value.string).toArray 9) = W1 at *
  generalize hB : w.heap.size = B at *
  clear hcell
  go_wp2_with fail
  go_loop [11] (fun i => ∃ k : Nat, k ≤ len ∧ i = .int .i64 k ∧ Hid ((ps.take k).all partB = true)) (fun i => len - (intOf i).toNat)
  case atStart => exact ⟨0, Nat.zero_le _, rfl, hid (by simp)⟩
  case round =>
    obtain ⟨k, hk, rfl, HO⟩ := hrel
    by_cases hlt : k < len
    · have hkp : k < ps.length := by rw [← HLEN.out]; exact hlt
      have c0 := HCELL.out k hkp
      have HL := hid (fun W => HP.out ps[k] (List.getElem_mem hkp) W)
      have HT := hid (fun h : partB ps[k] = true => all_step hkp HO.out h)
      have HF := hid (fun h : partB ps[k] = false => show nameB s = false from by
        rw [HV.out]
        cases e : ps.all partB
        · rfl
        · rw [List.all_eq_true.1 e _ (List.getElem_mem hkp)] at h; cases h)
      generalize ps[k] = x at *
      cases e1 : partB x
      · rw [e1] at HL
        have HN := hid (HF.out e1)
        clear HF HT e1
        go_wp2_with fail
        refine (HL.out _).mono ?_
        rintro e w1 ⟨rfl, hww⟩; subst hww
        go_wp2_with fail
        go_ret
        exact ⟨ret_bool HN.out.symm, by first | exact HB.out | (rw [hB]; exact HB.out)⟩
      · rw [e1] at HL
        have HN := hid (HT.out e1)
        clear HF HT e1
        go_wp2_with fail
        refine (HL.out _).mono ?_
        rintro e w1 ⟨rfl, hww⟩; subst hww
        go_wp2_with fail
        exact ⟨⟨k + 1, by omega, by go_num, HN⟩, by simp [intOf]; omega⟩
    · obtain rfl : k = len := by omega
      have HN := hid (show nameB s = true by
        have := HO.out
        rw [HLEN.out, List.take_length] at this
        rw [HV.out, this])
      go_wp2_with fail
      go_ret
      exact ⟨ret_bool HN.out.symm, by first | exact HB.out | (rw [hB]; exact HB.out)⟩
theorem name_any (s : ByteArray) (w : World) (hs : s.size ≤ maxLen) : Calls Tryz.prog 176 #[.string s] w fun e w' => e = .returned (.bool (nameB s)) ∧ Below w.heap.size w w' := by
  by_cases h : s.size ≤ 63
  · exact name_in s w h
  · exact name_out s w hs h
set_option maxHeartbeats 4000000 in
theorem key_any (s : ByteArray) (w : World) (hs : s.size ≤ maxLen) : Calls Tryz.prog 148 #[.string s] w fun e w' => e = .returned (.bool (keyB s)) ∧ Below w.heap.size w w' := by
  rcases idx_cases s 47 with h | ⟨i, h, hi⟩
  · have HV := hid (show keyB s = shortB s by unfold keyB; rw [if_pos h])
    have HC := hid (cut_no s 47 w h)
    have HS := hid (fun W => lshort_any s W hs)
    generalize shortB s = b at *
    clear h
    go_enter Tryz.func148, Tryz.ntmps148
    go_wp2_with fail
    refine HC.out.mono ?_
    rintro e w1 ⟨rfl, hww⟩; subst hww
    go_wp2_with fail
    refine (HS.out _).mono ?_
    rintro e w1 ⟨rfl, hww⟩; subst hww
    go_wp2_with fail
    go_ret
    exact ⟨ret_bool HV.out.symm, Below.refl _ _⟩
  · have HV := hid (show keyB s = (nameB (s.extract 0 i) && shortB (s.extract (i + 1) s.size)) by unfold keyB; rw [h, if_neg (by omega)]; rfl)
    have HC := hid (cut_yes s 47 i w hs h hi)
    have z1 : (s.extract 0 i).size ≤ maxLen := by rw [ByteArray.size_extract]; omega
    have z2 : (s.extract (i + 1) s.size).size ≤ maxLen := by rw [ByteArray.size_extract]; omega
    have HN := hid (fun W => name_any (s.extract 0 i) W z1)
    have HS := hid (fun W => lshort_any (s.extract (i + 1) s.size) W z2)
    generalize s.extract 0 i = a at *
    generalize s.extract (i + 1) s.size = b at *
    clear h
    cases e1 : nameB a
    · rw [e1] at HN HV
      go_enter Tryz.func148, Tryz.ntmps148
      go_wp2_with fail
      refine HC.out.mono ?_
      rintro e w1 ⟨rfl, n, hww⟩; subst hww
      go_wp2_with fail
      refine (HN.out _).mono ?_
      rintro e w2 ⟨rfl, hb⟩
      go_wp2_with fail
      go_ret
      exact ⟨ret_bool (by rw [HV.out]; rfl), (below_drewN (Below.refl _ _) n).trans hb⟩
    · rw [e1] at HN HV
      generalize shortB b = r at *
      go_enter Tryz.func148, Tryz.ntmps148
      go_wp2_with fail
      refine HC.out.mono ?_
      rintro e w1 ⟨rfl, n, hww⟩; subst hww
      go_wp2_with fail
      refine (HN.out _).mono ?_
      rintro e w2 ⟨rfl, hb⟩
      have HB := hid hb
      clear hb
      go_wp2_with fail
      refine (HS.out _).mono ?_
      rintro e w3 ⟨rfl, hww⟩; subst hww
      go_wp2_with fail
      go_ret
      exact ⟨ret_bool (by rw [HV.out]; rfl), (below_drewN (Below.refl _ _) n).trans HB.out⟩
end Go.Proofs.YtimmjikpcekffaaGreatDoor.L
namespace Go.Proofs.YtimmjikpcekffaaGreatDoor.L.Qn
open Go.RowKit Go.Shelf
set_option linter.unusedVariables false
def letB (c : Int) : Bool := decide (97 ≤ c ∧ c ≤ 122)
def digB (c : Int) : Bool := decide (48 ≤ c ∧ c ≤ 57)
def okB (c : Int) : Bool := letB c || digB c || c == 45 || c == 46 || c == 47
theorem letter_any (c : Int) (w : World) : Calls Tryz.prog 177 #[.int .u8 c] w fun e w' => e = .returned (.bool (letB c)) ∧ w' = w := by
  unfold letB
  by_cases a : 97 ≤ c
  · by_cases b : c ≤ 122
    · go_enter Tryz.func177, Tryz.ntmps177
      go_wp2
      go_ret
      exact ⟨ret_bool (by simp [a, b]), rfl⟩
    · go_enter Tryz.func177, Tryz.ntmps177
      go_wp2
      go_ret
      exact ⟨ret_bool (by simp; omega), rfl⟩
  · go_enter Tryz.func177, Tryz.ntmps177
    go_wp2
    go_ret
    exact ⟨ret_bool (by simp; omega), rfl⟩
theorem digit_any (c : Int) (w : World) : Calls Tryz.prog 178 #[.int .u8 c] w fun e w' => e = .returned (.bool (digB c)) ∧ w' = w := by
  unfold digB
  by_cases a : 48 ≤ c
  · by_cases b : c ≤ 57
    · go_enter Tryz.func178, Tryz.ntmps178
      go_wp2
      go_ret
      exact ⟨ret_bool (by simp [a, b]), rfl⟩
    · go_enter Tryz.func178, Tryz.ntmps178
      go_wp2
      go_ret
      exact ⟨ret_bool (by simp; omega), rfl⟩
  · go_enter Tryz.func178, Tryz.ntmps178
    go_wp2
    go_ret
    exact ⟨ret_bool (by simp; omega), rfl⟩
def at' (s : ByteArray) (i : Nat) : Int := ((s.data.toList.getD i 0).toNat : Int)
def nameB (s : ByteArray) : Bool := decide (1 ≤ s.size ∧ s.size ≤ 32 ∧ ∀ i, i < s.size → okB (at' s i) = true) && letB (at' s 0) && (letB (at' s (s.size - 1)) || digB (at' s (s.size - 1)))
theorem at_get (s : ByteArray) (k : Nat) (h : k < s.size) : at' s k = ((s[k]'h).toNat : Int) := by
  unfold at'
  simp [h]
  rfl
theorem ok_snoc {s : ByteArray} {k : Nat} (h : ∀ j, j < k → okB (at' s j) = true) (h' : okB (at' s k) = true) : ∀ j, j < k + 1 → okB (at' s j) = true := by
  intro j hj
  by_cases e : j < k
  · exact h j e
  · obtain rfl : j = k := by omega
    exact h'
theorem name_bad (s : ByteArray) (k : Nat) (hk : k < s.size) (h : okB (at' s k) = false) : nameB s = false := by
  unfold nameB
  rw [decide_eq_false]
  · rfl
  · intro x
    rw [x.2.2 k hk] at h
    cases h
theorem name_good (s : ByteArray) (h0 : 1 ≤ s.size) (h1 : s.size ≤ 32) (h : ∀ j, j < s.size → okB (at' s j) = true) : nameB s = (letB (at' s 0) && (letB (at' s (s.size - 1)) || digB (at' s (s.size - 1)))) := by
  unfold nameB
  rw [decide_eq_true ⟨h0, h1, h⟩]
  simp
set_option maxHeartbeats 4000000 in
theorem name_out (s : ByteArray) (w : World) (hs : s.size ≤ maxLen) (h : s.size = 0 ∨ 32 < s.size) : Calls Tryz.prog 150 #[.string s] w fun e w' => e = .returned (.bool (nameB s)) ∧ ∃ n, w' = w.drewN n := by
  unfold maxLen at hs
  have HN := hid (show nameB s = false by unfold nameB; rw [decide_eq_false (by omega)]; rfl)
  rcases h with h | h
  · go_enter Tryz.func150, Tryz.ntmps150
    go_wp2
    go_ret
    exact ⟨ret_bool HN.out.symm, 0, rfl⟩
  · have h' : ¬ s.size = 0 := by omega
    go_enter Tryz.func150, Tryz.ntmps150
    go_wp2
    go_ret
    exact ⟨ret_bool HN.out.symm, 0, rfl⟩
set_option maxHeartbeats 4000000 in
theorem name_in (s : ByteArray) (w : World) (h0 : 1 ≤ s.size) (h1 : s.size ≤ 32) : Calls Tryz.prog 150 #[.string s] w fun e w' => e = .returned (.bool (nameB s)) ∧ ∃ n, w' = w.drewN n := by
  have hz : ((s.size : Int) == 0) = false := by simp; intro e; subst e; simp at h0
  have h32 : ¬ (32 : Int) < (s.size : Int) := by omega
  go_enter Tryz.func150, Tryz.ntmps150
  go_wp2
  go_loop [15] (fun i => ∃ k : Nat, k ≤ s.size ∧ i = .int .i64 k ∧ Hid (∀ j, j < k → okB (at' s j) = true)) (fun i => s.size - (intOf i).toNat)
  case atStart => exact ⟨0, Nat.zero_le _, rfl, hid (fun j hj => by omega)⟩
  case round =>
    obtain ⟨k, hk, rfl, HO⟩ := hrel
    by_cases hlt : k < s.size
    · obtain ⟨c, hc⟩ : ∃ c : Int, ((s[k]'hlt).toNat : Int) = c := ⟨_, rfl⟩
      have HC := hid ((at_get s k hlt).trans hc)
      have HL := hid (fun W => letter_any c W)
      have HD := hid (fun W => digit_any c W)
      by_cases c1 : letB c = true
      · rw [c1] at HL
        have HO2 := hid (ok_snoc HO.out (show okB (at' s k) = true by rw [HC.out]; unfold okB; rw [c1]; rfl))
        clear HO HC c1
        go_wp2_with (first | (go_at_call 177; refine (HL.out _).mono ?_; rintro e w1 ⟨rfl, hww⟩; subst hww) | (go_at_call 178; refine (HD.out _).mono ?_; rintro e w1 ⟨rfl, hww⟩; subst hww))
        exact ⟨⟨k + 1, by omega, by go_num, HO2⟩, by simp [intOf]; omega⟩
      · have c1' : letB c = false := by simpa using c1
        rw [c1'] at HL
        by_cases c2 : digB c = true
        · rw [c2] at HD
          have HO2 := hid (ok_snoc HO.out (show okB (at' s k) = true by rw [HC.out]; unfold okB; rw [c2]; simp))
          clear HO HC c1 c1' c2
          go_wp2_with (first | (go_at_call 177; refine (HL.out _).mono ?_; rintro e w1 ⟨rfl, hww⟩; subst hww) | (go_at_call 178; refine (HD.out _).mono ?_; rintro e w1 ⟨rfl, hww⟩; subst hww))
          exact ⟨⟨k + 1, by omega, by go_num, HO2⟩, by simp [intOf]; omega⟩
        · have c2' : digB c = false := by simpa using c2
          rw [c2'] at HD
          by_cases c3 : c = 45
          · subst c3
            have HO2 := hid (ok_snoc HO.out (show okB (at' s k) = true by rw [HC.out]; decide))
            clear HO HC c1 c1' c2 c2'
            go_wp2_with (first | (go_at_call 177; refine (HL.out _).mono ?_; rintro e w1 ⟨rfl, hww⟩; subst hww) | (go_at_call 178; refine (HD.out _).mono ?_; rintro e w1 ⟨rfl, hww⟩; subst hww))
            exact ⟨⟨k + 1, by omega, by go_num, HO2⟩, by simp [intOf]; omega⟩
          · by_cases c4 : c = 46
            · subst c4
              have HO2 := hid (ok_snoc HO.out (show okB (at' s k) = true by rw [HC.out]; decide))
              clear HO HC c1 c1' c2 c2' c3
              go_wp2_with (first | (go_at_call 177; refine (HL.out _).mono ?_; rintro e w1 ⟨rfl, hww⟩; subst hww) | (go_at_call 178; refine (HD.out _).mono ?_; rintro e w1 ⟨rfl, hww⟩; subst hww))
              exact ⟨⟨k + 1, by omega, by go_num, HO2⟩, by simp [intOf]; omega⟩
            · by_cases c5 : c = 47
              · subst c5
                have HO2 := hid (ok_snoc HO.out (show okB (at' s k) = true by rw [HC.out]; decide))
                clear HO HC c1 c1' c2 c2' c3 c4
                go_wp2_with (first | (go_at_call 177; refine (HL.out _).mono ?_; rintro e w1 ⟨rfl, hww⟩; subst hww) | (go_at_call 178; refine (HD.out _).mono ?_; rintro e w1 ⟨rfl, hww⟩; subst hww))
                exact ⟨⟨k + 1, by omega, by go_num, HO2⟩, by simp [intOf]; omega⟩
              · have HN := hid (name_bad s k hlt (show okB (at' s k) = false by rw [HC.out]; unfold okB; simp [c1', c2', c3, c4, c5]))
                have b3 : (c != 45) = true := by simpa using c3
                have b4 : (c != 46) = true := by simpa using c4
                have b5 : (c != 47) = true := by simpa using c5
                clear c1 c1' c2 c2' c3 c4 c5
                go_wp2_with (first | (go_at_call 177; refine (HL.out _).mono ?_; rintro e w1 ⟨rfl, hww⟩; subst hww) | (go_at_call 178; refine (HD.out _).mono ?_; rintro e w1 ⟨rfl, hww⟩; subst hww))
                go_ret
                exact ⟨ret_bool HN.out.symm, 0, rfl⟩
    · obtain rfl : k = s.size := by omega
      obtain ⟨c, hc⟩ : ∃ c : Int, ((s[0]'(by omega)).toNat : Int) = c := ⟨_, rfl⟩
      obtain ⟨d, hd⟩ : ∃ d : Int, ((s[s.size - 1]'(by omega)).toNat : Int) = d := ⟨_, rfl⟩
      have HN := hid (name_good s h0 h1 HO.out)
      rw [at_get s 0 (by omega), hc, at_get s (s.size - 1) (by omega), hd] at HN
      have HC := hid (fun W => letter_any c W)
      have HL := hid (fun W => letter_any d W)
      have HD := hid (fun W => digit_any d W)
      have hsub : ((s.size : Int) - 1).toNat = s.size - 1 := by omega
      cases e1 : letB c
      · rw [e1] at HC HN
        go_wp2_with fail
        refine (HC.out _).mono ?_
        rintro e w1 ⟨rfl, hww⟩; subst hww
        go_wp2_with fail
        go_ret
        exact ⟨ret_bool (by rw [HN.out]; rfl), 0, rfl⟩
      · rw [e1] at HC HN
        cases e2 : letB d
        · rw [e2] at HL HN
          go_wp2_with fail
          refine (HC.out _).mono ?_
          rintro e w1 ⟨rfl, hww⟩; subst hww
          go_wp2_with fail
          refine (HL.out _).mono ?_
          rintro e w1 ⟨rfl, hww⟩; subst hww
          go_wp2_with fail
          refine (HD.out _).mono ?_
          rintro e w1 ⟨rfl, hww⟩; subst hww
          go_wp2_with fail
          go_ret
          exact ⟨ret_bool (by rw [HN.out]; rfl), 0, rfl⟩
        · rw [e2] at HL HN
          go_wp2_with fail
          refine (HC.out _).mono ?_
          rintro e w1 ⟨rfl, hww⟩; subst hww
          go_wp2_with fail
          refine (HL.out _).mono ?_
          rintro e w1 ⟨rfl, hww⟩; subst hww
          go_wp2_with fail
          go_ret
          exact ⟨ret_bool (by rw [HN.out]; rfl), 0, rfl⟩
theorem name_any (s : ByteArray) (w : World) (hs : s.size ≤ maxLen) : Calls Tryz.prog 150 #[.string s] w fun e w' => e = .returned (.bool (nameB s)) ∧ ∃ n, w' = w.drewN n := by
  by_cases h : s.size = 0 ∨ 32 < s.size
  · exact name_out s w hs h
  · exact name_in s w (by omega) (by omega)
end Go.Proofs.YtimmjikpcekffaaGreatDoor.L.Qn
