import Derived.Test.YtnldagpbmphdhaaGreatDoorMgB
import Derived.Test.YtnldagpbmphdhaaGreatDoorMgD
namespace Go.Proofs.YtnldagpbmphdhaaGreatDoor.L
open Go.RowKit
set_option linter.unusedVariables false
/-- What the document's Int answers. -/
def rintQ (s : ByteArray) (e : Ending) : Prop := (∃ n, intOk s n ∧ e = .returned (.tuple #[.int .i64 n, .bool true])) ∨ ((∀ n, ¬ intOk s n) ∧ e = .returned (.tuple #[.int .i64 0, .bool false]))
theorem list_size (s : ByteArray) : s.data.toList.length = s.size := by simp
theorem at_list (s : ByteArray) (k : Nat) (h : k < s.size) : s.data.toList[k]? = some s[k] := by
  have : k < s.data.toList.length := by rw [list_size]; exact h
  rw [List.getElem?_eq_getElem this]
  rfl
/-- The state of the reading: the digits so far and what they are worth. -/
def readSt (T : List UInt8) (k v : Nat) : Prop := (∀ c ∈ T.take k, 48 ≤ c.toNat ∧ c.toNat ≤ 57) ∧ v = val (T.take k)
theorem readSt_room {T : List UInt8} {k v : Nat} (h : readSt T k v) (hk : k ≤ 14) : v < 100000000000000 := by
  have := val_lt _ h.1
  rw [← h.2] at this
  refine Nat.lt_of_lt_of_le this (Nat.le_trans (Nat.pow_le_pow_right (by decide) (show (T.take k).length ≤ 14 by rw [List.length_take]; omega)) (by decide))
theorem readSt_room15 {T : List UInt8} {k v : Nat} (h : readSt T k v) (hk : k ≤ 15) : v < 1000000000000000 := by
  have := val_lt _ h.1
  rw [← h.2] at this
  refine Nat.lt_of_lt_of_le this (Nat.le_trans (Nat.pow_le_pow_right (by decide) (show (T.take k).length ≤ 15 by rw [List.length_take]; omega)) (by decide))
theorem readSt_step {t : ByteArray} {k v : Nat} (h : readSt t.data.toList k v) (hk : k < t.size) (hd : 48 ≤ (t[k]).toNat ∧ (t[k]).toNat ≤ 57) : readSt t.data.toList (k + 1) (10 * v + ((t[k]).toNat - 48)) := by
  have e : t.data.toList.take (k + 1) = t.data.toList.take k ++ [t[k]] := by
    rw [List.take_add_one, at_list t k hk]
    rfl
  unfold readSt
  rw [e, val_snoc, ← h.2]
  refine ⟨fun c hc => ?_, rfl⟩
  rcases List.mem_append.1 hc with hc | hc
  · exact h.1 c hc
  · simp at hc
    subst hc
    exact hd
theorem bad_size {s : ByteArray} {mi : Bool} {t : ByteArray} (h : Sgn s mi t.data.toList) (g : t.size < 1 ∨ 15 < t.size) : ∀ n, ¬ intOk s n := by
  intro n k
  obtain ⟨g1, g2, _⟩ := int_bad h k
  have := list_size t
  rcases g with g | g
  · exact g1 (List.length_eq_zero_iff.1 (by omega))
  · omega
theorem bad_byte {s : ByteArray} {mi : Bool} {t : ByteArray} (h : Sgn s mi t.data.toList) {k : Nat} (hk : k < t.size) (hd : (t[k]).toNat < 48 ∨ 57 < (t[k]).toNat) : ∀ n, ¬ intOk s n := by
  intro n g
  obtain ⟨_, _, g3, _⟩ := int_bad h g
  have := g3 (t[k]) (List.mem_of_getElem? (at_list t k hk))
  omega
theorem head_at (t : ByteArray) (h : 0 < t.size) : t.data.toList.head? = some t[0] := by
  rw [List.head?_eq_getElem?]
  exact at_list t 0 h
theorem bad_zero {s : ByteArray} {mi : Bool} {t : ByteArray} (h : Sgn s mi t.data.toList) (h0 : 0 < t.size) (hd : (t[0]).toNat = 48) (g : 1 < t.size ∨ mi = true) : ∀ n, ¬ intOk s n := by
  intro n k
  obtain ⟨_, _, _, g4⟩ := int_bad h k
  refine g4 ⟨by rw [head_at t h0, show t[0] = 48 from UInt8.toNat_inj.1 hd], ?_⟩
  rw [list_size]
  exact g
theorem good_all {s : ByteArray} {mi : Bool} {t : ByteArray} {v : Nat} (h : Sgn s mi t.data.toList) (h0 : 0 < t.size) (h15 : t.size ≤ 15) (r : readSt t.data.toList t.size v) (g : ¬ ((t[0]).toNat = 48 ∧ (1 < t.size ∨ mi = true))) : intOk s (if mi then -(v : Int) else (v : Int)) := by
  have e : t.data.toList.take t.size = t.data.toList := by
    apply List.take_of_length_le
    rw [list_size]
    exact Nat.le_refl _
  unfold readSt at r
  rw [e] at r
  rw [r.2]
  refine int_good h ⟨?_, by rw [list_size]; exact h15, r.1, ?_⟩
  · intro e
    have := list_size t
    rw [e] at this
    simp at this
    omega
  · rw [head_at t h0, list_size]
    rintro ⟨a, b⟩
    have a' : t[0] = 48 := by simpa using a
    exact g ⟨by rw [a']; rfl, b⟩
set_option maxHeartbeats 8000000 in
set_option maxRecDepth 100000 in
theorem rint_a (s : ByteArray) (w : World) (h : s.size ≤ 1) : Calls Tryz.prog 44 #[.string s] w fun e w' => rintQ s e ∧ w' = w := by
  have q1 : ¬ (1 : Int) < (s.size : Int) := by omega
  have SG := hid (show Sgn s false s.data.toList from Or.inr ⟨rfl, rfl, fun r hr e => by
    have := list_size s
    rw [e] at this
    have : 0 < r.length := List.length_pos_iff.2 hr
    simp at *
    omega⟩)
  by_cases hz : s.size = 0
  · have q2 : (s.size : Int) < 1 := by omega
    have HN := hid (bad_size SG.out (Or.inl (by omega)))
    clear SG
    go_enter Tryz.func44, Tryz.ntmps44
    go_wp2
    go_ret2
    exact ⟨Or.inr ⟨HN.out, rfl⟩, rfl⟩
  · have q2 : ¬ (s.size : Int) < 1 := by omega
    have q3 : ¬ (15 : Int) < (s.size : Int) := by omega
    have h0 : 0 < s.size := by omega
    go_enter Tryz.func44, Tryz.ntmps44
    go_wp2
    obtain ⟨q, hq⟩ : ∃ q : Int, ((s[0]'h0).toNat : Int) = q := ⟨_, rfl⟩
    have HQ := hid hq
    go_loop [6, 7] (fun n i => ∃ k v : Nat, k ≤ s.size ∧ i = .int .i64 k ∧ n = .int .i64 v ∧ Hid (readSt s.data.toList k v)) (fun _ i => s.size - (intOf i).toNat)
    case atStart => exact ⟨0, 0, Nat.zero_le _, rfl, rfl, hid ⟨by simp, by simp [val]⟩⟩
    case round =>
      obtain ⟨k, v, hk, rfl, rfl, HR⟩ := hrel
      by_cases hlt : k < s.size
      · have hv := readSt_room HR.out (by omega)
        obtain ⟨d, hd⟩ : ∃ d : Int, ((s[k]'hlt).toNat : Int) = d := ⟨_, rfl⟩
        by_cases c1 : d < 48
        · have HN := hid (bad_byte SG.out hlt (Or.inl (by omega)))
          clear HR SG HQ
          go_wp2_with fail
          go_ret2
          exact ⟨Or.inr ⟨HN.out, rfl⟩, rfl⟩
        · by_cases c2 : 57 < d
          · have HN := hid (bad_byte SG.out hlt (Or.inr (by omega)))
            clear HR SG HQ
            go_wp2_with fail
            go_ret2
            exact ⟨Or.inr ⟨HN.out, rfl⟩, rfl⟩
          · have HS := hid (readSt_step HR.out hlt (by omega))
            have hd0 : 0 ≤ d - 48 := by omega
            obtain ⟨f, hf⟩ : ∃ f : Nat, (f : Int) = d - 48 := ⟨(d - 48).toNat, by omega⟩
            have HF := hid (show (s[k]'hlt).toNat - 48 = f by omega)
            rw [HF.out] at HS
            clear HR SG HQ HF
            go_wp2_with fail
            exact ⟨⟨k + 1, 10 * v + f, by omega, by go_num, congrArg (Value.int .i64) (by omega), HS⟩, by simp [intOf]; omega⟩
      · obtain rfl : k = s.size := by omega
        have hv : v < 1000000000000000 := readSt_room15 HR.out (by omega)
        by_cases c0 : q = 48
        · have HG := hid (good_all SG.out h0 (by omega) HR.out (fun x => by rcases x.2 with e | e; exact absurd e (by omega); cases e))
          clear HR SG
          subst c0
          go_wp2_with fail
          go_ret2
          exact ⟨Or.inl ⟨_, HG.out, rfl⟩, rfl⟩
        · have HG := hid (good_all SG.out h0 (by omega) HR.out (fun x => c0 (by omega)))
          have b0 : (q == 48) = false := by simpa using c0
          clear HR SG HQ c0
          go_wp2_with fail
          go_ret2
          exact ⟨Or.inl ⟨_, HG.out, rfl⟩, rfl⟩
set_option maxHeartbeats 8000000 in
set_option maxRecDepth 100000 in
theorem rint_b (s : ByteArray) (w : World) (hs : s.size ≤ maxLen) (h : 1 < s.size) (h45 : (s[0]'(by omega)).toNat ≠ 45) : Calls Tryz.prog 44 #[.string s] w fun e w' => rintQ s e ∧ w' = w := by
  have q1 : (1 : Int) < (s.size : Int) := by omega
  unfold maxLen at hs
  have h0 : 0 < s.size := by omega
  have SG := hid (show Sgn s false s.data.toList from Or.inr ⟨rfl, rfl, fun r hr e => by
    have := head_at s h0
    rw [e] at this
    simp at this
    exact h45 (by rw [← this]; rfl)⟩)
  obtain ⟨q', hq'⟩ : ∃ q : Int, ((s[0]'h0).toNat : Int) = q := ⟨_, rfl⟩
  have n45 : (q' == 45) = false := by
    have : q' ≠ 45 := by omega
    simpa using this
  clear h45
  by_cases h15 : s.size ≤ 15
  · have q2 : ¬ (s.size : Int) < 1 := by omega
    have q3 : ¬ (15 : Int) < (s.size : Int) := by omega
    go_enter Tryz.func44, Tryz.ntmps44
    go_wp2
    clear hq' n45
    obtain ⟨q, hq⟩ : ∃ q : Int, ((s[0]'h0).toNat : Int) = q := ⟨_, rfl⟩
    have HQ := hid hq
    go_loop [6, 7] (fun n i => ∃ k v : Nat, k ≤ s.size ∧ i = .int .i64 k ∧ n = .int .i64 v ∧ Hid (readSt s.data.toList k v)) (fun _ i => s.size - (intOf i).toNat)
    case atStart => exact ⟨0, 0, Nat.zero_le _, rfl, rfl, hid ⟨by simp, by simp [val]⟩⟩
    case round =>
      obtain ⟨k, v, hk, rfl, rfl, HR⟩ := hrel
      by_cases hlt : k < s.size
      · have hv := readSt_room HR.out (by omega)
        obtain ⟨d, hd⟩ : ∃ d : Int, ((s[k]'hlt).toNat : Int) = d := ⟨_, rfl⟩
        by_cases c1 : d < 48
        · have HN := hid (bad_byte SG.out hlt (Or.inl (by omega)))
          clear HR SG HQ
          go_wp2_with fail
          go_ret2
          exact ⟨Or.inr ⟨HN.out, rfl⟩, rfl⟩
        · by_cases c2 : 57 < d
          · have HN := hid (bad_byte SG.out hlt (Or.inr (by omega)))
            clear HR SG HQ
            go_wp2_with fail
            go_ret2
            exact ⟨Or.inr ⟨HN.out, rfl⟩, rfl⟩
          · have HS := hid (readSt_step HR.out hlt (by omega))
            have hd0 : 0 ≤ d - 48 := by omega
            obtain ⟨f, hf⟩ : ∃ f : Nat, (f : Int) = d - 48 := ⟨(d - 48).toNat, by omega⟩
            have HF := hid (show (s[k]'hlt).toNat - 48 = f by omega)
            rw [HF.out] at HS
            clear HR SG HQ HF
            go_wp2_with fail
            exact ⟨⟨k + 1, 10 * v + f, by omega, by go_num, congrArg (Value.int .i64) (by omega), HS⟩, by simp [intOf]; omega⟩
      · obtain rfl : k = s.size := by omega
        have hv : v < 1000000000000000 := readSt_room15 HR.out (by omega)
        by_cases c0 : q = 48
        · have HN := hid (bad_zero SG.out h0 (by omega) (Or.inl (by omega)))
          clear HR SG
          subst c0
          go_wp2_with fail
          go_ret2
          exact ⟨Or.inr ⟨HN.out, rfl⟩, rfl⟩
        · have HG := hid (good_all SG.out h0 (by omega) HR.out (fun x => c0 (by omega)))
          have b0 : (q == 48) = false := by simpa using c0
          clear HR SG HQ c0
          go_wp2_with fail
          go_ret2
          exact ⟨Or.inl ⟨_, HG.out, rfl⟩, rfl⟩
  · have q2 : ¬ (s.size : Int) < 1 := by omega
    have q3 : (15 : Int) < (s.size : Int) := by omega
    have HN := hid (bad_size SG.out (Or.inr (by omega)))
    clear SG
    go_enter Tryz.func44, Tryz.ntmps44
    go_wp2
    go_ret2
    exact ⟨Or.inr ⟨HN.out, rfl⟩, rfl⟩
set_option maxHeartbeats 8000000 in
set_option maxRecDepth 100000 in
theorem rint_c (s : ByteArray) (w : World) (hs : s.size ≤ maxLen) (h : 1 < s.size) (h45 : (s[0]'(by omega)).toNat = 45) : Calls Tryz.prog 44 #[.string s] w fun e w' => rintQ s e ∧ w' = w := by
  have q1 : (1 : Int) < (s.size : Int) := by omega
  unfold maxLen at hs
  have hz : 0 < s.size := by omega
  obtain ⟨t, ht⟩ : ∃ t, t = s.extract 1 s.size := ⟨_, rfl⟩
  have htl : t.data.toList = s.data.toList.drop 1 := by
    rw [ht, ext_list]
    apply List.take_of_length_le
    rw [List.length_drop, list_size]
    exact Nat.le_refl _
  have hts : t.size = s.size - 1 := by rw [← list_size, htl, List.length_drop, list_size]
  have SG := hid (show Sgn s true t.data.toList from Or.inl ⟨rfl, by
    rw [htl]
    have := head_at s hz
    cases e : s.data.toList with
    | nil => rw [e] at this; cases this
    | cons a r =>
      rw [e] at this
      simp at this
      rw [this, show s[0] = 45 from UInt8.toNat_inj.1 h45]
      rfl, by
    intro e
    have := list_size t
    rw [e] at this
    simp at this
    omega⟩)
  have h0 : 0 < t.size := by omega
  have q45 : ((s[0]'hz).toNat : Int) = 45 := by omega
  have HT := hid ht
  clear h45 htl ht
  by_cases h15 : t.size ≤ 15
  · have q2 : ¬ (t.size : Int) < 1 := by omega
    have q3 : ¬ (15 : Int) < (t.size : Int) := by omega
    go_enter Tryz.func44, Tryz.ntmps44
    go_wp2
    rw [← HT.out]
    clear hts q45 q1 h
    go_wp2
    obtain ⟨q, hq⟩ : ∃ q : Int, ((t[0]'h0).toNat : Int) = q := ⟨_, rfl⟩
    have HQ := hid hq
    go_loop [6, 7] (fun n i => ∃ k v : Nat, k ≤ t.size ∧ i = .int .i64 k ∧ n = .int .i64 v ∧ Hid (readSt t.data.toList k v)) (fun _ i => t.size - (intOf i).toNat)
    case atStart => exact ⟨0, 0, Nat.zero_le _, rfl, rfl, hid ⟨by simp, by simp [val]⟩⟩
    case round =>
      obtain ⟨k, v, hk, rfl, rfl, HR⟩ := hrel
      by_cases hlt : k < t.size
      · have hv := readSt_room HR.out (by omega)
        obtain ⟨d, hd⟩ : ∃ d : Int, ((t[k]'hlt).toNat : Int) = d := ⟨_, rfl⟩
        by_cases c1 : d < 48
        · have HN := hid (bad_byte SG.out hlt (Or.inl (by omega)))
          clear HR SG HQ
          go_wp2_with fail
          go_ret2
          exact ⟨Or.inr ⟨HN.out, rfl⟩, rfl⟩
        · by_cases c2 : 57 < d
          · have HN := hid (bad_byte SG.out hlt (Or.inr (by omega)))
            clear HR SG HQ
            go_wp2_with fail
            go_ret2
            exact ⟨Or.inr ⟨HN.out, rfl⟩, rfl⟩
          · have HS := hid (readSt_step HR.out hlt (by omega))
            have hd0 : 0 ≤ d - 48 := by omega
            obtain ⟨f, hf⟩ : ∃ f : Nat, (f : Int) = d - 48 := ⟨(d - 48).toNat, by omega⟩
            have HF := hid (show (t[k]'hlt).toNat - 48 = f by omega)
            rw [HF.out] at HS
            clear HR SG HQ HF
            go_wp2_with fail
            exact ⟨⟨k + 1, 10 * v + f, by omega, by go_num, congrArg (Value.int .i64) (by omega), HS⟩, by simp [intOf]; omega⟩
      · obtain rfl : k = t.size := by omega
        have hv : v < 1000000000000000 := readSt_room15 HR.out (by omega)
        by_cases c0 : q = 48
        · have HN := hid (bad_zero SG.out h0 (by omega) (Or.inr rfl))
          clear HR SG
          subst c0
          by_cases c9 : (1 : Int) < (t.size : Int)
          · go_wp2_with fail
            go_ret2
            exact ⟨Or.inr ⟨HN.out, rfl⟩, rfl⟩
          · go_wp2_with fail
            go_ret2
            exact ⟨Or.inr ⟨HN.out, rfl⟩, rfl⟩
        · have HG := hid (good_all SG.out h0 (by omega) HR.out (fun x => c0 (by omega)))
          have b0 : (q == 48) = false := by simpa using c0
          clear HR SG HQ c0
          go_wp2_with fail
          go_ret2
          exact ⟨Or.inl ⟨_, HG.out, rfl⟩, rfl⟩
  · have q2 : ¬ (t.size : Int) < 1 := by omega
    have q3 : (15 : Int) < (t.size : Int) := by omega
    have HN := hid (bad_size SG.out (Or.inr (by omega)))
    clear SG
    go_enter Tryz.func44, Tryz.ntmps44
    go_wp2
    rw [← HT.out]
    clear hts q45 q1 h
    go_wp2
    go_ret2
    exact ⟨Or.inr ⟨HN.out, rfl⟩, rfl⟩
theorem rint_any (s : ByteArray) (w : World) (hs : s.size ≤ maxLen) : Calls Tryz.prog 44 #[.string s] w fun e w' => rintQ s e ∧ w' = w := by
  by_cases h : s.size ≤ 1
  · exact rint_a s w h
  · by_cases h45 : (s[0]'(by omega)).toNat = 45
    · exact rint_c s w hs (by omega) h45
    · exact rint_b s w hs (by omega) h45
end Go.Proofs.YtnldagpbmphdhaaGreatDoor.L
