import Derived.Test.YtppblibcbjpfnaaGreatDoorQck
import Derived.Test.YtppblibcbjpfnaaGreatDoorTpp
namespace Go.Proofs.YtppblibcbjpfnaaGreatDoor.L
open Go.RowKit
set_option linter.unusedVariables false
theorem app3 (a b c : ByteArray) : a ++ (b ++ c) = a ++ b ++ c := by
  apply bytes_inj
  simp
set_option maxHeartbeats 4000000 in
theorem qtext_bad (t : Tn) (w : World) (hk : t.1.size ≤ maxLen) (hv : t.2.1.size ≤ maxLen) (h : tE t ≠ 0) : Calls Tryz.prog 16 #[tv t] w fun e w' => e = .returned (.tuple #[.string ByteArray.empty, .int .i64 (tE t)]) ∧ Below w.heap.size w w' := by
  have HT := hid (fun W => qctaint_any t W hk hv)
  have h' : (tE t != 0) = true := by simpa using h
  generalize tE t = er at *
  obtain ⟨k, v, f⟩ := t
  simp only [tv] at *
  clear h
  go_enter Tryz.func16, Tryz.ntmps16
  go_wp2_with fail
  refine (HT.out _).mono ?_
  rintro e w1 ⟨rfl, hb⟩
  have HB := hid ((belowA w _).trans (hb.mono (belowA w _).size))
  clear hb
  go_wp2_with fail
  go_ret2
  exact ⟨rfl, HB.out⟩
set_option maxHeartbeats 4000000 in
theorem qtext_ok (t : Tn) (w : World) (h : tE t = 0) : Calls Tryz.prog 16 #[tv t] w fun e w' => e = .returned (.tuple #[.string (tText t), .int .i64 0]) ∧ Below w.heap.size w w' := by
  obtain ⟨k1, v1, f1⟩ := tE_ok h
  have z1 := key_size k1
  have z2 := val_size v1
  have z3 := eff_size f1
  have HT := hid (fun W => qctaint_any t W (by unfold maxLen; omega) (by unfold maxLen; omega))
  rw [h] at HT
  obtain ⟨tt, htt⟩ : ∃ x, x = tText t := ⟨_, rfl⟩
  rw [← htt]
  unfold tText at htt
  obtain ⟨k, v, f⟩ := t
  simp only [tv] at *
  clear h k1 v1 f1
  have C0 := hid (three w (.string k) (.string v) (.string f) 25)
  cases e1 : emB v
  · rw [e1, if_neg (by decide), app3] at htt
    have HTT := hid htt
    have e1' : v.toList.isEmpty = false := e1
    clear htt e1
    go_enter Tryz.func16, Tryz.ntmps16
    go_wp2_with fail
    refine (HT.out _).mono ?_
    rintro e w1 ⟨rfl, hb⟩
    have HB := hid ((belowA w _).trans (hb.mono (belowA w _).size))
    have c0 := (hb.cell (p := ⟨w.heap.size, 0, none⟩) (by simp)).trans C0.out.1
    have c1 := (hb.cell (p := ⟨w.heap.size, 1, none⟩) (by simp)).trans C0.out.2.1
    have c2 := (hb.cell (p := ⟨w.heap.size, 2, none⟩) (by simp)).trans C0.out.2.2
    have z : w.heap.size < w1.heap.size := Nat.lt_of_lt_of_le (by simp) hb.size
    clear hb
    go_wp2_with fail
    go_ret2
    exact ⟨by rw [HTT.out]; rfl, HB.out⟩
  · rw [e1, if_pos rfl] at htt
    have HTT := hid htt
    have e1' : v.toList.isEmpty = true := e1
    clear htt e1
    go_enter Tryz.func16, Tryz.ntmps16
    go_wp2_with fail
    refine (HT.out _).mono ?_
    rintro e w1 ⟨rfl, hb⟩
    have HB := hid ((belowA w _).trans (hb.mono (belowA w _).size))
    have c0 := (hb.cell (p := ⟨w.heap.size, 0, none⟩) (by simp)).trans C0.out.1
    have c1 := (hb.cell (p := ⟨w.heap.size, 1, none⟩) (by simp)).trans C0.out.2.1
    have c2 := (hb.cell (p := ⟨w.heap.size, 2, none⟩) (by simp)).trans C0.out.2.2
    have z : w.heap.size < w1.heap.size := Nat.lt_of_lt_of_le (by simp) hb.size
    clear hb
    go_wp2_with fail
    go_ret2
    exact ⟨by rw [HTT.out]; rfl, HB.out⟩
theorem lst_snoc_yes (c : UInt8) (a : List UInt8) : lstL c (a ++ [c]) = a.length := lst_app a (by simp)
theorem lst_snoc_no {c x : UInt8} (a : List UInt8) (h : x ≠ c) : lstL c (a ++ [x]) = lstL c a := by
  rcases lst_cases a c with ⟨h1, h2⟩ | ⟨i, h1, h2, h3⟩
  · rw [h1]
    exact lst_none (by simp [h2]; exact fun e => h e.symm)
  · have e : a ++ [x] = a.take i ++ c :: (a.drop (i + 1) ++ [x]) := by
      conv => lhs; rw [h2]
      simp
    have l1 := lst_app (c := c) (a.take i) (b := a.drop (i + 1) ++ [x]) (by simp [h3]; exact fun e => h e.symm)
    have l2 := lst_app (c := c) (a.take i) (b := a.drop (i + 1)) h3
    rw [← e] at l1
    rw [← h2] at l2
    rw [l1, l2]
theorem take_byte (s : ByteArray) (k : Nat) (h : k < s.size) : s.data.toList.take (k + 1) = s.data.toList.take k ++ [s[k]] := by
  have hl : k < s.data.toList.length := by simpa using h
  rw [List.take_succ_eq_append_getElem hl]
  rfl
set_option maxHeartbeats 4000000 in
theorem qlast_any (s : ByteArray) (w : World) (hs : s.size ≤ maxLen) : Calls Tryz.prog 47 #[.string s, .int .u8 58] w fun e w' => e = .returned (.int .i64 (lst s 58)) ∧ w' = w := by
  unfold maxLen at hs
  go_enter Tryz.func47, Tryz.ntmps47
  go_wp2
  go_loop [5, 6] (fun at_ i => ∃ k : Nat, k ≤ s.size ∧ i = .int .i64 k ∧ at_ = .int .i64 (lstL 58 (s.data.toList.take k))) (fun _ i => s.size - (intOf i).toNat)
  case atStart => exact ⟨0, Nat.zero_le _, rfl, rfl⟩
  case round =>
    obtain ⟨k, hk, rfl, rfl⟩ := hrel
    by_cases hlt : k < s.size
    · obtain ⟨d, hd⟩ : ∃ d : Int, ((s[k]'hlt).toNat : Int) = d := ⟨_, rfl⟩
      have ht := take_byte s k hlt
      by_cases e1 : d = 58
      · have hc : s[k] = 58 := UInt8.toNat_inj.1 (by rw [e1] at hd; exact Int.ofNat.inj hd)
        have HV := hid (show lstL 58 (s.data.toList.take (k + 1)) = (k : Int) by rw [ht, hc, lst_snoc_yes, List.length_take]; simp; omega)
        subst e1
        clear ht hc
        go_wp2_with fail
        exact ⟨⟨k + 1, by omega, by go_num, by rw [HV.out]⟩, by simp [intOf]; omega⟩
      · have hc : s[k] ≠ 58 := fun e => e1 (by rw [← hd, e]; rfl)
        have HV := hid (show lstL 58 (s.data.toList.take (k + 1)) = lstL 58 (s.data.toList.take k) by rw [ht, lst_snoc_no _ hc])
        have e2 : (d == 58) = false := by simpa using e1
        clear ht hc e1
        go_wp2_with fail
        exact ⟨⟨k + 1, by omega, by go_num, by rw [HV.out]⟩, by simp [intOf]; omega⟩
    · obtain rfl : k = s.size := by omega
      have HV := hid (show lstL 58 (s.data.toList.take s.size) = lst s 58 by
        unfold lst
        rw [List.take_of_length_le (by simp)])
      go_wp2_with fail
      go_ret
      exact ⟨by rw [← HV.out]; rfl, rfl⟩
theorem idx_first {s : ByteArray} {c : UInt8} {k : Nat} (h : k < s.size) (hc : s[k] = c) (hn : c ∉ s.data.toList.take k) : idx s c = k := by
  have hl : k < s.data.toList.length := by simpa using h
  have hk : s.data.toList[k] = c := hc
  rcases idx_cases s c with e | ⟨i, e, hi⟩
  · exact absurd (by rw [← hk]; exact List.getElem_mem hl) (idx_none e)
  · obtain ⟨h1, h2⟩ := idx_some (show Lib.indexByte s.data.toList c = i from e)
    have hil : i < s.data.toList.length := by simpa using hi
    have hic : s.data.toList[i] = c := by
      have e2 : s.data.toList[i]? = some c := by
        conv => lhs; rw [h1]
        rw [List.getElem?_append_right (by rw [List.length_take]; omega), List.length_take, show i - min i s.data.toList.length = 0 by omega]
        rfl
      rw [List.getElem?_eq_getElem hil] at e2
      exact Option.some.inj e2
    have a : ¬ i < k := fun g => hn (by
      rw [← hic]
      exact List.mem_take_iff_getElem.2 ⟨i, by omega, rfl⟩)
    have b : ¬ k < i := fun g => h2 (by
      rw [← hk]
      exact List.mem_take_iff_getElem.2 ⟨k, by omega, rfl⟩)
    rw [e]
    congr 1
    omega
set_option maxHeartbeats 4000000 in
theorem qfirst_any (s : ByteArray) (w : World) (hs : s.size ≤ maxLen) : Calls Tryz.prog 48 #[.string s, .int .u8 61] w fun e w' => e = .returned (.int .i64 (idx s 61)) ∧ w' = w := by
  unfold maxLen at hs
  go_enter Tryz.func48, Tryz.ntmps48
  go_wp2
  go_loop [5] (fun i => ∃ k : Nat, k ≤ s.size ∧ i = .int .i64 k ∧ Hid ((61 : UInt8) ∉ s.data.toList.take k)) (fun i => s.size - (intOf i).toNat)
  case atStart => exact ⟨0, Nat.zero_le _, rfl, hid (by simp)⟩
  case round =>
    obtain ⟨k, hk, rfl, HN⟩ := hrel
    by_cases hlt : k < s.size
    · obtain ⟨d, hd⟩ : ∃ d : Int, ((s[k]'hlt).toNat : Int) = d := ⟨_, rfl⟩
      have ht := take_byte s k hlt
      by_cases e1 : d = 61
      · have hc : s[k] = 61 := UInt8.toNat_inj.1 (by rw [e1] at hd; exact Int.ofNat.inj hd)
        have HV := hid (idx_first hlt hc HN.out)
        subst e1
        clear ht hc
        go_wp2_with fail
        go_ret
        exact ⟨by rw [HV.out]; rfl, rfl⟩
      · have hc : s[k] ≠ 61 := fun e => e1 (by rw [← hd, e]; rfl)
        have HV := hid (show (61 : UInt8) ∉ s.data.toList.take (k + 1) by
          rw [ht]
          intro m
          rcases List.mem_append.1 m with m | m
          · exact HN.out m
          · exact hc (List.mem_singleton.1 m).symm)
        have e2 : (d == 61) = false := by simpa using e1
        clear ht hc e1
        go_wp2_with fail
        exact ⟨⟨k + 1, by omega, by go_num, HV⟩, by simp [intOf]; omega⟩
    · obtain rfl : k = s.size := by omega
      have HV := hid (show idx s 61 = -1 by
        have hn := HN.out
        rw [List.take_of_length_le (by simp)] at hn
        rcases idx_cases s 61 with e | ⟨i, e, hi⟩
        · exact e
        · obtain ⟨h1, _⟩ := idx_some (show Lib.indexByte s.data.toList 61 = i from e)
          exact absurd (by rw [h1]; simp) hn)
      go_wp2_with fail
      go_ret
      exact ⟨by rw [HV.out]; rfl, rfl⟩
end Go.Proofs.YtppblibcbjpfnaaGreatDoor.L
