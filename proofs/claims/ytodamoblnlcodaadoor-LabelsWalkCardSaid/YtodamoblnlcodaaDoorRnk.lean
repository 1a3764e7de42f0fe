import Derived.Test.YtodamoblnlcodaaDoorRct
namespace Go.Proofs.YtodamoblnlcodaaDoor.L
open Go.RowKit
set_option linter.unusedVariables false
theorem pieces_ne (s : ByteArray) (c : UInt8) : pieces s c ≠ [] := by
  intro e
  have := pieces_len s c
  rw [e] at this
  simp at this
theorem rname_out (s : ByteArray) (w : World) (hs : s.size ≤ maxLen) (h : ¬ s.size ≤ 63) : Calls Tryd.prog 38 #[.string s] w fun e w' => e = .returned (.bool (nameB s)) ∧ Below w.heap.size w w' := by
  have HV := hid (show nameB s = false by unfold nameB; rw [decide_eq_false h]; rfl)
  have g : (63 : Int) < (s.size : Int) := by omega
  unfold maxLen at hs
  go_enter Tryd.func38, Tryd.ntmps38
  go_wp2
  go_ret
  exact ⟨ret_bool HV.out.symm, Below.refl _ _⟩
set_option maxHeartbeats 4000000 in
theorem rname_in (s : ByteArray) (w : World) (h : s.size ≤ 63) : Calls Tryd.prog 38 #[.string s] w fun e w' => e = .returned (.bool (nameB s)) ∧ Below w.heap.size w w' := by
  have g : ¬ (63 : Int) < (s.size : Int) := by omega
  have HV := hid (show nameB s = (pieces s 46).all partB by unfold nameB; rw [decide_eq_true h]; rfl)
  have HS := hid (rcut_any s 46 w (by omega))
  rw [show (((46 : UInt8).toNat : Nat) : Int) = 46 from rfl] at HS
  have hpl := pieces_len s 46
  have hpc := pieces_count s 46
  have hne := pieces_ne s 46
  have HP := hid (fun x (hx : x ∈ pieces s 46) W => rpart_any x W (by have := piece_small s 46 x hx; unfold maxLen; omega))
  generalize hps : pieces s 46 = ps at *
  have HNE := hid hne
  obtain ⟨len, hlen⟩ : ∃ n, n = ps.length := ⟨_, rfl⟩
  have HLEN := hid hlen
  have hl : len ≤ 64 := by omega
  clear hps hpl hpc hne
  go_enter Tryd.func38, Tryd.ntmps38
  go_wp2_with fail
  refine HS.out.mono ?_
  rintro e W1 ⟨v, rfl, how, hb⟩
  obtain ⟨b, cap, rfl, hbl, hcell⟩ := strAt_own how HNE.out
  have HB := hid hb
  have HCELL := hid hcell
  clear hcell how hb
  rw [← hlen]
  clear hlen
  go_wp2_with fail
  go_loop [4] (fun i => ∃ k : Nat, k ≤ len ∧ i = .int .i64 k ∧ Hid ((ps.take k).all partB = true)) (fun i => len - (intOf i).toNat)
  case atStart => exact ⟨0, Nat.zero_le _, rfl, hid (by simp)⟩
  case round =>
    obtain ⟨k, hk, rfl, HO⟩ := hrel
    by_cases hlt : k < len
    · have hkp : k < ps.length := by rw [← HLEN.out]; exact hlt
      have c0 := HCELL.out k hkp
      have HL := hid (fun W => HP.out ps[k] (List.getElem_mem hkp) W)
      have HT := hid (fun h : partB ps[k] = true => all_step hkp HO.out h)
      have HF := hid (fun h : partB ps[k] = false => show nameB s = false from by
        rw [HV.out]
        cases e : ps.all partB
        · rfl
        · rw [List.all_eq_true.1 e _ (List.getElem_mem hkp)] at h; cases h)
      generalize ps[k] = x at *
      cases e1 : partB x
      · rw [e1] at HL
        have HN := hid (HF.out e1)
        clear HF HT e1
        go_wp2_with fail
        refine (HL.out _).mono ?_
        rintro e w1 ⟨rfl, hww⟩; subst hww
        go_wp2_with fail
        go_ret
        exact ⟨ret_bool HN.out.symm, HB.out⟩
      · rw [e1] at HL
        have HN := hid (HT.out e1)
        clear HF HT e1
        go_wp2_with fail
        refine (HL.out _).mono ?_
        rintro e w1 ⟨rfl, hww⟩; subst hww
        go_wp2_with fail
        exact ⟨⟨k + 1, by omega, by go_num, HN⟩, by simp [intOf]; omega⟩
    · obtain rfl : k = len := by omega
      have HN := hid (show nameB s = true by
        have := HO.out
        rw [HLEN.out, List.take_length] at this
        rw [HV.out, this])
      go_wp2_with fail
      go_ret
      exact ⟨ret_bool HN.out.symm, HB.out⟩
theorem rname_any (s : ByteArray) (w : World) (hs : s.size ≤ maxLen) : Calls Tryd.prog 38 #[.string s] w fun e w' => e = .returned (.bool (nameB s)) ∧ Below w.heap.size w w' := by
  by_cases h : s.size ≤ 63
  · exact rname_in s w h
  · exact rname_out s w hs h
theorem idx_l (s : ByteArray) (c : UInt8) : idx s c = Lib.indexByte s.data.toList c := rfl
theorem pieces_one {s : ByteArray} {c : UInt8} (h : idx s c = -1) : pieces s c = [s] := by
  apply list_ba
  rw [pieces_cut, cut_none c _ (idx_none h)]
  rfl
theorem ext_first (s : ByteArray) (i : Nat) : (s.extract 0 i).data.toList = s.data.toList.take i := by
  rw [ext_list]
  simp
theorem ext_rest (s : ByteArray) (i : Nat) : (s.extract i s.size).data.toList = s.data.toList.drop i := by
  rw [ext_list]
  apply List.take_of_length_le
  rw [List.length_drop]
  simp
theorem pieces_more {s : ByteArray} {c : UInt8} {i : Nat} (h : idx s c = i) : pieces s c = s.extract 0 i :: pieces (s.extract (i + 1) s.size) c := by
  apply list_ba
  obtain ⟨h1, h2⟩ := idx_some (show Lib.indexByte s.data.toList c = i from h)
  rw [pieces_cut, List.map_cons, pieces_cut, ext_first, ext_rest]
  conv => lhs; rw [h1]
  rw [cut_app, cut_none c _ h2]
  rfl
theorem short_slash {s : ByteArray} {i : Nat} (h : idx s 47 = i) (hi : i < s.size) : shortB s = false := by
  obtain ⟨h1, h2⟩ := idx_some (show Lib.indexByte s.data.toList 47 = i from h)
  have hat : at' s i = 47 := by
    unfold at'
    have : s.data.toList[i]? = some 47 := by
      have hl : i < s.data.toList.length := by simpa using hi
      rw [h1, List.getElem?_append_right (by rw [List.length_take]; omega), List.length_take, show i - min i s.data.toList.length = 0 by omega]
      rfl
    rw [List.getD_eq_getElem?_getD, this]
    rfl
  unfold shortB
  rw [all_bad (p := innB) hi (by rw [hat]; decide)]
  simp
theorem short_size {s : ByteArray} (h : shortB s = true) : s.size ≤ 63 := by
  apply Classical.byContradiction
  intro n
  unfold shortB at h
  rw [decide_eq_false (by omega)] at h
  simp at h
theorem name_size {s : ByteArray} (h : nameB s = true) : s.size ≤ 63 := by
  apply Classical.byContradiction
  intro n
  unfold nameB at h
  rw [decide_eq_false (by omega)] at h
  simp at h
theorem ext_size (s : ByteArray) (a b : Nat) (h : b ≤ s.size) : (s.extract a b).size = b - a := by
  have e := congrArg List.length (ext_list s a b)
  have hl : s.data.toList.length = s.size := by simp
  rw [List.length_take, List.length_drop, hl] at e
  have : (s.extract a b).data.toList.length = (s.extract a b).size := by rw [Array.length_toList]; rfl
  omega
theorem key_long {s : ByteArray} (h : ¬ s.size ≤ 127) : keyB s = false := by
  cases e : keyB s
  · rfl
  · exfalso
    unfold keyB at e
    rcases idx_cases s 47 with h1 | ⟨i, h1, hi⟩
    · rw [if_pos h1] at e
      have := short_size e
      omega
    · rw [h1, if_neg (by omega), Bool.and_eq_true] at e
      have a := name_size e.1
      have b := short_size e.2
      rw [ext_size _ _ _ (by simp; omega)] at a
      rw [ext_size _ _ _ (Nat.le_refl _)] at b
      simp at a b
      omega
theorem rkey_out (s : ByteArray) (w : World) (hs : s.size ≤ maxLen) (h : ¬ s.size ≤ 127) : Calls Tryd.prog 25 #[.string s] w fun e w' => e = .returned (.bool (keyB s)) ∧ Below w.heap.size w w' := by
  have HV := hid (key_long h)
  have g : (127 : Int) < (s.size : Int) := by omega
  unfold maxLen at hs
  go_enter Tryd.func25, Tryd.ntmps25
  go_wp2
  go_ret
  exact ⟨ret_bool HV.out.symm, Below.refl _ _⟩
set_option maxHeartbeats 4000000 in
theorem rkey_in (s : ByteArray) (w : World) (h : s.size ≤ 127) : Calls Tryd.prog 25 #[.string s] w fun e w' => e = .returned (.bool (keyB s)) ∧ Below w.heap.size w w' := by
  have g : ¬ (127 : Int) < (s.size : Int) := by omega
  have HS := hid (rcut_any s 47 w (by omega))
  rw [show (((47 : UInt8).toNat : Nat) : Int) = 47 from rfl] at HS
  rcases idx_cases s 47 with h1 | ⟨i, h1, hi⟩
  · have HV := hid (show keyB s = shortB s by unfold keyB; rw [if_pos h1])
    rw [pieces_one h1] at HS
    have HR := hid (fun W => rshort_any s W (by unfold maxLen; omega))
    clear h1
    go_enter Tryd.func25, Tryd.ntmps25
    go_wp2_with fail
    refine HS.out.mono ?_
    rintro e W1 ⟨v, rfl, how, hb⟩
    obtain ⟨b, cap, rfl, hbl, hcell⟩ := strAt_own how (by simp)
    have HB := hid hb
    have c0 : W1.cell? ⟨b, 0, none⟩ = some (.string s) := hcell 0 (by simp)
    clear hcell how hb
    simp only [List.length_cons, List.length_nil]
    go_wp2_with fail
    refine (HR.out _).mono ?_
    rintro e w1 ⟨rfl, hww⟩; subst hww
    go_wp2_with fail
    go_ret
    exact ⟨ret_bool HV.out.symm, HB.out⟩
  · rw [pieces_more h1] at HS
    have ha : (s.extract 0 i).size ≤ 127 := by rw [ext_size _ _ _ (by omega)]; omega
    have hb' : (s.extract (i + 1) s.size).size ≤ 127 := by rw [ext_size _ _ _ (Nat.le_refl _)]; omega
    have HV := hid (show keyB s = (nameB (s.extract 0 i) && shortB (s.extract (i + 1) s.size)) by unfold keyB; rw [h1, if_neg (by omega)]; rfl)
    clear h1
    generalize s.extract 0 i = x at *
    generalize s.extract (i + 1) s.size = y at *
    rcases idx_cases y 47 with h2 | ⟨j, h2, hj⟩
    · rw [pieces_one h2] at HS
      have HN := hid (fun W => rname_any x W (by unfold maxLen; omega))
      have HR := hid (fun W => rshort_any y W (by unfold maxLen; omega))
      clear h2
      cases e1 : nameB x
      · rw [e1] at HN HV
        go_enter Tryd.func25, Tryd.ntmps25
        go_wp2_with fail
        refine HS.out.mono ?_
        rintro e W1 ⟨v, rfl, how, hb⟩
        obtain ⟨b, cap, rfl, hbl, hcell⟩ := strAt_own how (by simp)
        have HB := hid hb
        have c0 : W1.cell? ⟨b, 0, none⟩ = some (.string x) := hcell 0 (by simp)
        have c1 : W1.cell? ⟨b, 1, none⟩ = some (.string y) := hcell 1 (by simp)
        clear hcell how hb
        simp only [List.length_cons, List.length_nil]
        go_wp2_with fail
        refine (HN.out _).mono ?_
        rintro e w2 ⟨rfl, hb⟩
        have HB2 := hid (HB.out.trans (hb.mono HB.out.size))
        clear hb
        go_wp2_with fail
        go_ret
        exact ⟨ret_bool HV.out.symm, HB2.out⟩
      · rw [e1] at HN HV
        go_enter Tryd.func25, Tryd.ntmps25
        go_wp2_with fail
        refine HS.out.mono ?_
        rintro e W1 ⟨v, rfl, how, hb⟩
        obtain ⟨b, cap, rfl, hbl, hcell⟩ := strAt_own how (by simp)
        have HB := hid hb
        have c0 : W1.cell? ⟨b, 0, none⟩ = some (.string x) := hcell 0 (by simp)
        have c1 : W1.cell? ⟨b, 1, none⟩ = some (.string y) := hcell 1 (by simp)
        clear hcell how hb
        simp only [List.length_cons, List.length_nil]
        go_wp2_with fail
        refine (HN.out _).mono ?_
        rintro e w2 ⟨rfl, hb⟩
        have c2 : w2.cell? ⟨b, 1, none⟩ = some (.string y) := (hb.cell (p := ⟨b, 1, none⟩) hbl).trans c1
        have hbl2 : b < w2.heap.size := Nat.lt_of_lt_of_le hbl hb.size
        have HB2 := hid (HB.out.trans (hb.mono HB.out.size))
        clear hb
        go_wp2_with fail
        refine (HR.out _).mono ?_
        rintro e w1 ⟨rfl, hww⟩; subst hww
        go_wp2_with fail
        go_ret
        exact ⟨ret_bool (by rw [HV.out]; simp), HB2.out⟩
    · have HV2 := hid (show keyB s = false by rw [HV.out, short_slash h2 hj]; simp)
      rw [pieces_more h2] at HS
      obtain ⟨n, hn⟩ : ∃ n, n = (pieces (y.extract (j + 1) y.size) 47).length := ⟨_, rfl⟩
      have hn1 : 1 ≤ n := by rw [hn, pieces_len]; omega
      have hn2 : n ≤ 128 := by
        rw [hn, pieces_len]
        have := pieces_count (y.extract (j + 1) y.size) 47
        rw [ext_size _ _ _ (Nat.le_refl _)] at this
        omega
      generalize pieces (y.extract (j + 1) y.size) 47 = r at *
      clear h2 HV
      go_enter Tryd.func25, Tryd.ntmps25
      go_wp2_with fail
      refine HS.out.mono ?_
      rintro e W1 ⟨v, rfl, how, hb⟩
      obtain ⟨b, cap, rfl, hbl, hcell⟩ := strAt_own how (by simp)
      have HB := hid hb
      clear hcell how hb
      simp only [List.length_cons]
      rw [← hn]
      have q1 : ¬ ((n : Int) + 1 + 1 = 1) := by omega
      have q2 : ¬ ((n : Int) + 1 + 1 = 2) := by omega
      go_wp2_with fail
      go_ret
      exact ⟨ret_bool HV2.out.symm, HB.out⟩
theorem rkey_any (s : ByteArray) (w : World) (hs : s.size ≤ maxLen) : Calls Tryd.prog 25 #[.string s] w fun e w' => e = .returned (.bool (keyB s)) ∧ Below w.heap.size w w' := by
  by_cases h : s.size ≤ 127
  · exact rkey_in s w h
  · exact rkey_out s w hs h
end Go.Proofs.YtodamoblnlcodaaDoor.L
