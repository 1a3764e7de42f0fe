import Derived.Test.YtiddnjjaidiohaaGreatDoorMgAK
import Derived.Test.YtiddnjjaidiohaaGreatDoorMgAC
import Derived.Test.YtiddnjjaidiohaaGreatDoorMgAJ
import Derived.Test.YtiddnjjaidiohaaGreatDoorMgAA
import Derived.LaidEql
import Derived.Stop.Asserts
import Derived.RowKitTokens
import Derived.Test.YtiddnjjaidiohaaGreatDoorMgAI
namespace Go.Proofs.YtiddnjjaidiohaaGreatDoor.L
open Go.RowKit
set_option linter.unusedVariables false
theorem pieces_ne (s : ByteArray) (c : UInt8) : pieces s c ≠ [] := by
  intro e
  have := pieces_len s c
  rw [e] at this
  simp at this
theorem rname_out (s : ByteArray) (w : World) (hs : s.size ≤ maxLen) (h : ¬ s.size ≤ 63) : Calls Tryz.prog 56 #[.string s] w fun e w' => e = .returned (.bool (nameB s)) ∧ Below w.heap.size w w' := by
  have HV := hid (show nameB s = false by unfold nameB; rw [decide_eq_false h]; rfl)
  have g : (63 : Int) < (s.size : Int) := by omega
  unfold maxLen at hs
  go_enter Tryz.func56, Tryz.ntmps56
  go_wp2
  go_ret
  exact ⟨ret_bool HV.out.symm, Below.refl _ _⟩
set_option maxHeartbeats 4000000 in
theorem rname_in (s : ByteArray) (w : World) (h : s.size ≤ 63) : Calls Tryz.prog 56 #[.string s] w fun e w' => e = .returned (.bool (nameB s)) ∧ Below w.heap.size w w' := by
  have g : ¬ (63 : Int) < (s.size : Int) := by omega
  have HV := hid (show nameB s = (pieces s 46).all partB by unfold nameB; rw [decide_eq_true h]; rfl)
  have HS := hid (rcut_any s 46 w (by omega))
  rw [show (((46 : UInt8).toNat : Nat) : Int) = 46 from rfl] at HS
  have hpl := pieces_len s 46
  have hpc := pieces_count s 46
  have hne := pieces_ne s 46
  have HP := hid (fun x (hx : x ∈ pieces s 46) W => rlpart_any x W (by have := piece_small s 46 x hx; unfold maxLen; omega))
  generalize hps : pieces s 46 = ps at *
  have HNE := hid hne
  obtain ⟨len, hlen⟩ : ∃ n, n = ps.length := ⟨_, rfl⟩
  have HLEN := hid hlen
  have hl : len ≤ 64 := by omega
  clear hps hpl hpc hne
  go_enter Tryz.func56, Tryz.ntmps56
  go_wp2_with fail
  refine HS.out.mono ?_
  rintro e W1 ⟨v, rfl, how, hb⟩
  obtain ⟨b, cap, rfl, hbl, hcell⟩ := strAt_own how HNE.out
  have HB := hid hb
  have HCELL := hid hcell
  clear hcell how hb
  rw [← hlen]
  clear hlen
  go_wp2_with fail
  go_loop [4] (fun i => ∃ k : Nat, k ≤ len ∧ i = .int .i64 k ∧ Hid ((ps.take k).all partB = true)) (fun i => len - (intOf i).toNat)
  case atStart => exact ⟨0, Nat.zero_le _, rfl, hid (by simp)⟩
  case round =>
    obtain ⟨k, hk, rfl, HO⟩ := hrel
    by_cases hlt : k < len
    · have hkp : k < ps.length := by rw [← HLEN.out]; exact hlt
      have c0 := HCELL.out k hkp
      have HL := hid (fun W => HP.out ps[k] (List.getElem_mem hkp) W)
      have HT := hid (fun h : partB ps[k] = true => all_step hkp HO.out h)
      have HF := hid (fun h : partB ps[k] = false => show nameB s = false from by
        rw [HV.out]
        cases e : ps.all partB
        · rfl
        · rw [List.all_eq_true.1 e _ (List.getElem_mem hkp)] at h; cases h)
      generalize ps[k] = x at *
      cases e1 : partB x
      · rw [e1] at HL
        have HN := hid (HF.out e1)
        clear HF HT e1
        go_wp2_with fail
        refine (HL.out _).mono ?_
        rintro e w1 ⟨rfl, hww⟩; subst hww
        go_wp2_with fail
        go_ret
        exact ⟨ret_bool HN.out.symm, HB.out⟩
      · rw [e1] at HL
        have HN := hid (HT.out e1)
        clear HF HT e1
        go_wp2_with fail
        refine (HL.out _).mono ?_
        rintro e w1 ⟨rfl, hww⟩; subst hww
        go_wp2_with fail
        exact ⟨⟨k + 1, by omega, by go_num, HN⟩, by simp [intOf]; omega⟩
    · obtain rfl : k = len := by omega
      have HN := hid (show nameB s = true by
        have := HO.out
        rw [HLEN.out, List.take_length] at this
        rw [HV.out, this])
      go_wp2_with fail
      go_ret
      exact ⟨ret_bool HN.out.symm, HB.out⟩
theorem rname_any (s : ByteArray) (w : World) (hs : s.size ≤ maxLen) : Calls Tryz.prog 56 #[.string s] w fun e w' => e = .returned (.bool (nameB s)) ∧ Below w.heap.size w w' := by
  by_cases h : s.size ≤ 63
  · exact rname_in s w h
  · exact rname_out s w hs h
theorem idx_l (s : ByteArray) (c : UInt8) : idx s c = Lib.indexByte s.data.toList c := rfl
theorem pieces_one {s : ByteArray} {c : UInt8} (h : idx s c = -1) : pieces s c = [s] := by
  apply list_ba
  rw [pieces_cut, cut_none c _ (idx_none h)]
  rfl
theorem ext_first (s : ByteArray) (i : Nat) : (s.extract 0 i).data.toList = s.data.toList.take i := by
  rw [ext_list]
  simp
theorem ext_rest (s : ByteArray) (i : Nat) : (s.extract i s.size).data.toList = s.data.toList.drop i := by
  rw [ext_list]
  apply List.take_of_length_le
  rw [List.length_drop]
  simp
theorem pieces_more {s : ByteArray} {c : UInt8} {i : Nat} (h : idx s c = i) : pieces s c = s.extract 0 i :: pieces (s.extract (i + 1) s.size) c := by
  apply list_ba
  obtain ⟨h1, h2⟩ := idx_some (show Lib.indexByte s.data.toList c = i from h)
  rw [pieces_cut, List.map_cons, pieces_cut, ext_first, ext_rest]
  conv => lhs; rw [h1]
  rw [cut_app, cut_none c _ h2]
  rfl
theorem short_slash {s : ByteArray} {i : Nat} (h : idx s 47 = i) (hi : i < s.size) : shortB s = false := by
  obtain ⟨h1, h2⟩ := idx_some (show Lib.indexByte s.data.toList 47 = i from h)
  have hat : at' s i = 47 := by
    unfold at'
    have : s.data.toList[i]? = some 47 := by
      have hl : i < s.data.toList.length := by simpa using hi
      rw [h1, List.getElem?_append_right (by rw [List.length_take]; omega), List.length_take, show i - min i s.data.toList.length = 0 by omega]
      rfl
    rw [List.getD_eq_getElem?_getD, this]
    rfl
  unfold shortB
  rw [all_bad (p := innB) hi (by rw [hat]; decide)]
  simp
theorem short_size {s : ByteArray} (h : shortB s = true) : s.size ≤ 63 := by
  apply Classical.byContradiction
  intro n
  unfold shortB at h
  rw [decide_eq_false (by omega)] at h
  simp at h
theorem name_size {s : ByteArray} (h : nameB s = true) : s.size ≤ 63 := by
  apply Classical.byContradiction
  intro n
  unfold nameB at h
  rw [decide_eq_false (by omega)] at h
  simp at h
theorem ext_size (s : ByteArray) (a b : Nat) (h : b ≤ s.size) : (s.extract a b).size = b - a := by
  have e := congrArg List.length (ext_list s a b)
  have hl : s.data.toList.length = s.size := by simp
  rw [List.length_take, List.length_drop, hl] at e
  have : (s.extract a b).data.toList.length = (s.extract a b).size := by rw [Array.length_toList]; rfl
  omega
theorem key_long {s : ByteArray} (h : ¬ s.size ≤ 127) : keyB s = false := by
  cases e : keyB s
  · rfl
  · exfalso
    unfold keyB at e
    rcases idx_cases s 47 with h1 | ⟨i, h1, hi⟩
    · rw [if_pos h1] at e
      have := short_size e
      omega
    · rw [h1, if_neg (by omega), Bool.and_eq_true] at e
      have a := name_size e.1
      have b := short_size e.2
      rw [ext_size _ _ _ (by simp; omega)] at a
      rw [ext_size _ _ _ (Nat.le_refl _)] at b
      simp at a b
      omega
theorem rkey_out (s : ByteArray) (w : World) (hs : s.size ≤ maxLen) (h : ¬ s.size ≤ 127) : Calls Tryz.prog 34 #[.string s] w fun e w' => e = .returned (.bool (keyB s)) ∧ Below w.heap.size w w' := by
  have HV := hid (key_long h)
  have g : (127 : Int) < (s.size : Int) := by omega
  unfold maxLen at hs
  go_enter Tryz.func34, Tryz.ntmps34
  go_wp2
  go_ret
  exact ⟨ret_bool HV.out.symm, Below.refl _ _⟩
set_option maxHeartbeats 4000000 in
theorem rkey_in (s : ByteArray) (w : World) (h : s.size ≤ 127) : Calls Tryz.prog 34 #[.string s] w fun e w' => e = .returned (.bool (keyB s)) ∧ Below w.heap.size w w' := by
  have g : ¬ (127 : Int) < (s.size : Int) := by omega
  have HS := hid (rcut_any s 47 w (by omega))
  rw [show (((47 : UInt8).toNat : Nat) : Int) = 47 from rfl] at HS
  rcases idx_cases s 47 with h1 | ⟨i, h1, hi⟩
  · have HV := hid (show keyB s = shortB s by unfold keyB; rw [if_pos h1])
    rw [pieces_one h1] at HS
    have HR := hid (fun W => rshort_any s W (by unfold maxLen; omega))
    clear h1
    go_enter Tryz.func34, Tryz.ntmps34
    go_wp2_with fail
    refine HS.out.mono ?_
    rintro e W1 ⟨v, rfl, how, hb⟩
    obtain ⟨b, cap, rfl, hbl, hcell⟩ := strAt_own how (by simp)
    have HB := hid hb
    have c0 : W1.cell? ⟨b, 0, none⟩ = some (.string s) := hcell 0 (by simp)
    clear hcell how hb
    simp only [List.length_cons, List.length_nil]
    go_wp2_with fail
    refine (HR.out _).mono ?_
    rintro e w1 ⟨rfl, hww⟩; subst hww
    go_wp2_with fail
    go_ret
    exact ⟨ret_bool HV.out.symm, HB.out⟩
  · rw [pieces_more h1] at HS
    have ha : (s.extract 0 i).size ≤ 127 := by rw [ext_size _ _ _ (by omega)]; omega
    have hb' : (s.extract (i + 1) s.size).size ≤ 127 := by rw [ext_size _ _ _ (Nat.le_refl _)]; omega
    have HV := hid (show keyB s = (nameB (s.extract 0 i) && shortB (s.extract (i + 1) s.size)) by unfold keyB; rw [h1, if_neg (by omega)]; rfl)
    clear h1
    generalize s.extract 0 i = x at *
    generalize s.extract (i + 1) s.size = y at *
    rcases idx_cases y 47 with h2 | ⟨j, h2, hj⟩
    · rw [pieces_one h2] at HS
      have HN := hid (fun W => rname_any x W (by unfold maxLen; omega))
      have HR := hid (fun W => rshort_any y W (by unfold maxLen; omega))
      clear h2
      cases e1 : nameB x
      · rw [e1] at HN HV
        go_enter Tryz.func34, Tryz.ntmps34
        go_wp2_with fail
        refine HS.out.mono ?_
        rintro e W1 ⟨v, rfl, how, hb⟩
        obtain ⟨b, cap, rfl, hbl, hcell⟩ := strAt_own how (by simp)
        have HB := hid hb
        have c0 : W1.cell? ⟨b, 0, none⟩ = some (.string x) := hcell 0 (by simp)
        have c1 : W1.cell? ⟨b, 1, none⟩ = some (.string y) := hcell 1 (by simp)
        clear hcell how hb
        simp only [List.length_cons, List.length_nil]
        go_wp2_with fail
        refine (HN.out _).mono ?_
        rintro e w2 ⟨rfl, hb⟩
        have HB2 := hid (HB.out.trans (hb.mono HB.out.size))
        clear hb
        go_wp2_with fail
        go_ret
        exact ⟨ret_bool HV.out.symm, HB2.out⟩
      · rw [e1] at HN HV
        go_enter Tryz.func34, Tryz.ntmps34
        go_wp2_with fail
        refine HS.out.mono ?_
        rintro e W1 ⟨v, rfl, how, hb⟩
        obtain ⟨b, cap, rfl, hbl, hcell⟩ := strAt_own how (by simp)
        have HB := hid hb
        have c0 : W1.cell? ⟨b, 0, none⟩ = some (.string x) := hcell 0 (by simp)
        have c1 : W1.cell? ⟨b, 1, none⟩ = some (.string y) := hcell 1 (by simp)
        clear hcell how hb
        simp only [List.length_cons, List.length_nil]
        go_wp2_with fail
        refine (HN.out _).mono ?_
        rintro e w2 ⟨rfl, hb⟩
        have c2 : w2.cell? ⟨b, 1, none⟩ = some (.string y) := (hb.cell (p := ⟨b, 1, none⟩) hbl).trans c1
        have hbl2 : b < w2.heap.size := Nat.lt_of_lt_of_le hbl hb.size
        have HB2 := hid (HB.out.trans (hb.mono HB.out.size))
        clear hb
        go_wp2_with fail
        refine (HR.out _).mono ?_
        rintro e w1 ⟨rfl, hww⟩; subst hww
        go_wp2_with fail
        go_ret
        exact ⟨ret_bool (by rw [HV.out]; simp), HB2.out⟩
    · have HV2 := hid (show keyB s = false by rw [HV.out, short_slash h2 hj]; simp)
      rw [pieces_more h2] at HS
      obtain ⟨n, hn⟩ : ∃ n, n = (pieces (y.extract (j + 1) y.size) 47).length := ⟨_, rfl⟩
      have hn1 : 1 ≤ n := by rw [hn, pieces_len]; omega
      have hn2 : n ≤ 128 := by
        rw [hn, pieces_len]
        have := pieces_count (y.extract (j + 1) y.size) 47
        rw [ext_size _ _ _ (Nat.le_refl _)] at this
        omega
      generalize pieces (y.extract (j + 1) y.size) 47 = r at *
      clear h2 HV
      go_enter Tryz.func34, Tryz.ntmps34
      go_wp2_with fail
      refine HS.out.mono ?_
      rintro e W1 ⟨v, rfl, how, hb⟩
      obtain ⟨b, cap, rfl, hbl, hcell⟩ := strAt_own how (by simp)
      have HB := hid hb
      clear hcell how hb
      simp only [List.length_cons]
      rw [← hn]
      have q1 : ¬ ((n : Int) + 1 + 1 = 1) := by omega
      have q2 : ¬ ((n : Int) + 1 + 1 = 2) := by omega
      go_wp2_with fail
      go_ret
      exact ⟨ret_bool HV2.out.symm, HB.out⟩
theorem rkey_any (s : ByteArray) (w : World) (hs : s.size ≤ maxLen) : Calls Tryz.prog 34 #[.string s] w fun e w' => e = .returned (.bool (keyB s)) ∧ Below w.heap.size w w' := by
  by_cases h : s.size ≤ 127
  · exact rkey_in s w h
  · exact rkey_out s w hs h
end Go.Proofs.YtiddnjjaidiohaaGreatDoor.L
namespace Go.Proofs.YtiddnjjaidiohaaGreatDoor.L
open Go.RowKit
set_option linter.unusedVariables false
set_option maxHeartbeats 4000000 in
theorem qeffect_any (s : ByteArray) (w : World) : Calls Tryz.prog 35 #[.string s] w fun e w' => e = .returned (.bool (effB s)) ∧ w' = w := by
  unfold effB eqS
  rw [lNS, lPN, lNE]
  cases e1 : (s.toList == [78, 111, 83, 99, 104, 101, 100, 117, 108, 101])
  · cases e2 : (s.toList == [80, 114, 101, 102, 101, 114, 78, 111, 83, 99, 104, 101, 100, 117, 108, 101])
    · cases e3 : (s.toList == [78, 111, 69, 120, 101, 99, 117, 116, 101]) <;>
      · go_enter Tryz.func35, Tryz.ntmps35
        go_wp2
        go_ret
        exact ⟨rfl, rfl⟩
    · go_enter Tryz.func35, Tryz.ntmps35
      go_wp2
      go_ret
      exact ⟨rfl, rfl⟩
  · go_enter Tryz.func35, Tryz.ntmps35
    go_wp2
    go_ret
    exact ⟨rfl, rfl⟩
end Go.Proofs.YtiddnjjaidiohaaGreatDoor.L
namespace Go.Proofs.YtiddnjjaidiohaaGreatDoor.L.Qn
open Go.RowKit Go.Shelf
set_option linter.unusedVariables false
/-- What the j-th byte of a name must be. -/
def byteB (s : ByteArray) (j : Nat) : Prop := okB (at' s j) = true ∧ (j = 0 → letB (at' s j) = true) ∧ (j + 1 = s.size → (letB (at' s j) || digB (at' s j)) = true)
theorem name_all (s : ByteArray) (h0 : 1 ≤ s.size) (h1 : s.size ≤ 32) (h : ∀ j, j < s.size → byteB s j) : nameB s = true := by
  rw [name_good s h0 h1 (fun j hj => (h j hj).1), (h 0 (by omega)).2.1 rfl, (h (s.size - 1) (by omega)).2.2 (by omega)]
  rfl
theorem name_none (s : ByteArray) (k : Nat) (hk : k < s.size) (h : ¬ byteB s k) : nameB s = false := by
  cases e : nameB s
  · rfl
  · exfalso
    apply h
    unfold nameB at e
    simp only [Bool.and_eq_true, decide_eq_true_eq] at e
    refine ⟨e.1.1.2.2 k hk, fun h0 => ?_, fun hl => ?_⟩
    · rw [h0]; exact e.1.2
    · rw [show k = s.size - 1 by omega]; exact e.2
set_option maxHeartbeats 4000000 in
theorem rname_out (s : ByteArray) (w : World) (hs : s.size ≤ maxLen) (h : s.size = 0 ∨ 32 < s.size) : Calls Tryz.prog 58 #[.string s] w fun e w' => e = .returned (.bool (nameB s)) ∧ w' = w := by
  unfold maxLen at hs
  have HN := hid (show nameB s = false by unfold nameB; rw [decide_eq_false (by omega)]; rfl)
  rcases h with h | h
  · go_enter Tryz.func58, Tryz.ntmps58
    go_wp2
    go_ret
    exact ⟨ret_bool HN.out.symm, rfl⟩
  · have h' : ¬ (s.size : Int) < 1 := by omega
    go_enter Tryz.func58, Tryz.ntmps58
    go_wp2
    go_ret
    exact ⟨ret_bool HN.out.symm, rfl⟩
set_option maxHeartbeats 8000000 in
theorem rname_in (s : ByteArray) (w : World) (h0 : 1 ≤ s.size) (h1 : s.size ≤ 32) : Calls Tryz.prog 58 #[.string s] w fun e w' => e = .returned (.bool (nameB s)) ∧ w' = w := by
  have hz : ¬ (s.size : Int) < 1 := by omega
  have h32 : ¬ (32 : Int) < (s.size : Int) := by omega
  go_enter Tryz.func58, Tryz.ntmps58
  go_wp2
  go_loop [3] (fun i => ∃ k : Nat, k ≤ s.size ∧ i = .int .i64 k ∧ Hid (∀ j, j < k → byteB s j)) (fun i => s.size - (intOf i).toNat)
  case atStart => exact ⟨0, Nat.zero_le _, rfl, hid (fun j hj => by omega)⟩
  case round =>
    obtain ⟨k, hk, rfl, HO⟩ := hrel
    by_cases hlt : k < s.size
    · obtain ⟨c, hc⟩ : ∃ c : Int, ((s[k]'hlt).toNat : Int) = c := ⟨_, rfl⟩
      have HC := hid ((at_get s k hlt).trans hc)
      have cl : c < 45 ∨ c = 45 ∨ c = 46 ∨ c = 47 ∨ (48 ≤ c ∧ c ≤ 57) ∨ (58 ≤ c ∧ c ≤ 96) ∨ (97 ≤ c ∧ c ≤ 122) ∨ 123 ≤ c := by omega
      have z : ((k : Int) == 0) = true ∧ k = 0 ∨ ((k : Int) == 0) = false ∧ k ≠ 0 := by
        by_cases h : k = 0
        · exact Or.inl ⟨by simpa using h, h⟩
        · exact Or.inr ⟨by simpa using h, h⟩
      have y : ((k : Int) == (s.size : Int) - 1) = true ∧ k + 1 = s.size ∨ ((k : Int) == (s.size : Int) - 1) = false ∧ k + 1 ≠ s.size := by
        by_cases h : k + 1 = s.size
        · exact Or.inl ⟨by rw [beq_iff_eq]; omega, h⟩
        · exact Or.inr ⟨by rw [beq_eq_false_iff_ne]; omega, h⟩
      have K := hid (show ∀ (b : Bool), (b = true ↔ byteB s k) → (b = true → ∀ j, j < k + 1 → byteB s j) ∧ (b = false → nameB s = false) from fun b hb => ⟨fun h j hj => by
          by_cases e : j < k
          · exact HO.out j e
          · obtain rfl : j = k := by omega
            exact hb.1 h, fun h => name_none s k hlt (fun n => by rw [hb.2 n] at h; cases h)⟩)
      rcases cl with cl | cl | cl | cl | ⟨cl, cl'⟩ | ⟨cl, cl'⟩ | ⟨cl, cl'⟩ | cl <;> rcases z with ⟨z1, z2⟩ | ⟨z1, z2⟩ <;> rcases y with ⟨y1, y2⟩ | ⟨y1, y2⟩
      all_goals (have Z := hid z2; have Y := hid y2; clear z2 y2)
      all_goals (try subst cl)
      all_goals go_wp2
      all_goals first
        | (go_ret
           refine ⟨ret_bool ((K.out false ?_).2 rfl).symm, rfl⟩
           have h1 := Z.out
           have h2 := Y.out
           unfold byteB
           rw [HC.out]
           simp [okB, letB, digB, h1, h2]
           try (first | omega | (rename_i hh; simp at hh; omega)))
        | (refine ⟨⟨k + 1, by omega, by go_num, hid ((K.out true ?_).1 rfl)⟩, by simp [intOf]; omega⟩
           have h1 := Z.out
           have h2 := Y.out
           unfold byteB
           rw [HC.out]
           simp [okB, letB, digB, h1, h2]
           try (first | omega | (rename_i hh; simp at hh; omega)))
    · obtain rfl : k = s.size := by omega
      have HN := hid (name_all s h0 h1 HO.out)
      go_wp2
      go_ret
      exact ⟨ret_bool HN.out.symm, rfl⟩
theorem rname_any (s : ByteArray) (w : World) (hs : s.size ≤ maxLen) : Calls Tryz.prog 58 #[.string s] w fun e w' => e = .returned (.bool (nameB s)) ∧ w' = w := by
  by_cases h : s.size = 0 ∨ 32 < s.size
  · exact rname_out s w hs h
  · exact rname_in s w (by omega) (by omega)
end Go.Proofs.YtiddnjjaidiohaaGreatDoor.L.Qn
namespace Go.Proofs.YtiddnjjaidiohaaGreatDoor.L
open Go.RowKit Go.Extern.Stop Go.Stop Go.Extern
set_option linter.unusedVariables false
/-- The error is the fault in the block N, or that within parts. -/
inductive ErN (N : Nat) : Value → Prop
  | flt : ErN N (.iface 48 (.pointer (some ⟨N, 0, none⟩)))
  | ins (t : Int) (ev : Value) : ErN N ev → ErN N (.iface 111 (.agg #[.int .i64 t, ev]))
theorem ErN.ne {N : Nat} {ev : Value} (h : ErN N ev) : ∃ u x, ev = .iface u x := by
  cases h with
  | flt => exact ⟨_, _, rfl⟩
  | ins t ev => exact ⟨_, _, rfl⟩
theorem as_nil (t : Value) (w : World) :
    Calls Tryz.prog 26 #[.nilIface, t] w fun e w' => e = .returned (.bool false) ∧ w' = w := by
  go_enter Tryz.func26, Tryz.ntmps26
  go_wp2
  go_ret
  exact ⟨rfl, rfl⟩
namespace As
theorem valueOfP (t : Addr) (w : World) : (ReflectliteValue.unpack (.iface 73 (.pointer (some t)))).run Tryz.prog w
    = .ok (.agg #[.pointer (some ⟨4, 73, none⟩), .pointer (some ⟨w.heap.size, 0, none⟩), .int .u64 150]) (w.alloc (.cells #[.pointer (some t)] 73)) := by kernel_rfl
theorem typeP (a : Addr) (w : World) : (ReflectliteValue.methodAny (ReflectliteValue.valueError "reflectlite.Value.Type" 0) (fun t _ _ _ => ReflectliteType.toType t) #[.agg #[.pointer (some ⟨4, 73, none⟩), .pointer (some a), .int .u64 150]]).run Tryz.prog w
    = .ok (.iface 115 (.agg #[.pointer (some ⟨4, 73, none⟩)])) w := by kernel_rfl
theorem methodKind (h : Value) (w : World) : (Go.method 301 115 (.agg #[h]) "Kind").run Tryz.prog w = .ok (140, h) w := by kernel_rfl
theorem kindP (w : World) : ((ReflectliteType.abiMethod fun t => (fun a : Nat => Value.int IntKind.u8 (a : Int)) <$> Rtype.kind t) #[.pointer (some ⟨4, 73, none⟩)]).run Tryz.prog w = .ok (.int .u8 22) w := by kernel_rfl
theorem kindE (w : World) : ((ReflectliteType.abiMethod fun t => (fun a : Nat => Value.int IntKind.u8 (a : Int)) <$> Rtype.kind t) #[.pointer (some ⟨4, 48, none⟩)]).run Tryz.prog w = .ok (.int .u8 22) w := by kernel_rfl
theorem rlm (z : Sem Value) (f : TypeId → Addr → Nat → Nat → Sem Value) (v : Value) :
    ReflectliteValue.method z f #[v] = (do match ← ReflectliteValue.parts v with | none => z | some (t, a, fl) => f t a fl (fl % 32)) := rfl
theorem partsP (a : Addr) (w : World) : (ReflectliteValue.parts (.agg #[.pointer (some ⟨4, 73, none⟩), .pointer (some a), .int .u64 150])).run Tryz.prog w = .ok (some (73, a, 150)) w := by kernel_rfl
theorem isNilP (a p : Addr) (W : World) (ha : W.cell? a = some (.pointer (some p))) :
    (ReflectliteValue.method (ReflectliteValue.valueError "reflectlite.Value.IsNil" 0) ReflectliteValue.isNil #[.agg #[.pointer (some ⟨4, 73, none⟩), .pointer (some a), .int .u64 150]]).run Tryz.prog W = .ok (.bool false) W := by
  rw [rlm]
  simp only [Sem.run_bind, partsP, Result.andThen]
  simp [ReflectliteValue.isNil, loadVar, isAgg, underlying, Tryz.underlying73, ha, Result.andThen]
theorem methodElem (h : Value) (w : World) : (Go.method 301 115 (.agg #[h]) "Elem").run Tryz.prog w = .ok (154, .agg #[h]) w := by kernel_rfl
theorem methodImplements (h : Value) (w : World) : (Go.method 301 115 (.agg #[h]) "Implements").run Tryz.prog w = .ok (155, .agg #[h]) w := by kernel_rfl
theorem methodAssignableTo (h : Value) (w : World) : (Go.method 301 115 (.agg #[h]) "AssignableTo").run Tryz.prog w = .ok (152, .agg #[h]) w := by kernel_rfl
theorem methodUnwrap (h : Value) (w : World) : (Go.method 301 111 h "Unwrap").run Tryz.prog w = .ok (150, h) w := by kernel_rfl
theorem elemP (w : World) : (ReflectliteType.method ReflectliteType.elem #[.agg #[.pointer (some ⟨4, 73, none⟩)]]).run Tryz.prog w = .ok (.iface 115 (.agg #[.pointer (some ⟨4, 48, none⟩)])) w := by kernel_rfl
theorem implementsE (w : World) : (ReflectliteType.relation "Implements" ReflectliteType.implements_ #[.agg #[.pointer (some ⟨4, 48, none⟩)], .iface 115 (.agg #[.pointer (some ⟨4, 37, none⟩)])]).run Tryz.prog w = .ok (.bool true) w := by kernel_rfl
theorem typeOfE (v : Value) (w : World) : (ReflectliteType.typeOf #[.iface 48 v]).run Tryz.prog w = .ok (.iface 115 (.agg #[.pointer (some ⟨4, 48, none⟩)])) w := by kernel_rfl
theorem typeOfI (v : Value) (w : World) : (ReflectliteType.typeOf #[.iface 111 v]).run Tryz.prog w = .ok (.iface 115 (.agg #[.pointer (some ⟨4, 111, none⟩)])) w := by kernel_rfl
theorem assignableE (w : World) : (ReflectliteType.relation "AssignableTo" ReflectliteType.assignableTo #[.agg #[.pointer (some ⟨4, 48, none⟩)], .iface 115 (.agg #[.pointer (some ⟨4, 48, none⟩)])]).run Tryz.prog w = .ok (.bool true) w := by kernel_rfl
theorem assignableI (w : World) : (ReflectliteType.relation "AssignableTo" ReflectliteType.assignableTo #[.agg #[.pointer (some ⟨4, 111, none⟩)], .iface 115 (.agg #[.pointer (some ⟨4, 48, none⟩)])]).run Tryz.prog w = .ok (.bool false) w := by kernel_rfl
theorem valueOfE (e : Addr) (w : World) : (ReflectliteValue.unpack (.iface 48 (.pointer (some e)))).run Tryz.prog w
    = .ok (.agg #[.pointer (some ⟨4, 48, none⟩), .pointer (some ⟨w.heap.size, 0, none⟩), .int .u64 150]) (w.alloc (.cells #[.pointer (some e)] 48)) := by kernel_rfl
theorem elemOfP (w : World) : (Rtype.elem? 73).run Tryz.prog w = .ok (some 48) w := by kernel_rfl
theorem mkE (p : Addr) (w : World) : (ReflectliteValue.mk 48 p ReflectliteValue.flagAddr).run Tryz.prog w = .ok (.agg #[.pointer (some ⟨4, 48, none⟩), .pointer (some p), .int .u64 406]) w := by kernel_rfl
theorem elemVP (a p : Addr) (W : World) (ha : W.cell? a = some (.pointer (some p))) :
    (ReflectliteValue.method (ReflectliteValue.valueError "reflectlite.Value.Elem" 0) ReflectliteValue.elem #[.agg #[.pointer (some ⟨4, 73, none⟩), .pointer (some a), .int .u64 150]]).run Tryz.prog W
      = .ok (.agg #[.pointer (some ⟨4, 48, none⟩), .pointer (some p), .int .u64 406]) W := by
  rw [rlm]
  simp only [Sem.run_bind, partsP, Result.andThen]
  simp [ReflectliteValue.elem, loadVar, isAgg, underlying, Tryz.underlying73, ha, Result.andThen, elemOfP, mkE]
theorem partsEa (a : Addr) (w : World) : (ReflectliteValue.parts (.agg #[.pointer (some ⟨4, 48, none⟩), .pointer (some a), .int .u64 406])).run Tryz.prog w = .ok (some (48, a, 406)) w := by kernel_rfl
theorem partsE (a : Addr) (w : World) : (ReflectliteValue.parts (.agg #[.pointer (some ⟨4, 48, none⟩), .pointer (some a), .int .u64 150])).run Tryz.prog w = .ok (some (48, a, 150)) w := by kernel_rfl
theorem directE (w : World) : (Rtype.directlyAssignable 48 48).run Tryz.prog w = .ok true w := by kernel_rfl
theorem sizeE (w : World) : (sizeOf 48).run Tryz.prog w = .ok 1 w := by kernel_rfl
theorem setE (ta b e : Addr) (old : Value) (W : World) (hb : W.cell? b = some (.pointer (some e))) (ht : W.cell? ta = some old) (hf : W.frozen? ta = false) :
    (ReflectliteValue.set #[.agg #[.pointer (some ⟨4, 48, none⟩), .pointer (some ta), .int .u64 406], .agg #[.pointer (some ⟨4, 48, none⟩), .pointer (some b), .int .u64 150]]).run Tryz.prog W
      = .ok (.tuple #[]) (W.setCell ta (.pointer (some e))) := by
  have e1 : ∀ v x : Value, ReflectliteValue.set #[v, x] = bind (ReflectliteValue.parts v) (fun p => bind (ReflectliteValue.parts x) _) := fun v x => rfl
  rw [e1]
  simp only [Sem.run_bind, partsEa, partsE, Result.andThen]
  simp [ReflectliteValue.flagAddr, loadVar, isAgg, underlying, Tryz.underlying48, hb, Result.andThen, directE, storeVar, Value.cells, storeCells, Addr.add]
  rw [run_store Tryz.prog W ta _ _ (by rfl)]
  simp [ht, hf]
end As
end Go.Proofs.YtiddnjjaidiohaaGreatDoor.L
namespace Go.Proofs.YtiddnjjaidiohaaGreatDoor.L
open Go.RowKit
set_option linter.unusedVariables false
/-- Only the block g of what stood may be changed. -/
structure But (g : Nat) (w w' : World) : Prop where
  os : w'.os = w.os
  tape : w'.tape = w.tape
  output : w'.output = w.output
  size : w.heap.size ≤ w'.heap.size
  block : ∀ b, b < w.heap.size → b ≠ g → w'.heap[b]? = w.heap[b]?
theorem But.refl (g : Nat) (w : World) : But g w w := ⟨rfl, rfl, rfl, Nat.le_refl _, fun _ _ _ => rfl⟩
theorem But.of {g : Nat} {w w' : World} (h : Below w.heap.size w w') : But g w w' := ⟨h.os, h.tape, h.output, h.size, fun b hb _ => h.block b hb⟩
theorem But.trans {g : Nat} {a b c : World} (h1 : But g a b) (h2 : But g b c) : But g a c := ⟨h2.os.trans h1.os, h2.tape.trans h1.tape, h2.output.trans h1.output, Nat.le_trans h1.size h2.size, fun k hk hg => (h2.block k (Nat.lt_of_lt_of_le hk h1.size) hg).trans (h1.block k hk hg)⟩
end Go.Proofs.YtiddnjjaidiohaaGreatDoor.L
