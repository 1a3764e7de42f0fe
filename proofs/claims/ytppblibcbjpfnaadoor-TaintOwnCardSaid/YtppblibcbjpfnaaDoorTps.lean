import Derived.Test.YtppblibcbjpfnaaDoorTck
import Derived.Laws.ResultCell
namespace Go.Proofs.YtppblibcbjpfnaaDoor.L
open Go.RowKit
set_option linter.unusedVariables false
set_option maxHeartbeats 4000000 in
theorem lixs_any (s : ByteArray) (w : World) (hs : s.size ≤ maxLen) : Calls Tryd.prog 68 #[.string s, .int .u8 58] w fun e w' => e = .returned (.int .i64 (lst s 58)) ∧ w' = w := by
  unfold maxLen at hs
  go_enter Tryd.func68, Tryd.ntmps68
  go_wp2
  go_loop [5] (fun i => ∃ k : Nat, k ≤ s.size ∧ i = .int .i64 ((k : Int) - 1) ∧ Hid (∀ j, k ≤ j → j < s.size → at' s j ≠ 58)) (fun i => (intOf i + 1).toNat)
  case atStart => exact ⟨s.size, Nat.le_refl _, rfl, hid (fun j hj => by omega)⟩
  case round =>
    obtain ⟨k, hk, rfl, HO⟩ := hrel
    by_cases h0 : k = 0
    · subst h0
      have HN := hid (show lst s 58 = -1 from lst_no (fun j hj => HO.out j (Nat.zero_le _) hj))
      go_wp2
      go_ret
      exact ⟨by rw [HN.out]; rfl, rfl⟩
    · obtain ⟨i, rfl⟩ : ∃ i, k = i + 1 := ⟨k - 1, by omega⟩
      have g0 : ((i : Int) + 1 - 1) = i := by omega
      have hlt : i < s.size := by omega
      obtain ⟨c, hc⟩ : ∃ c : Int, ((s[i]'hlt).toNat : Int) = c := ⟨_, rfl⟩
      have HC := hid ((at_get s i hlt).trans hc)
      by_cases e : c = 58
      · subst e
        have HN := hid (show lst s 58 = i from lst_at hlt HC.out (fun j h1 h2 => HO.out j (by omega) h2))
        clear HO HC
        go_wp2
        go_ret
        exact ⟨by rw [HN.out]; rfl, rfl⟩
      · have e' : (c == 58) = false := by simpa using e
        have HO2 := hid (show ∀ j, i ≤ j → j < s.size → at' s j ≠ 58 from fun j h1 h2 => by
          by_cases hj : j = i
          · subst hj; rw [HC.out]; exact e
          · exact HO.out j (by omega) h2)
        clear HO HC e
        go_wp2
        exact ⟨⟨i, by omega, by go_num, HO2⟩, by simp [intOf]⟩
set_option maxHeartbeats 4000000 in
theorem lix_any (s : ByteArray) (w : World) (hs : s.size ≤ maxLen) : Calls Tryd.prog 56 #[.string s, .int .u8 58] w fun e w' => e = .returned (.int .i64 (lst s 58)) ∧ w' = w := by
  have HI := hid (fun W => lixs_any s W hs)
  generalize lst s 58 = i at *
  go_enter Tryd.func56, Tryd.ntmps56
  go_wp2_with fail
  refine (HI.out _).mono ?_
  rintro e w1 ⟨rfl, hww⟩; subst hww
  go_wp2_with fail
  go_ret
  exact ⟨rfl, rfl⟩
set_option maxHeartbeats 4000000 in
theorem cutl_no (s : ByteArray) (w : World) (hs : s.size ≤ maxLen) (h : lst s 58 = -1) : Calls Tryd.prog 37 #[.string s] w fun e w' => e = .returned (.tuple #[.string s, .string ByteArray.empty, .bool false]) ∧ w' = w := by
  have HI := hid (fun W => lix_any s W hs)
  rw [h] at HI
  go_enter Tryd.func37, Tryd.ntmps37
  go_wp2_with fail
  refine (HI.out _).mono ?_
  rintro e w1 ⟨rfl, hww⟩; subst hww
  go_wp2_with fail
  go_ret3
  exact ⟨rfl, rfl⟩
set_option maxHeartbeats 4000000 in
theorem cutl_yes (s : ByteArray) (i : Nat) (w : World) (hs : s.size ≤ maxLen) (h : lst s 58 = i) (hi : i < s.size) : Calls Tryd.prog 37 #[.string s] w fun e w' => e = .returned (.tuple #[.string (s.extract 0 i), .string (s.extract (i + 1) s.size), .bool true]) ∧ ∃ n, w' = w.drewN n := by
  have HI := hid (fun W => lix_any s W hs)
  rw [h] at HI
  clear h
  unfold maxLen at hs
  go_enter Tryd.func37, Tryd.ntmps37
  go_wp2_with fail
  refine (HI.out _).mono ?_
  rintro e w1 ⟨rfl, hww⟩; subst hww
  go_wp2_with fail
  go_quiet (fail)
  go_wp2_with fail
  go_ret3
  exact ⟨rfl, _, rfl⟩
/-- The text of a taint. -/
def tText (t : Tn) : ByteArray := (if emB t.2.1 = true then t.1 else t.1 ++ (⟨#[61]⟩ ++ t.2.1)) ++ ⟨#[58]⟩ ++ t.2.2
theorem tE_ok {t : Tn} (h : tE t = 0) : keyB t.1 = true ∧ valB t.2.1 = true ∧ effB t.2.2 = true := by
  unfold tE at h
  split at h
  · cases h
  · split at h
    · cases h
    · split at h
      · cases h
      · rename_i a b c
        exact ⟨by simpa using a, by simpa using b, by simpa using c⟩
theorem eff_size {s : ByteArray} (h : effB s = true) : s.size ≤ 16 := by
  unfold effB at h
  rw [Bool.or_eq_true, Bool.or_eq_true, eqS_iff, eqS_iff, eqS_iff] at h
  rcases h with (h | h) | h <;> (subst h; decide)
theorem tE_cases (t : Tn) : tE t = 0 ∨ tE t = 41 ∨ tE t = 42 ∨ tE t = 40 := by
  unfold tE
  split
  · exact Or.inr (Or.inl rfl)
  · split
    · exact Or.inr (Or.inr (Or.inl rfl))
    · split
      · exact Or.inr (Or.inr (Or.inr rfl))
      · exact Or.inl rfl
set_option maxHeartbeats 4000000 in
theorem text_bad (t : Tn) (w : World) (hk : t.1.size ≤ maxLen) (hv : t.2.1.size ≤ maxLen) (h : tE t ≠ 0) : Calls Tryd.prog 8 #[tv t] w fun e w' => e = .returned (.tuple #[.string ByteArray.empty, .int .i64 (tE t)]) ∧ Below w.heap.size w w' := by
  have HC := hid (fun W => ctaint_any t W hk hv)
  generalize tE t = er at *
  have h' : (er != 0) = true := by simpa using h
  clear h
  obtain ⟨k, v, f⟩ := t
  simp only [tv] at *
  go_enter Tryd.func8, Tryd.ntmps8
  go_wp2_with fail
  refine (HC.out _).mono ?_
  rintro e w1 ⟨rfl, hb⟩
  have HB := hid ((belowA w _).trans (hb.mono (belowA w _).size))
  clear hb
  go_wp2_with fail
  go_ret2
  exact ⟨rfl, HB.out⟩
set_option maxHeartbeats 4000000 in
theorem text_ok (t : Tn) (w : World) (h : tE t = 0) : Calls Tryd.prog 8 #[tv t] w fun e w' => e = .returned (.tuple #[.string (tText t), .int .i64 0]) ∧ Below w.heap.size w w' := by
  obtain ⟨a1, a2, a3⟩ := tE_ok h
  have z1 := key_size a1
  have z2 := val_size a2
  have z3 := eff_size a3
  have HC := hid (fun W => ctaint_any t W (by unfold maxLen; omega) (by unfold maxLen; omega))
  rw [h] at HC
  obtain ⟨k, v, f⟩ := t
  simp only [tv] at *
  clear h a1 a2 a3
  by_cases e1 : emB v = true
  · rw [show tText (k, v, f) = k ++ ⟨#[58]⟩ ++ f from by unfold tText; rw [if_pos e1]]
    have e2 : v.toList.isEmpty = true := e1
    clear e1
    go_enter Tryd.func8, Tryd.ntmps8
    go_wp2_with fail
    refine (HC.out _).mono ?_
    rintro e w1 ⟨rfl, hb⟩
    have c0 : w1.cell? ⟨w.heap.size, 0, none⟩ = some (.string k) := (hb.cell (p := ⟨w.heap.size, 0, none⟩) (by simp)).trans (three w _ _ _ _).1
    have c1 : w1.cell? ⟨w.heap.size, 1, none⟩ = some (.string v) := (hb.cell (p := ⟨w.heap.size, 1, none⟩) (by simp)).trans (three w _ _ _ _).2.1
    have c2 : w1.cell? ⟨w.heap.size, 2, none⟩ = some (.string f) := (hb.cell (p := ⟨w.heap.size, 2, none⟩) (by simp)).trans (three w _ _ _ _).2.2
    have HB := hid ((belowA w _).trans (hb.mono (belowA w _).size))
    clear hb
    go_wp2_with fail
    go_ret2
    exact ⟨rfl, HB.out⟩
  · rw [show tText (k, v, f) = k ++ (⟨#[61]⟩ ++ v) ++ ⟨#[58]⟩ ++ f from by unfold tText; rw [if_neg e1]]
    have e2 : v.toList.isEmpty = false := Bool.eq_false_iff.2 e1
    clear e1
    go_enter Tryd.func8, Tryd.ntmps8
    go_wp2_with fail
    refine (HC.out _).mono ?_
    rintro e w1 ⟨rfl, hb⟩
    have c0 : w1.cell? ⟨w.heap.size, 0, none⟩ = some (.string k) := (hb.cell (p := ⟨w.heap.size, 0, none⟩) (by simp)).trans (three w _ _ _ _).1
    have c1 : w1.cell? ⟨w.heap.size, 1, none⟩ = some (.string v) := (hb.cell (p := ⟨w.heap.size, 1, none⟩) (by simp)).trans (three w _ _ _ _).2.1
    have c2 : w1.cell? ⟨w.heap.size, 2, none⟩ = some (.string f) := (hb.cell (p := ⟨w.heap.size, 2, none⟩) (by simp)).trans (three w _ _ _ _).2.2
    have HB := hid ((belowA w _).trans (hb.mono (belowA w _).size))
    clear hb
    go_wp2_with fail
    go_ret2
    exact ⟨rfl, HB.out⟩
end Go.Proofs.YtppblibcbjpfnaaDoor.L
