import Derived.Test.YtodamoblnlcodaaDoorOk
namespace Go.Proofs.YtodamoblnlcodaaDoor.L
open Go.RowKit
set_option linter.unusedVariables false
/-- The place of the first label with this key, or -1. -/
def fd (l : List Lb) (s : ByteArray) : Nat → Nat → Int
  | 0, _ => -1
  | n + 1, k => if eqS (ky l k) s = true then (k : Int) else fd l s n (k + 1)
def findN (l : List Lb) (s : ByteArray) : Int := fd l s l.length 0
theorem fd_step (l : List Lb) (s : ByteArray) (len k : Nat) (h : k < len) : fd l s (len - k) k = if eqS (ky l k) s = true then (k : Int) else fd l s (len - (k + 1)) (k + 1) := by
  obtain ⟨n, hn⟩ : ∃ n, len - k = n + 1 := ⟨len - k - 1, by omega⟩
  rw [hn, show len - (k + 1) = n by omega]
  rfl
theorem fd_gt (l : List Lb) (s : ByteArray) (n k : Nat) : (fd l s n k = -1 ∧ gt l s n k = (ByteArray.empty, false) ∧ ∀ i, k ≤ i → i < k + n → eqS (ky l i) s = false) ∨ ∃ j : Nat, fd l s n k = j ∧ k ≤ j ∧ j < k + n ∧ gt l s n k = (vl l j, true) ∧ eqS (ky l j) s = true ∧ ∀ i, k ≤ i → i < j → eqS (ky l i) s = false := by
  induction n generalizing k with
  | zero => exact Or.inl ⟨rfl, rfl, fun i h1 h2 => by omega⟩
  | succ n ih =>
    unfold fd gt
    cases e : eqS (ky l k) s
    · simp only [Bool.false_eq_true, if_false]
      rcases ih (k + 1) with ⟨h1, h2, h3⟩ | ⟨j, h1, h2, h3, h4, h5, h6⟩
      · refine Or.inl ⟨h1, h2, fun i hi hj => ?_⟩
        by_cases ei : i = k
        · rw [ei]; exact e
        · exact h3 i (by omega) (by omega)
      · refine Or.inr ⟨j, h1, by omega, by omega, h4, h5, fun i hi hj => ?_⟩
        by_cases ei : i = k
        · rw [ei]; exact e
        · exact h6 i (by omega) hj
    · simp only [if_true]
      exact Or.inr ⟨k, rfl, Nat.le_refl _, by omega, rfl, e, fun i h1 h2 => by omega⟩
theorem find_cases (l : List Lb) (s : ByteArray) : (findN l s = -1 ∧ getN l s = (ByteArray.empty, false) ∧ ∀ i, i < l.length → ky l i ≠ s) ∨ ∃ j : Nat, j < l.length ∧ findN l s = j ∧ getN l s = (vl l j, true) ∧ ky l j = s ∧ ∀ i, i < j → ky l i ≠ s := by
  rcases fd_gt l s l.length 0 with ⟨h1, h2, h3⟩ | ⟨j, h1, h2, h3, h4, h5, h6⟩
  · exact Or.inl ⟨h1, h2, fun i hi => eqS_ne.1 (h3 i (Nat.zero_le _) (by omega))⟩
  · exact Or.inr ⟨j, by omega, h1, h4, eqS_iff.1 h5, fun i hi => eqS_ne.1 (h6 i (Nat.zero_le _) hi)⟩
theorem find_range (l : List Lb) (s : ByteArray) : -1 ≤ findN l s ∧ findN l s < (l.length : Int) := by
  rcases find_cases l s with ⟨h, _⟩ | ⟨j, hj, h, _⟩ <;> rw [h] <;> omega
theorem find_no {l : List Lb} {s : ByteArray} (h : (getN l s).2 = false) : findN l s = -1 := by
  rcases find_cases l s with ⟨h1, _⟩ | ⟨j, hj, h1, h2, _⟩
  · exact h1
  · rw [h2] at h; cases h
theorem find_yes {l : List Lb} {s : ByteArray} (h : (getN l s).2 = true) : ∃ j : Nat, j < l.length ∧ findN l s = j ∧ vl l j = (getN l s).1 := by
  rcases find_cases l s with ⟨h1, h2, _⟩ | ⟨j, hj, h1, h2, _⟩
  · rw [h2] at h; cases h
  · exact ⟨j, hj, h1, by rw [h2]⟩
theorem take_ky (l : List Lb) (k j : Nat) (h : j < k) : ky (l.take k) j = ky l j ∧ vl (l.take k) j = vl l j := by
  unfold ky vl
  simp [h]
theorem find_first_no (l : List Lb) (i : Nat) (hi : i < l.length) (h : (getN (l.take i) (ky l i)).2 = false) : findN l (ky l i) = i := by
  obtain ⟨_, hn⟩ := get_no h
  rcases find_cases l (ky l i) with ⟨_, _, h3⟩ | ⟨j, hj, h1, _, h4, h5⟩
  · exact absurd rfl (h3 i hi)
  · rw [h1]
    have a : ¬ i < j := fun c => h5 i c rfl
    have b : ¬ j < i := fun c => by
      have m := kv_mem (l.take i) j (by rw [List.length_take]; omega)
      have := hn _ m
      rw [(take_ky l i j c).1] at this
      exact this h4
    omega
theorem find_first_yes (l : List Lb) (i : Nat) (hi : i < l.length) (h : (getN (l.take i) (ky l i)).2 = true) : ∃ j : Nat, j < i ∧ findN l (ky l i) = j := by
  obtain ⟨_, hm⟩ := get_yes h
  obtain ⟨m, hm1, hm2⟩ := mem_kv hm
  rw [List.length_take] at hm1
  have e := congrArg Prod.fst hm2
  simp only [(take_ky l i m (by omega)).1] at e
  rcases find_cases l (ky l i) with ⟨_, _, h3⟩ | ⟨j, hj, h1, _, h4, h5⟩
  · exact absurd rfl (h3 i hi)
  · have a : ¬ m < j := fun c => h5 m c e.symm
    exact ⟨j, by omega, h1⟩
set_option maxHeartbeats 4000000 in
theorem rfind_any (v : Value) (l : List Lb) (s : ByteArray) (w : World) (hi : Items w v l) (hl : l.length ≤ maxLen) : Calls Tryd.prog 14 #[v, .string s] w fun e w' => e = .returned (.int .i64 (findN l s)) ∧ w' = w := by
  obtain ⟨a, cap, rfl, hi⟩ := hi
  have HR := hid (show findN l s = fd l s (l.length - 0) 0 from rfl)
  obtain ⟨len, hlen⟩ : ∃ n, n = l.length := ⟨_, rfl⟩
  rw [← hlen] at hl hi HR ⊢
  unfold maxLen at hl
  clear hlen
  go_enter Tryd.func14, Tryd.ntmps14
  go_wp2
  go_loop [5] (fun i => ∃ k : Nat, k ≤ len ∧ i = .int .i64 k ∧ Hid (findN l s = fd l s (len - k) k)) (fun i => len - (intOf i).toNat)
  case atStart => exact ⟨0, Nat.zero_le _, rfl, HR⟩
  case round =>
    obtain ⟨k, hk, rfl, HK⟩ := hrel
    by_cases hlt : k < len
    · rcases hi with h0 | ⟨b, off, rfl, hbl, hc⟩
      · omega
      obtain ⟨c0, c1⟩ := hc k hlt
      have st := HK.out.trans (fd_step l s len k hlt)
      unfold eqS at st
      generalize ky l k = s' at *
      generalize vl l k = n at *
      clear hc
      cases e1 : (s'.toList == s.toList)
      · rw [e1] at st
        simp only [Bool.false_eq_true, if_false] at st
        have HF := hid st
        clear st
        go_wp2
        exact ⟨⟨k + 1, by omega, by go_num, HF⟩, by simp [intOf]; omega⟩
      · rw [e1] at st
        simp only [if_true] at st
        have HF := hid st
        clear st
        go_wp2
        go_ret
        exact ⟨by rw [HF.out]; rfl, rfl⟩
    · obtain rfl : k = len := by omega
      have HF := hid (show findN l s = -1 by rw [HK.out, Nat.sub_self]; rfl)
      go_wp2
      go_ret
      exact ⟨by rw [HF.out]; rfl, rfl⟩
end Go.Proofs.YtodamoblnlcodaaDoor.L
