import Derived.Test.YtcldglilhhhdoaaGreatDoorXH
namespace Go.Proofs.YtcldglilhhhdoaaGreatDoor.L
open Go.RowKit Go.Shelf
set_option linter.unusedVariables false
theorem txS_in (s : ByteArray) (f : Nat) : ∀ (n k : Nat) (l : List UInt8), s.size - k = n → k ≤ s.size → ∀ l' e, txS s f k l = .ok l' e → k < e ∧ e ≤ s.size := by
  intro n
  induction n using Nat.strongRecOn with
  | ind n ih =>
    intro k l hn hk l' e h
    by_cases hlt : k < s.size
    · by_cases c : bt s k = 34
      · rw [txS_q s f k l hlt c] at h
        split at h
        · exact TR.noConfusion h
        · obtain ⟨_, rfl⟩ := TR.ok.inj h
          omega
      · by_cases d : bt s k = 92
        · by_cases e0 : (esc3 s k).2 = 0
          · rw [txS_e0 s f k l hlt d e0] at h
            exact TR.noConfusion h
          · rw [txS_e s f k l hlt d e0] at h
            obtain ⟨g1, g2⟩ := esc_in e0
            have := ih (s.size - (k + (esc3 s k).2)) (by omega) (k + (esc3 s k).2) _ rfl g1 l' e h
            omega
        · by_cases e0 : iv (bt s k) < 32
          · rw [txS_low s f k l hlt c d e0] at h
            exact TR.noConfusion h
          · rw [txS_go s f k l hlt c d e0] at h
            have := ih (s.size - (k + 1)) (by omega) (k + 1) _ rfl (by omega) l' e h
            omega
    · rw [txS_end s f k l hlt] at h
      exact TR.noConfusion h
theorem mk2_size {s : ByteArray} {k : Nat} (h : mk2 (bt s k) (bt s (k + 1)) = true) : k + 2 ≤ s.size := by
  have : bt s (k + 1) ≠ 0 := by
    intro e
    rw [e] at h
    unfold mk2 at h
    revert h
    simp
  have := bt_nz this
  omega
theorem tok_in {s : ByteArray} {k : Nat} {t : Tok} (hk : k < s.size) (h : tokS s k = .ok t) : t.a = k ∧ k < t.e ∧ t.e ≤ s.size := by
  unfold tokS at h
  split at h
  · cases hx : txS s k (k + 1) [] with
    | bad c a => rw [hx] at h; exact RR.noConfusion h
    | ok l e =>
      rw [hx] at h
      have := RR.ok.inj h
      subst this
      have := txS_in s k _ (k + 1) [] rfl (by omega) l e hx
      exact ⟨rfl, by show k < e; omega, this.2⟩
  · split at h
    · unfold numTok at h
      obtain ⟨b1, b2⟩ := behW_in s _ (k + 1) rfl
      have b3 := b2 (by omega)
      split at h
      · exact RR.noConfusion h
      · have := RR.ok.inj h
        subst this
        exact ⟨rfl, by show k < behW s (k + 1); omega, b3⟩
    · split at h
      · rename_i hi
        have := RR.ok.inj h
        subst this
        have e1 : behW s k = behW s (k + 1) := behW_go s k hk hi
        obtain ⟨b1, b2⟩ := behW_in s _ (k + 1) rfl
        have b3 := b2 (by omega)
        exact ⟨rfl, by show k < behW s k; omega, by show behW s k ≤ s.size; omega⟩
      · unfold markS at h
        split at h
        · rename_i hm
          have := RR.ok.inj h
          subst this
          have := mk2_size hm
          exact ⟨rfl, by show k < k + 2; omega, this⟩
        · split at h
          · have := RR.ok.inj h
            subst this
            exact ⟨rfl, by show k < k + 1; omega, by show k + 1 ≤ s.size; omega⟩
          · exact RR.noConfusion h
/-- The end, as a token. -/
def tokE (n : Nat) : Tok := ⟨0, ⟨#[]⟩, 0, n, n⟩
/-- The tokens from k on, and the fault if one ends them. -/
def scanS (s : ByteArray) (k : Nat) : List Tok × Option (Nat × Nat) :=
  if h : gapS s k < s.size then
    match tokS s (gapS s k) with
    | .bad c a => ([], some (c, a))
    | .ok t => if g : k < t.e ∧ k < s.size then (t :: (scanS s t.e).1, (scanS s t.e).2) else ([], none)
  else ([tokE s.size], none)
termination_by s.size - k
decreasing_by all_goals omega
theorem scan_fin {s : ByteArray} {k : Nat} (h : ¬ gapS s k < s.size) : scanS s k = ([tokE s.size], none) := by
  rw [scanS, dif_neg h]
theorem scan_bad {s : ByteArray} {k c a : Nat} (h : gapS s k < s.size) (ht : tokS s (gapS s k) = .bad c a) : scanS s k = ([], some (c, a)) := by
  rw [scanS, dif_pos h, ht]
theorem gapS_ge (s : ByteArray) (k : Nat) : k ≤ gapS s k := by
  by_cases h : k ≤ s.size
  · exact (gapS_in s _ k rfl h).1
  · rw [gapS_end s k (by omega)]
    exact Nat.le_refl _
theorem scan_go {s : ByteArray} {k : Nat} {t : Tok} (h : gapS s k < s.size) (ht : tokS s (gapS s k) = .ok t) : scanS s k = (t :: (scanS s t.e).1, (scanS s t.e).2) := by
  have g := gapS_ge s k
  have := tok_in h ht
  rw [scanS, dif_pos h, ht]
  simp only []
  rw [dif_pos (by omega)]
theorem scan_gap {s : ByteArray} {k j : Nat} (h : gapS s k = gapS s j) : scanS s k = scanS s j := by
  by_cases hl : gapS s k < s.size
  · cases ht : tokS s (gapS s k) with
    | bad c a => exact (scan_bad hl ht).trans (scan_bad (s := s) (k := j) (by rw [← h]; exact hl) (by rw [← h]; exact ht)).symm
    | ok t => exact (scan_go hl ht).trans (scan_go (s := s) (k := j) (by rw [← h]; exact hl) (by rw [← h]; exact ht)).symm
  · exact (scan_fin hl).trans (scan_fin (s := s) (k := j) (by rw [← h]; exact hl)).symm
end Go.Proofs.YtcldglilhhhdoaaGreatDoor.L
