import Derived.Test.YtbplmglddinkdaaDoorYG
namespace Go.Proofs.YtbplmglddinkdaaDoor.L
open Go.RowKit Go.Shelf
set_option linter.unusedVariables false
/-- The place behind the token ahead. -/
def prv (L : List Tok) (k j : Nat) : Nat := if j = 0 then k else (tk L (j - 1)).e
structure Ln (s : ByteArray) (L : List Tok) (k j : Nat) : Prop where
  le : prv L k j ≤ s.size
  gap : gapS s (prv L k j) = (tk L j).a
  mid : j + 1 < L.length → (tk L j).a < s.size ∧ tokS s (tk L j).a = .ok (tk L j)
  last : ¬ j + 1 < L.length → tk L j = tokE s.size
theorem chain (s : ByteArray) : ∀ (n k : Nat), s.size - k = n → k ≤ s.size → (scanS s k).2 = none → ∀ j, j < (scanS s k).1.length → Ln s (scanS s k).1 k j := by
  intro n
  induction n using Nat.strongRecOn with
  | ind n ih =>
    intro k hn hk h j hj
    by_cases hl : gapS s k < s.size
    · cases ht : tokS s (gapS s k) with
      | bad c a => rw [scan_bad hl ht] at h; cases h
      | ok t =>
        rw [scan_go hl ht] at h hj ⊢
        simp only at h hj ⊢
        have h1 := tok_in hl ht
        have h2 := gapS_ge s k
        have hne : 0 < (scanS s t.e).1.length := by
          obtain ⟨l, e, _⟩ := toks_spec s _ t.e rfl h1.2.2 h
          rw [e]; simp
        cases j with
        | zero =>
          have e0 : tk (t :: (scanS s t.e).1) 0 = t := rfl
          refine ⟨hk, ?_, fun _ => ?_, fun hx => ?_⟩
          · rw [e0]
            show gapS s k = t.a
            exact h1.1.symm
          · rw [e0, h1.1]
            exact ⟨hl, ht⟩
          · exfalso
            apply hx
            simp only [List.length_cons]
            omega
        | succ j' =>
          have hj' : j' < (scanS s t.e).1.length := by simpa using hj
          have := ih (s.size - t.e) (by omega) t.e rfl h1.2.2 h j' hj'
          have e1 : tk (t :: (scanS s t.e).1) (j' + 1) = tk (scanS s t.e).1 j' := rfl
          have e2 : prv (t :: (scanS s t.e).1) k (j' + 1) = prv (scanS s t.e).1 t.e j' := by
            unfold prv
            rw [if_neg (by omega), show j' + 1 - 1 = j' by omega]
            cases j' with
            | zero => rfl
            | succ i => rw [if_neg (by omega)]; rfl
          refine ⟨by rw [e2]; exact this.le, by rw [e2, e1]; exact this.gap, fun hx => ?_, fun hx => ?_⟩
          · rw [e1]
            exact this.mid (by simpa using hx)
          · rw [e1]
            exact this.last (by simpa using hx)
    · rw [scan_fin hl] at hj ⊢
      have e : j = 0 := by simpa using hj
      subst e
      have hg := (gapS_in s _ k rfl hk).2
      refine ⟨hk, ?_, fun hx => by simp at hx, fun _ => rfl⟩
      show gapS s k = s.size
      omega
theorem scan_codes (s : ByteArray) : ∀ (n k : Nat), s.size - k = n → ∀ c a, (scanS s k).2 = some (c, a) → 111 ≤ c ∧ c ≤ 115 := by
  have TX : ∀ (f : Nat) (n k : Nat) (l : List UInt8), s.size - k = n → ∀ c a, txS s f k l = .bad c a → 111 ≤ c ∧ c ≤ 115 := by
    intro f n
    induction n using Nat.strongRecOn with
    | ind n ih =>
      intro k l hn c0 a0 h
      by_cases hlt : k < s.size
      · by_cases c : bt s k = 34
        · rw [txS_q s f k l hlt c] at h
          split at h
          · obtain ⟨rfl, _⟩ := TR.bad.inj h
            omega
          · exact TR.noConfusion h
        · by_cases d : bt s k = 92
          · by_cases e0 : (esc3 s k).2 = 0
            · rw [txS_e0 s f k l hlt d e0] at h
              obtain ⟨rfl, _⟩ := TR.bad.inj h
              omega
            · rw [txS_e s f k l hlt d e0] at h
              exact ih (s.size - (k + (esc3 s k).2)) (by omega) _ _ rfl c0 a0 h
          · by_cases e0 : iv (bt s k) < 32
            · rw [txS_low s f k l hlt c d e0] at h
              obtain ⟨rfl, _⟩ := TR.bad.inj h
              omega
            · rw [txS_go s f k l hlt c d e0] at h
              exact ih (s.size - (k + 1)) (by omega) _ _ rfl c0 a0 h
      · rw [txS_end s f k l hlt] at h
        obtain ⟨rfl, _⟩ := TR.bad.inj h
        omega
  have TK : ∀ k c a, tokS s k = .bad c a → 111 ≤ c ∧ c ≤ 115 := by
    intro k c a h
    unfold tokS at h
    split at h
    · cases hx : txS s k (k + 1) [] with
      | bad c' a' => rw [hx] at h; obtain ⟨rfl, _⟩ := RR.bad.inj h; exact TX k _ (k + 1) [] rfl _ _ hx
      | ok l e => rw [hx] at h; exact RR.noConfusion h
    · split at h
      · unfold numTok at h
        split at h
        · obtain ⟨rfl, _⟩ := RR.bad.inj h; omega
        · exact RR.noConfusion h
      · split at h
        · exact RR.noConfusion h
        · unfold markS at h
          split at h
          · exact RR.noConfusion h
          · split at h
            · exact RR.noConfusion h
            · obtain ⟨rfl, _⟩ := RR.bad.inj h; omega
  intro n
  induction n using Nat.strongRecOn with
  | ind n ih =>
    intro k hn c a h
    by_cases hl : gapS s k < s.size
    · cases ht : tokS s (gapS s k) with
      | bad c' a' =>
        rw [scan_bad hl ht] at h
        have := Option.some.inj h
        cases this
        exact TK _ _ _ ht
      | ok t =>
        rw [scan_go hl ht] at h
        have h1 := tok_in hl ht
        have h2 := gapS_ge s k
        exact ih (s.size - t.e) (by omega) t.e rfl c a h
    · rw [scan_fin hl] at h
      cases h
end Go.Proofs.YtbplmglddinkdaaDoor.L
