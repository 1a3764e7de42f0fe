import Derived.Test.YtcldglilhhhdoaaGreatDoorMgAI
namespace Go.Proofs.YtcldglilhhhdoaaGreatDoor.L
open Go.RowKit Go.Shelf
set_option linter.unusedVariables false
/-- w begins with s and a blank. -/
structure Ext (s w : ByteArray) : Prop where
  sz : s.size + 1 ≤ w.size
  same : ∀ j, j < s.size → bt w j = bt s j
  blank : bt w s.size = 32
  ext : ∀ a b, b ≤ s.size → w.extract a b = s.extract a b
theorem behW_ext {s w : ByteArray} (E : Ext s w) : ∀ (n k : Nat), s.size - k = n → k ≤ s.size → behW w k = behW s k := by
  intro n
  induction n using Nat.strongRecOn with
  | ind n ih =>
    intro k hn hk
    have hz := E.sz
    by_cases hl : k < s.size
    · cases c : inwB (iv (bt s k))
      · rw [behW_no s k hl c, behW_no w k (by omega) (by rw [E.same k hl]; exact c)]
      · rw [behW_go s k hl c, behW_go w k (by omega) (by rw [E.same k hl]; exact c)]
        exact ih (s.size - (k + 1)) (by omega) (k + 1) rfl (by omega)
    · have e : k = s.size := by omega
      subst e
      rw [behW_end s _ hl, behW_no w _ (by omega) (by rw [E.blank]; decide)]
theorem nlAt_ext {s w : ByteArray} (E : Ext s w) : ∀ (n k : Nat), s.size - k = n → nlAt s k < s.size → nlAt w k = nlAt s k := by
  intro n
  induction n using Nat.strongRecOn with
  | ind n ih =>
    intro k hn hk
    have hz := E.sz
    by_cases hl : k < s.size
    · by_cases c : bt s k = 10
      · rw [nlAt_yes s k hl c, nlAt_yes w k (by omega) (by rw [E.same k hl]; exact c)]
      · rw [nlAt_go s k hl c] at hk ⊢
        rw [nlAt_go w k (by omega) (by rw [E.same k hl]; exact c)]
        exact ih (s.size - (k + 1)) (by omega) (k + 1) rfl hk
    · rw [nlAt_end s k hl] at hk
      exact absurd hk hl
theorem gapS_ext {s w : ByteArray} (E : Ext s w) : ∀ (n k : Nat), s.size - k = n → gapS s k < s.size → gapS w k = gapS s k := by
  intro n
  induction n using Nat.strongRecOn with
  | ind n ih =>
    intro k hn hk
    have hz := E.sz
    by_cases hl : k < s.size
    · by_cases c : bt s k = 35
      · rw [gapS_rem s k hl c] at hk ⊢
        have h1 := gapS_ge s (nlAt s k)
        have h2 := nlAt_gt s k hl (by rw [c]; decide)
        rw [gapS_rem w k (by omega) (by rw [E.same k hl]; exact c), nlAt_ext E _ k rfl (by omega)]
        exact ih (s.size - nlAt s k) (by omega) _ rfl hk
      · cases b : blkB (iv (bt s k))
        · rw [gapS_no s k hl c b, gapS_no w k (by omega) (by rw [E.same k hl]; exact c) (by rw [E.same k hl]; exact b)]
        · rw [gapS_blk s k hl b] at hk ⊢
          rw [gapS_blk w k (by omega) (by rw [E.same k hl]; exact b)]
          exact ih (s.size - (k + 1)) (by omega) _ rfl hk
    · rw [gapS_end s k hl] at hk
      exact absurd hk hl
theorem escV_two {a b c : UInt8} (h : (escV a b c).2 = 2) (b' c' : UInt8) : escV a b' c' = escV a b c := by
  unfold escV at h ⊢
  by_cases h1 : a = 34
  · simp [h1]
  by_cases h2 : a = 92
  · simp [h2]
  by_cases h3 : a = 110
  · simp [h3]
  by_cases h4 : a = 116
  · simp [h4]
  by_cases h5 : a = 114
  · simp [h5]
  rw [if_neg h1, if_neg h2, if_neg h3, if_neg h4, if_neg h5] at h
  split at h <;> simp at h
theorem escV_b (a c : UInt8) : (escV a 32 c).2 ≠ 4 := by
  unfold escV
  repeat' split
  all_goals first | (simp; done) | skip
  rename_i g
  exact absurd g.2.1 (by decide)
theorem escV_c (a b : UInt8) : (escV a b 32).2 ≠ 4 := by
  unfold escV
  repeat' split
  all_goals first | (simp; done) | skip
  rename_i g
  exact absurd g.2.2 (by decide)
theorem escV_a (b c : UInt8) : (escV 32 b c).2 = 0 := by
  unfold escV
  simp
theorem esc3_ext {s w : ByteArray} (E : Ext s w) {k : Nat} (hk : k < s.size) : ((esc3 s k).2 ≠ 0 → esc3 w k = esc3 s k) ∧ ((esc3 s k).2 = 0 → (esc3 w k).2 = 0) := by
  constructor
  · intro h
    have hin := esc_in h
    rcases hin.2 with h2 | h4
    · have e1 := E.same (k + 1) (by omega)
      unfold esc3 at h2 ⊢
      rw [e1]
      exact escV_two h2 _ _
    · have e1 := E.same (k + 1) (by omega)
      have e2 := E.same (k + 2) (by omega)
      have e3 := E.same (k + 3) (by omega)
      unfold esc3
      rw [e1, e2, e3]
  · intro h
    apply Classical.byContradiction
    intro hw
    have hin := esc_inv (a := bt w (k + 1)) (b := bt w (k + 2)) (c := bt w (k + 3)) hw
    by_cases k1 : k + 1 < s.size
    · have e1 := E.same (k + 1) k1
      rcases hin.2 with h2 | ⟨h4, _⟩
      · rw [e1] at h2
        have := escV_two h2 (bt s (k + 2)) (bt s (k + 3))
        unfold esc3 at h
        rw [this, h2] at h
        cases h
      · by_cases k2 : k + 2 < s.size
        · have e2 := E.same (k + 2) k2
          by_cases k3 : k + 3 < s.size
          · have e3 := E.same (k + 3) k3
            unfold esc3 at h hw
            rw [e1, e2, e3] at hw
            exact hw h
          · have e3 : bt w (k + 3) = 32 := by rw [show k + 3 = s.size by omega]; exact E.blank
            rw [e3] at h4
            exact escV_c _ _ h4
        · have e2 : bt w (k + 2) = 32 := by rw [show k + 2 = s.size by omega]; exact E.blank
          rw [e2] at h4
          exact escV_b _ _ h4
    · have e1 : bt w (k + 1) = 32 := by rw [show k + 1 = s.size by omega]; exact E.blank
      unfold esc3 at hw
      rw [e1, escV_a] at hw
      exact hw rfl
theorem txS_ext {s w : ByteArray} (E : Ext s w) (f : Nat) : ∀ (n k : Nat) (l : List UInt8), s.size - k = n → (∀ a, txS s f k l ≠ .bad 112 a) → txS w f k l = txS s f k l := by
  intro n
  induction n using Nat.strongRecOn with
  | ind n ih =>
    intro k l hn h
    have hz := E.sz
    by_cases hlt : k < s.size
    · have es := E.same k hlt
      have hw : k < w.size := by omega
      by_cases c : bt s k = 34
      · rw [txS_q s f k l hlt c, txS_q w f k l hw (by rw [es]; exact c)]
      · by_cases d : bt s k = 92
        · have hx := esc3_ext E hlt
          by_cases e0 : (esc3 s k).2 = 0
          · rw [txS_e0 s f k l hlt d e0, txS_e0 w f k l hw (by rw [es]; exact d) (hx.2 e0)]
          · rw [txS_e s f k l hlt d e0] at h ⊢
            rw [txS_e w f k l hw (by rw [es]; exact d) (by rw [hx.1 e0]; exact e0), hx.1 e0]
            exact ih (s.size - (k + (esc3 s k).2)) (by omega) _ _ rfl h
        · by_cases e0 : iv (bt s k) < 32
          · rw [txS_low s f k l hlt c d e0, txS_low w f k l hw (by rw [es]; exact c) (by rw [es]; exact d) (by rw [es]; exact e0)]
          · rw [txS_go s f k l hlt c d e0] at h ⊢
            rw [txS_go w f k l hw (by rw [es]; exact c) (by rw [es]; exact d) (by rw [es]; exact e0), es]
            exact ih (s.size - (k + 1)) (by omega) _ _ rfl h
    · exact absurd (txS_end s f k l hlt) (h f)
theorem mk2_z (a : UInt8) : mk2 a 0 = false ∧ mk2 a 32 = false := by
  unfold mk2
  constructor <;> simp
theorem tokS_ext {s w : ByteArray} (E : Ext s w) {k : Nat} (hk : k < s.size) (h : ∀ a, tokS s k ≠ .bad 112 a) : tokS w k = tokS s k := by
  have hz := E.sz
  have es := E.same k hk
  have hdig : digB (iv (bt w (k + 1))) = digB (iv (bt s (k + 1))) := by
    by_cases k1 : k + 1 < s.size
    · rw [E.same (k + 1) k1]
    · rw [bt_out s (k + 1) (by omega), show k + 1 = s.size by omega, E.blank]
      rfl
  have hmk : mk2 (bt s k) (bt w (k + 1)) = mk2 (bt s k) (bt s (k + 1)) := by
    by_cases k1 : k + 1 < s.size
    · rw [E.same (k + 1) k1]
    · rw [bt_out s (k + 1) (by omega), show k + 1 = s.size by omega, E.blank, (mk2_z _).1, (mk2_z _).2]
  unfold tokS at h ⊢
  rw [es, hdig]
  by_cases c34 : bt s k = 34
  · rw [if_pos c34] at h ⊢
    rw [if_pos c34, txS_ext E k _ (k + 1) [] rfl]
    intro a e
    rw [e] at h
    exact h a rfl
  · rw [if_neg c34, if_neg c34]
    split
    · unfold numTok
      rw [behW_ext E _ (k + 1) rfl (by omega)]
      have b3 := (behW_in s _ (k + 1) rfl).2 (by omega)
      rw [E.ext _ _ b3]
    · split
      · rw [behW_ext E _ k rfl (by omega)]
        have b3 := (behW_in s _ k rfl).2 (by omega)
        rw [E.ext _ _ b3]
      · unfold markS
        rw [es, hmk]
        by_cases m : mk2 (bt s k) (bt s (k + 1)) = true
        · rw [if_pos m, if_pos m, E.ext _ _ (mk2_size m)]
        · rw [if_neg m, if_neg m, E.ext _ _ (by omega)]
theorem scan_ext {s w : ByteArray} (E : Ext s w) : ∀ (n k : Nat), s.size - k = n → ∀ c a, (scanS s k).2 = some (c, a) → c ≠ 112 → (scanS w k).2 = some (c, a) := by
  intro n
  induction n using Nat.strongRecOn with
  | ind n ih =>
    intro k hn c a h hc
    have hz := E.sz
    by_cases hl : gapS s k < s.size
    · have hg := gapS_ext E _ k rfl hl
      cases ht : tokS s (gapS s k) with
      | bad c' a' =>
        rw [scan_bad hl ht] at h
        have := Option.some.inj h
        cases this
        rw [scan_bad (s := w) (k := k) (by rw [hg]; omega) (by rw [hg, tokS_ext E hl (by intro b e; rw [ht] at e; cases e; exact hc rfl)]; exact ht)]
      | ok t =>
        rw [scan_go hl ht] at h
        have h1 := tok_in hl ht
        have h2 := gapS_ge s k
        rw [scan_go (s := w) (k := k) (by rw [hg]; omega) (by rw [hg, tokS_ext E hl (by intro b e; rw [ht] at e; cases e)]; exact ht)]
        exact ih (s.size - t.e) (by omega) t.e rfl c a h hc
    · rw [scan_fin hl] at h
      cases h
theorem txS_at (s : ByteArray) (f : Nat) (hf : f < s.size) : ∀ (n k : Nat) (l : List UInt8), s.size - k = n → ∀ c a, txS s f k l = .bad c a → a < s.size := by
  intro n
  induction n using Nat.strongRecOn with
  | ind n ih =>
    intro k l hn c0 a0 h
    by_cases hlt : k < s.size
    · by_cases c : bt s k = 34
      · rw [txS_q s f k l hlt c] at h
        split at h
        · obtain ⟨_, rfl⟩ := TR.bad.inj h
          exact hf
        · exact TR.noConfusion h
      · by_cases d : bt s k = 92
        · by_cases e0 : (esc3 s k).2 = 0
          · rw [txS_e0 s f k l hlt d e0] at h
            obtain ⟨_, rfl⟩ := TR.bad.inj h
            exact hlt
          · rw [txS_e s f k l hlt d e0] at h
            exact ih (s.size - (k + (esc3 s k).2)) (by omega) _ _ rfl c0 a0 h
        · by_cases e0 : iv (bt s k) < 32
          · rw [txS_low s f k l hlt c d e0] at h
            obtain ⟨_, rfl⟩ := TR.bad.inj h
            exact hlt
          · rw [txS_go s f k l hlt c d e0] at h
            exact ih (s.size - (k + 1)) (by omega) _ _ rfl c0 a0 h
    · rw [txS_end s f k l hlt] at h
      obtain ⟨_, rfl⟩ := TR.bad.inj h
      exact hf
theorem tok_at {s : ByteArray} {k c a : Nat} (hk : k < s.size) (h : tokS s k = .bad c a) : a < s.size := by
  unfold tokS at h
  split at h
  · cases hx : txS s k (k + 1) [] with
    | bad c' a' => rw [hx] at h; obtain ⟨_, rfl⟩ := RR.bad.inj h; exact txS_at s k hk _ (k + 1) [] rfl _ _ hx
    | ok l e => rw [hx] at h; exact RR.noConfusion h
  · split at h
    · unfold numTok at h
      split at h
      · obtain ⟨_, rfl⟩ := RR.bad.inj h; exact hk
      · exact RR.noConfusion h
    · split at h
      · exact RR.noConfusion h
      · unfold markS at h
        split at h
        · exact RR.noConfusion h
        · split at h
          · exact RR.noConfusion h
          · obtain ⟨_, rfl⟩ := RR.bad.inj h; exact hk
theorem scan_at (s : ByteArray) : ∀ (n k : Nat), s.size - k = n → ∀ c a, (scanS s k).2 = some (c, a) → a < s.size := by
  intro n
  induction n using Nat.strongRecOn with
  | ind n ih =>
    intro k hn c a h
    by_cases hl : gapS s k < s.size
    · cases ht : tokS s (gapS s k) with
      | bad c' a' =>
        rw [scan_bad hl ht] at h
        have := Option.some.inj h
        cases this
        exact tok_at hl ht
      | ok t =>
        rw [scan_go hl ht] at h
        have h1 := tok_in hl ht
        have h2 := gapS_ge s k
        exact ih (s.size - t.e) (by omega) t.e rfl c a h
    · rw [scan_fin hl] at h
      cases h
end Go.Proofs.YtcldglilhhhdoaaGreatDoor.L
