import Derived.Test.YtcldglilhhhdoaaGreatDoorPcE
namespace Go.Proofs.YtcldglilhhhdoaaGreatDoor.L
open Go.RowKit Go.Shelf
set_option linter.unusedVariables false
/-- What s has from k to e stands in w from d on; behind it the end or a blank. -/
structure Em2 (s w : ByteArray) (k e d : Nat) : Prop where
  le : k ≤ e
  ls : e ≤ s.size
  sz : d + (e - k) ≤ w.size
  same : ∀ j, j < e - k → bt w (d + j) = bt s (k + j)
  stop : bt w (d + (e - k)) = bt s e ∨ (inwB (iv (bt w (d + (e - k)))) = false ∧ ∀ a, mk2 a (bt w (d + (e - k))) = false)
theorem Em2.at {s w : ByteArray} {k e d : Nat} (E : Em2 s w k e d) {i : Nat} (h1 : k ≤ i) (h2 : i < e) : bt w (d + (i - k)) = bt s i := by
  rw [E.same (i - k) (by omega), show k + (i - k) = i by omega]
theorem Em2.text {s w : ByteArray} {k e d : Nat} (E : Em2 s w k e d) : w.extract d (d + (e - k)) = s.extract k e := by
  have h1 := E.le
  have h2 := E.ls
  have h3 := E.sz
  apply list_eq_of_bt
  · simp; omega
  · intro j hj
    have hj' : j < e - k := by simp at hj; omega
    rw [bt_ext w d (d + (e - k)) j (by omega) h3, bt_ext s k e j (by omega) h2]
    exact E.same j hj'
theorem em2_beh {s w : ByteArray} {k e d : Nat} (E : Em2 s w k e d) : ∀ (n i : Nat), e - i = n → k ≤ i → i ≤ e → behW s i = e → behW w (d + (i - k)) = d + (e - k) := by
  intro n
  induction n using Nat.strongRecOn with
  | ind n ih =>
    intro i hn h1 h2 h
    have h3 := E.sz
    have h4 := E.ls
    by_cases hl : i < e
    · have hs : i < s.size := by omega
      cases c : inwB (iv (bt s i))
      · rw [behW_no s i hs c] at h
        omega
      · rw [behW_go s i hs c] at h
        rw [behW_go w (d + (i - k)) (by omega) (by rw [E.at h1 hl]; exact c), show d + (i - k) + 1 = d + (i + 1 - k) by omega]
        exact ih (e - (i + 1)) (by omega) (i + 1) rfl (by omega) (by omega) h
    · have e1 : i = e := by omega
      subst e1
      by_cases hw : d + (i - k) < w.size
      · refine behW_no w _ hw ?_
        rcases E.stop with h0 | h0
        · rw [h0]
          by_cases hs : i < s.size
          · cases c : inwB (iv (bt s i))
            · rfl
            · have h5 := behW_go s i hs c
              have h6 := (behW_in s _ (i + 1) rfl).1
              omega
          · rw [bt_out s i (by omega)]
            decide
        · exact h0.1
      · exact behW_end w _ hw
theorem esc3_em2 {s w : ByteArray} {k e d : Nat} (E : Em2 s w k e d) {i : Nat} (h1 : k ≤ i) (h0 : (esc3 s i).2 ≠ 0) (h2 : i + (esc3 s i).2 ≤ e) : esc3 w (d + (i - k)) = esc3 s i := by
  have hin := esc_in h0
  have e1 : bt w (d + (i - k) + 1) = bt s (i + 1) := by rw [show d + (i - k) + 1 = d + (i + 1 - k) by omega]; exact E.at (by omega) (by omega)
  rcases hin.2 with h2' | h4
  · unfold esc3 at h2' ⊢
    rw [e1]
    unfold escV at h2' ⊢
    by_cases g1 : bt s (i + 1) = 34
    · simp [g1]
    by_cases g2 : bt s (i + 1) = 92
    · simp [g2]
    by_cases g3 : bt s (i + 1) = 110
    · simp [g3]
    by_cases g4 : bt s (i + 1) = 116
    · simp [g4]
    by_cases g5 : bt s (i + 1) = 114
    · simp [g5]
    rw [if_neg g1, if_neg g2, if_neg g3, if_neg g4, if_neg g5] at h2'
    split at h2' <;> simp at h2'
  · have e2 : bt w (d + (i - k) + 2) = bt s (i + 2) := by rw [show d + (i - k) + 2 = d + (i + 2 - k) by omega]; exact E.at (by omega) (by omega)
    have e3 : bt w (d + (i - k) + 3) = bt s (i + 3) := by rw [show d + (i - k) + 3 = d + (i + 3 - k) by omega]; exact E.at (by omega) (by omega)
    unfold esc3
    rw [e1, e2, e3]
theorem em2_tx {s w : ByteArray} {k e d : Nat} (E : Em2 s w k e d) (f g : Nat) : ∀ (n i : Nat) (l l' : List UInt8), e - i = n → k ≤ i → txS s f i l = .ok l' e → txS w g (d + (i - k)) l = .ok l' (d + (e - k)) := by
  intro n
  induction n using Nat.strongRecOn with
  | ind n ih =>
    intro i l l' hn h1 h
    have h3 := E.sz
    have h4 := E.ls
    by_cases hlt : i < s.size
    · have hie := (txS_in s f _ i l rfl (by omega) l' e h).1
      have es := E.at h1 hie
      have hw : d + (i - k) < w.size := by omega
      by_cases c : bt s i = 34
      · rw [txS_q s f i l hlt c] at h
        rw [txS_q w g _ l hw (by rw [es]; exact c)]
        split at h
        · exact TR.noConfusion h
        · rename_i hll
          obtain ⟨e1, e2⟩ := TR.ok.inj h
          rw [if_neg hll, e1, show d + (i - k) + 1 = d + (e - k) by omega]
      · by_cases dd : bt s i = 92
        · by_cases e0 : (esc3 s i).2 = 0
          · rw [txS_e0 s f i l hlt dd e0] at h
            exact TR.noConfusion h
          · rw [txS_e s f i l hlt dd e0] at h
            have hg := esc_in e0
            have hie2 := (txS_in s f _ _ _ rfl hg.1 l' e h).1
            have hx := esc3_em2 E h1 e0 (by omega)
            rw [txS_e w g _ l hw (by rw [es]; exact dd) (by rw [hx]; exact e0), hx, show d + (i - k) + (esc3 s i).2 = d + (i + (esc3 s i).2 - k) by omega]
            exact ih (e - (i + (esc3 s i).2)) (by omega) _ _ _ rfl (by omega) h
        · by_cases e0 : iv (bt s i) < 32
          · rw [txS_low s f i l hlt c dd e0] at h
            exact TR.noConfusion h
          · rw [txS_go s f i l hlt c dd e0] at h
            rw [txS_go w g _ l hw (by rw [es]; exact c) (by rw [es]; exact dd) (by rw [es]; exact e0), es, show d + (i - k) + 1 = d + (i + 1 - k) by omega]
            exact ih (e - (i + 1)) (by omega) _ _ _ rfl (by omega) h
    · rw [txS_end s f i l hlt] at h
      exact TR.noConfusion h
/-- A token read where it stands is read in another source. -/
theorem tok_em2 {s w : ByteArray} {k d : Nat} {t : Tok} (hk : k < s.size) (h : tokS s k = .ok t) (E : Em2 s w k t.e d) : tokS w d = .ok ⟨t.kind, t.text, t.num, d, d + (t.e - k)⟩ := by
  have hin := tok_in hk h
  have h3 := E.sz
  have e0 : bt w d = bt s k := by have := E.at (Nat.le_refl k) hin.2.1; rwa [Nat.sub_self, Nat.add_zero] at this
  have htx := E.text
  unfold tokS at h ⊢
  rw [e0]
  by_cases c34 : bt s k = 34
  · rw [if_pos c34] at h ⊢
    cases hx : txS s k (k + 1) [] with
    | bad c a => rw [hx] at h; exact RR.noConfusion h
    | ok l e =>
      rw [hx] at h
      have ht := RR.ok.inj h
      subst ht
      have := em2_tx E k d _ (k + 1) [] l rfl (by omega) hx
      rw [show d + (k + 1 - k) = d + 1 by omega] at this
      rw [this]
      rfl
  · rw [if_neg c34] at h ⊢
    by_cases cd : digB (iv (bt s k)) = true ∨ (bt s k = 45 ∧ digB (iv (bt s (k + 1))) = true)
    · rw [if_pos cd] at h
      have hnum : numTok s k = .ok t := h
      unfold numTok at h
      have hlt1 : k + 1 ≤ behW s (k + 1) := (behW_in s _ (k + 1) rfl).1
      cases hn : numS (s.extract k (behW s (k + 1))) with
      | none => rw [hn] at h; exact RR.noConfusion h
      | some n =>
        rw [hn] at h
        have ht := RR.ok.inj h
        subst ht
        have hbw := em2_beh E _ (k + 1) rfl (by omega) hlt1 rfl
        rw [show d + (k + 1 - k) = d + 1 by omega] at hbw
        have cd' : digB (iv (bt s k)) = true ∨ (bt s k = 45 ∧ digB (iv (bt w (d + 1))) = true) := by
          rcases cd with cd | ⟨c1, c2⟩
          · exact Or.inl cd
          · refine Or.inr ⟨c1, ?_⟩
            have hlt : k + 1 < s.size := by
              apply Classical.byContradiction
              intro nn
              rw [bt_out s (k + 1) (by omega)] at c2
              exact absurd c2 (by decide)
            have hgt : k + 1 < behW s (k + 1) := by
              have e1 : behW s (k + 1) = behW s (k + 1 + 1) := behW_go s (k + 1) hlt (dig_inw c2)
              have := (behW_in s _ (k + 1 + 1) rfl).1
              omega
            have := E.at (i := k + 1) (by omega) hgt
            rw [show d + (k + 1 - k) = d + 1 by omega] at this
            rw [this]
            exact c2
        rw [if_pos cd']
        unfold numTok
        simp only at htx
        rw [hbw, htx, hn]
    · rw [if_neg cd] at h
      by_cases ci : inwB (iv (bt s k)) = true
      · rw [if_pos ci] at h
        have ht := RR.ok.inj h
        subst ht
        have hbw := em2_beh E _ k rfl (Nat.le_refl _) (by have := (behW_in s _ k rfl).1; exact this) rfl
        rw [Nat.sub_self, Nat.add_zero] at hbw
        have cd' : ¬ (digB (iv (bt s k)) = true ∨ (bt s k = 45 ∧ digB (iv (bt w (d + 1))) = true)) := by
          rintro (c1 | ⟨c1, c2⟩)
          · exact cd (Or.inl c1)
          · rw [c1] at ci; exact absurd ci (by decide)
        rw [if_neg cd', if_pos ci, hbw]
        simp only at htx
        rw [htx]
      · rw [if_neg ci] at h
        have c45 : bt s k ≠ 45 := by
          intro e
          unfold markS at h
          rw [e] at h
          rw [if_neg (by unfold mk2; simp), if_neg (by decide)] at h
          exact RR.noConfusion h
        rw [if_neg (by rintro (c1 | ⟨c1, c2⟩); exact cd (Or.inl c1); exact c45 c1), if_neg ci]
        unfold markS at h ⊢
        rw [e0]
        by_cases m : mk2 (bt s k) (bt s (k + 1)) = true
        · rw [if_pos m] at h
          have ht := RR.ok.inj h
          subst ht
          have e1 := E.at (i := k + 1) (by omega) (by show k + 1 < k + 2; omega)
          rw [show d + (k + 1 - k) = d + 1 by omega] at e1
          simp only at htx
          rw [show d + (k + 2 - k) = d + 2 by omega] at htx ⊢
          rw [e1, if_pos m, htx]
        · rw [if_neg m] at h
          by_cases m1 : mk1 (bt s k) = true
          · rw [if_pos m1] at h
            have ht := RR.ok.inj h
            subst ht
            have hst := E.stop
            simp only at htx hst
            rw [show d + (k + 1 - k) = d + 1 by omega] at htx hst ⊢
            have m' : ¬ mk2 (bt s k) (bt w (d + 1)) = true := by
              rcases hst with h0 | h0
              · rw [h0]; exact m
              · rw [h0.2]; decide
            rw [if_neg m', if_pos m1, htx]
          · rw [if_neg m1] at h
            exact RR.noConfusion h
/-- Two sources agree ahead of n. -/
structure Pre (s w : ByteArray) (n : Nat) : Prop where
  ls : n ≤ s.size
  lw : n ≤ w.size
  same : ∀ j, j < n → bt w j = bt s j
theorem nlAt_pre {s w : ByteArray} {m : Nat} (E : Pre s w m) : ∀ (n k : Nat), m - k = n → nlAt s k < m → nlAt w k = nlAt s k := by
  intro n
  induction n using Nat.strongRecOn with
  | ind n ih =>
    intro k hn hk
    have hz := E.ls
    have hy := E.lw
    by_cases hl : k < m
    · by_cases c : bt s k = 10
      · rw [nlAt_yes s k (by omega) c, nlAt_yes w k (by omega) (by rw [E.same k hl]; exact c)]
      · rw [nlAt_go s k (by omega) c] at hk ⊢
        rw [nlAt_go w k (by omega) (by rw [E.same k hl]; exact c)]
        exact ih (m - (k + 1)) (by omega) (k + 1) rfl hk
    · rcases Nat.lt_or_ge s.size k with h9 | h9
      · rw [nlAt_end s k (by omega)] at hk
        omega
      · have := (nlAt_in s k h9).1
        omega
theorem gapS_pre {s w : ByteArray} {m : Nat} (E : Pre s w m) : ∀ (n k : Nat), m - k = n → gapS s k < m → gapS w k = gapS s k := by
  intro n
  induction n using Nat.strongRecOn with
  | ind n ih =>
    intro k hn hk
    have hz := E.ls
    have hy := E.lw
    by_cases hl : k < m
    · by_cases c : bt s k = 35
      · rw [gapS_rem s k (by omega) c] at hk ⊢
        have h1 := gapS_ge s (nlAt s k)
        have h2 := nlAt_gt s k (by omega) (by rw [c]; decide)
        rw [gapS_rem w k (by omega) (by rw [E.same k hl]; exact c), nlAt_pre E _ k rfl (by omega)]
        exact ih (m - nlAt s k) (by omega) _ rfl hk
      · cases b : blkB (iv (bt s k))
        · rw [gapS_no s k (by omega) c b, gapS_no w k (by omega) (by rw [E.same k hl]; exact c) (by rw [E.same k hl]; exact b)]
        · rw [gapS_blk s k (by omega) b] at hk ⊢
          rw [gapS_blk w k (by omega) (by rw [E.same k hl]; exact b)]
          exact ih (m - (k + 1)) (by omega) _ rfl hk
    · have h1 := gapS_ge s k
      omega
theorem tok_pre {s w : ByteArray} {m k : Nat} {t : Tok} (E : Pre s w m) (hk : k < s.size) (h : tokS s k = .ok t) (he : t.e ≤ m) (hs : t.e < m ∨ (inwB (iv (bt w m)) = false ∧ ∀ a, mk2 a (bt w m) = false)) : tokS w k = .ok t := by
  have hin := tok_in hk h
  have h1 := E.ls
  have h2 := E.lw
  have hh := tok_em2 (d := k) hk h ⟨by omega, by omega, by omega, fun j hj => E.same _ (by omega), by
    rw [show k + (t.e - k) = t.e by omega]
    by_cases hl : t.e < m
    · exact Or.inl (E.same _ hl)
    · have e1 : t.e = m := by omega
      rcases hs with h5 | h5
      · exact absurd h5 hl
      · rw [e1]; exact Or.inr h5⟩
  rw [hh]
  obtain ⟨q1, q2, q3, q4, q5⟩ := t
  simp only at hin
  simp only [RR.ok.injEq, Tok.mk.injEq, true_and]
  exact ⟨hin.1.symm, by omega⟩
theorem scan_after (s : ByteArray) : ∀ (n k : Nat), s.size - k = n → k ≤ s.size → (scanS s k).2 = none → ∀ q, q < (scanS s k).1.length → k ≤ (tk (scanS s k).1 q).e := by
  intro n
  induction n using Nat.strongRecOn with
  | ind n ih =>
    intro k hn hk h0 q hq
    by_cases hl : gapS s k < s.size
    · cases ht : tokS s (gapS s k) with
      | bad c a => rw [scan_bad hl ht] at h0; cases h0
      | ok t =>
        have hin := tok_in hl ht
        have hg := gapS_ge s k
        rw [scan_go hl ht] at h0 hq ⊢
        cases q with
        | zero => show k ≤ t.e; omega
        | succ q =>
          have := ih (s.size - t.e) (by omega) t.e rfl hin.2.2 h0 q (by simpa using hq)
          show k ≤ (tk (scanS s t.e).1 q).e
          omega
    · rw [scan_fin hl] at hq ⊢
      simp at hq
      subst hq
      exact hk
/-- The tokens of a prefix stand ahead in every source that goes on behind a blank. -/
theorem scan_pre {s w : ByteArray} {m : Nat} (E : Pre s w m) (hs : inwB (iv (bt w m)) = false ∧ ∀ a, mk2 a (bt w m) = false) : ∀ (n k i : Nat), s.size - k = n → k ≤ s.size → (scanS s k).2 = none → i + 1 < (scanS s k).1.length → (tk (scanS s k).1 i).e ≤ m → (scanS w k).2 = none → ∀ j, j ≤ i → tk (scanS w k).1 j = tk (scanS s k).1 j := by
  intro n
  induction n using Nat.strongRecOn with
  | ind n ih =>
    intro k i hn hk h0 hi he hw j hj
    have h1 := E.ls
    have h2 := E.lw
    by_cases hl : gapS s k < s.size
    · cases ht : tokS s (gapS s k) with
      | bad c a => rw [scan_bad hl ht] at h0; cases h0
      | ok t =>
        have hin := tok_in hl ht
        have hg := gapS_ge s k
        rw [scan_go hl ht] at h0 hi he ⊢
        have hte : t.e ≤ m := by
          cases i with
          | zero => exact he
          | succ i =>
            have hsp := toks_spec s _ t.e rfl hin.2.2 h0
            have hch : ∀ q, q < (scanS s t.e).1.length → t.e ≤ (tk (scanS s t.e).1 q).e := scan_after s _ t.e rfl hin.2.2 h0
            have h5 : t.e ≤ (tk (scanS s t.e).1 i).e := hch i (by simp at hi; omega)
            have h6 : (tk (t :: (scanS s t.e).1) (i + 1)).e = (tk (scanS s t.e).1 i).e := rfl
            simp only at he
            omega
        have hgw := gapS_pre E _ k rfl (by omega)
        have htw : tokS w (gapS w k) = .ok t := by
          rw [hgw]
          exact tok_pre E hl ht hte (Or.inr hs)
        have hgl : gapS w k < w.size := by rw [hgw]; omega
        rw [scan_go hgl htw] at hw ⊢
        cases j with
        | zero => rfl
        | succ j =>
          cases i with
          | zero => omega
          | succ i =>
            exact ih (s.size - t.e) (by omega) t.e i rfl hin.2.2 h0 (by simpa using hi) he hw j (by omega)
    · rw [scan_fin hl] at hi
      simp at hi
end Go.Proofs.YtcldglilhhhdoaaGreatDoor.L
