import Derived.Test.YtcldglilhhhdoaaGreatDoorMgAG
import Derived.Test.YtcldglilhhhdoaaGreatDoorMgAR
namespace Go.Proofs.YtcldglilhhhdoaaGreatDoor.L
open Go.RowKit Go.Shelf
set_option linter.unusedVariables false
/-- w begins with s and a blank. -/
structure Ext (s w : ByteArray) : Prop where
  sz : s.size + 1 ≤ w.size
  same : ∀ j, j < s.size → bt w j = bt s j
  blank : bt w s.size = 32
  ext : ∀ a b, b ≤ s.size → w.extract a b = s.extract a b
theorem behW_ext {s w : ByteArray} (E : Ext s w) : ∀ (n k : Nat), s.size - k = n → k ≤ s.size → behW w k = behW s k := by
  intro n
  induction n using Nat.strongRecOn with
  | ind n ih =>
    intro k hn hk
    have hz := E.sz
    by_cases hl : k < s.size
    · cases c : inwB (iv (bt s k))
      · rw [behW_no s k hl c, behW_no w k (by omega) (by rw [E.same k hl]; exact c)]
      · rw [behW_go s k hl c, behW_go w k (by omega) (by rw [E.same k hl]; exact c)]
        exact ih (s.size - (k + 1)) (by omega) (k + 1) rfl (by omega)
    · have e : k = s.size := by omega
      subst e
      rw [behW_end s _ hl, behW_no w _ (by omega) (by rw [E.blank]; decide)]
theorem nlAt_ext {s w : ByteArray} (E : Ext s w) : ∀ (n k : Nat), s.size - k = n → nlAt s k < s.size → nlAt w k = nlAt s k := by
  intro n
  induction n using Nat.strongRecOn with
  | ind n ih =>
    intro k hn hk
    have hz := E.sz
    by_cases hl : k < s.size
    · by_cases c : bt s k = 10
      · rw [nlAt_yes s k hl c, nlAt_yes w k (by omega) (by rw [E.same k hl]; exact c)]
      · rw [nlAt_go s k hl c] at hk ⊢
        rw [nlAt_go w k (by omega) (by rw [E.same k hl]; exact c)]
        exact ih (s.size - (k + 1)) (by omega) (k + 1) rfl hk
    · rw [nlAt_end s k hl] at hk
      exact absurd hk hl
theorem gapS_ext {s w : ByteArray} (E : Ext s w) : ∀ (n k : Nat), s.size - k = n → gapS s k < s.size → gapS w k = gapS s k := by
  intro n
  induction n using Nat.strongRecOn with
  | ind n ih =>
    intro k hn hk
    have hz := E.sz
    by_cases hl : k < s.size
    · by_cases c : bt s k = 35
      · rw [gapS_rem s k hl c] at hk ⊢
        have h1 := gapS_ge s (nlAt s k)
        have h2 := nlAt_gt s k hl (by rw [c]; decide)
        rw [gapS_rem w k (by omega) (by rw [E.same k hl]; exact c), nlAt_ext E _ k rfl (by omega)]
        exact ih (s.size - nlAt s k) (by omega) _ rfl hk
      · cases b : blkB (iv (bt s k))
        · rw [gapS_no s k hl c b, gapS_no w k (by omega) (by rw [E.same k hl]; exact c) (by rw [E.same k hl]; exact b)]
        · rw [gapS_blk s k hl b] at hk ⊢
          rw [gapS_blk w k (by omega) (by rw [E.same k hl]; exact b)]
          exact ih (s.size - (k + 1)) (by omega) _ rfl hk
    · rw [gapS_end s k hl] at hk
      exact absurd hk hl
theorem escV_two {a b c : UInt8} (h : (escV a b c).2 = 2) (b' c' : UInt8) : escV a b' c' = escV a b c := by
  unfold escV at h ⊢
  by_cases h1 : a = 34
  · simp [h1]
  by_cases h2 : a = 92
  · simp [h2]
  by_cases h3 : a = 110
  · simp [h3]
  by_cases h4 : a = 116
  · simp [h4]
  by_cases h5 : a = 114
  · simp [h5]
  rw [if_neg h1, if_neg h2, if_neg h3, if_neg h4, if_neg h5] at h
  split at h <;> simp at h
theorem escV_b (a c : UInt8) : (escV a 32 c).2 ≠ 4 := by
  unfold escV
  repeat' split
  all_goals first | (simp; done) | skip
  rename_i g
  exact absurd g.2.1 (by decide)
theorem escV_c (a b : UInt8) : (escV a b 32).2 ≠ 4 := by
  unfold escV
  repeat' split
  all_goals first | (simp; done) | skip
  rename_i g
  exact absurd g.2.2 (by decide)
theorem escV_a (b c : UInt8) : (escV 32 b c).2 = 0 := by
  unfold escV
  simp
theorem esc3_ext {s w : ByteArray} (E : Ext s w) {k : Nat} (hk : k < s.size) : ((esc3 s k).2 ≠ 0 → esc3 w k = esc3 s k) ∧ ((esc3 s k).2 = 0 → (esc3 w k).2 = 0) := by
  constructor
  · intro h
    have hin := esc_in h
    rcases hin.2 with h2 | h4
    · have e1 := E.same (k + 1) (by omega)
      unfold esc3 at h2 ⊢
      rw [e1]
      exact escV_two h2 _ _
    · have e1 := E.same (k + 1) (by omega)
      have e2 := E.same (k + 2) (by omega)
      have e3 := E.same (k + 3) (by omega)
      unfold esc3
      rw [e1, e2, e3]
  · intro h
    apply Classical.byContradiction
    intro hw
    have hin := esc_inv (a := bt w (k + 1)) (b := bt w (k + 2)) (c := bt w (k + 3)) hw
    by_cases k1 : k + 1 < s.size
    · have e1 := E.same (k + 1) k1
      rcases hin.2 with h2 | ⟨h4, _⟩
      · rw [e1] at h2
        have := escV_two h2 (bt s (k + 2)) (bt s (k + 3))
        unfold esc3 at h
        rw [this, h2] at h
        cases h
      · by_cases k2 : k + 2 < s.size
        · have e2 := E.same (k + 2) k2
          by_cases k3 : k + 3 < s.size
          · have e3 := E.same (k + 3) k3
            unfold esc3 at h hw
            rw [e1, e2, e3] at hw
            exact hw h
          · have e3 : bt w (k + 3) = 32 := by rw [show k + 3 = s.size by omega]; exact E.blank
            rw [e3] at h4
            exact escV_c _ _ h4
        · have e2 : bt w (k + 2) = 32 := by rw [show k + 2 = s.size by omega]; exact E.blank
          rw [e2] at h4
          exact escV_b _ _ h4
    · have e1 : bt w (k + 1) = 32 := by rw [show k + 1 = s.size by omega]; exact E.blank
      unfold esc3 at hw
      rw [e1, escV_a] at hw
      exact hw rfl
theorem txS_ext {s w : ByteArray} (E : Ext s w) (f : Nat) : ∀ (n k : Nat) (l : List UInt8), s.size - k = n → (∀ a, txS s f k l ≠ .bad 112 a) → txS w f k l = txS s f k l := by
  intro n
  induction n using Nat.strongRecOn with
  | ind n ih =>
    intro k l hn h
    have hz := E.sz
    by_cases hlt : k < s.size
    · have es := E.same k hlt
      have hw : k < w.size := by omega
      by_cases c : bt s k = 34
      · rw [txS_q s f k l hlt c, txS_q w f k l hw (by rw [es]; exact c)]
      · by_cases d : bt s k = 92
        · have hx := esc3_ext E hlt
          by_cases e0 : (esc3 s k).2 = 0
          · rw [txS_e0 s f k l hlt d e0, txS_e0 w f k l hw (by rw [es]; exact d) (hx.2 e0)]
          · rw [txS_e s f k l hlt d e0] at h ⊢
            rw [txS_e w f k l hw (by rw [es]; exact d) (by rw [hx.1 e0]; exact e0), hx.1 e0]
            exact ih (s.size - (k + (esc3 s k).2)) (by omega) _ _ rfl h
        · by_cases e0 : iv (bt s k) < 32
          · rw [txS_low s f k l hlt c d e0, txS_low w f k l hw (by rw [es]; exact c) (by rw [es]; exact d) (by rw [es]; exact e0)]
          · rw [txS_go s f k l hlt c d e0] at h ⊢
            rw [txS_go w f k l hw (by rw [es]; exact c) (by rw [es]; exact d) (by rw [es]; exact e0), es]
            exact ih (s.size - (k + 1)) (by omega) _ _ rfl h
    · exact absurd (txS_end s f k l hlt) (h f)
theorem mk2_z (a : UInt8) : mk2 a 0 = false ∧ mk2 a 32 = false := by
  unfold mk2
  constructor <;> simp
theorem tokS_ext {s w : ByteArray} (E : Ext s w) {k : Nat} (hk : k < s.size) (h : ∀ a, tokS s k ≠ .bad 112 a) : tokS w k = tokS s k := by
  have hz := E.sz
  have es := E.same k hk
  have hdig : digB (iv (bt w (k + 1))) = digB (iv (bt s (k + 1))) := by
    by_cases k1 : k + 1 < s.size
    · rw [E.same (k + 1) k1]
    · rw [bt_out s (k + 1) (by omega), show k + 1 = s.size by omega, E.blank]
      rfl
  have hmk : mk2 (bt s k) (bt w (k + 1)) = mk2 (bt s k) (bt s (k + 1)) := by
    by_cases k1 : k + 1 < s.size
    · rw [E.same (k + 1) k1]
    · rw [bt_out s (k + 1) (by omega), show k + 1 = s.size by omega, E.blank, (mk2_z _).1, (mk2_z _).2]
  unfold tokS at h ⊢
  rw [es, hdig]
  by_cases c34 : bt s k = 34
  · rw [if_pos c34] at h ⊢
    rw [if_pos c34, txS_ext E k _ (k + 1) [] rfl]
    intro a e
    rw [e] at h
    exact h a rfl
  · rw [if_neg c34, if_neg c34]
    split
    · unfold numTok
      rw [behW_ext E _ (k + 1) rfl (by omega)]
      have b3 := (behW_in s _ (k + 1) rfl).2 (by omega)
      rw [E.ext _ _ b3]
    · split
      · rw [behW_ext E _ k rfl (by omega)]
        have b3 := (behW_in s _ k rfl).2 (by omega)
        rw [E.ext _ _ b3]
      · unfold markS
        rw [es, hmk]
        by_cases m : mk2 (bt s k) (bt s (k + 1)) = true
        · rw [if_pos m, if_pos m, E.ext _ _ (mk2_size m)]
        · rw [if_neg m, if_neg m, E.ext _ _ (by omega)]
theorem scan_ext {s w : ByteArray} (E : Ext s w) : ∀ (n k : Nat), s.size - k = n → ∀ c a, (scanS s k).2 = some (c, a) → c ≠ 112 → (scanS w k).2 = some (c, a) := by
  intro n
  induction n using Nat.strongRecOn with
  | ind n ih =>
    intro k hn c a h hc
    have hz := E.sz
    by_cases hl : gapS s k < s.size
    · have hg := gapS_ext E _ k rfl hl
      cases ht : tokS s (gapS s k) with
      | bad c' a' =>
        rw [scan_bad hl ht] at h
        have := Option.some.inj h
        cases this
        rw [scan_bad (s := w) (k := k) (by rw [hg]; omega) (by rw [hg, tokS_ext E hl (by intro b e; rw [ht] at e; cases e; exact hc rfl)]; exact ht)]
      | ok t =>
        rw [scan_go hl ht] at h
        have h1 := tok_in hl ht
        have h2 := gapS_ge s k
        rw [scan_go (s := w) (k := k) (by rw [hg]; omega) (by rw [hg, tokS_ext E hl (by intro b e; rw [ht] at e; cases e)]; exact ht)]
        exact ih (s.size - t.e) (by omega) t.e rfl c a h hc
    · rw [scan_fin hl] at h
      cases h
theorem txS_at (s : ByteArray) (f : Nat) (hf : f < s.size) : ∀ (n k : Nat) (l : List UInt8), s.size - k = n → ∀ c a, txS s f k l = .bad c a → a < s.size := by
  intro n
  induction n using Nat.strongRecOn with
  | ind n ih =>
    intro k l hn c0 a0 h
    by_cases hlt : k < s.size
    · by_cases c : bt s k = 34
      · rw [txS_q s f k l hlt c] at h
        split at h
        · obtain ⟨_, rfl⟩ := TR.bad.inj h
          exact hf
        · exact TR.noConfusion h
      · by_cases d : bt s k = 92
        · by_cases e0 : (esc3 s k).2 = 0
          · rw [txS_e0 s f k l hlt d e0] at h
            obtain ⟨_, rfl⟩ := TR.bad.inj h
            exact hlt
          · rw [txS_e s f k l hlt d e0] at h
            exact ih (s.size - (k + (esc3 s k).2)) (by omega) _ _ rfl c0 a0 h
        · by_cases e0 : iv (bt s k) < 32
          · rw [txS_low s f k l hlt c d e0] at h
            obtain ⟨_, rfl⟩ := TR.bad.inj h
            exact hlt
          · rw [txS_go s f k l hlt c d e0] at h
            exact ih (s.size - (k + 1)) (by omega) _ _ rfl c0 a0 h
    · rw [txS_end s f k l hlt] at h
      obtain ⟨_, rfl⟩ := TR.bad.inj h
      exact hf
theorem tok_at {s : ByteArray} {k c a : Nat} (hk : k < s.size) (h : tokS s k = .bad c a) : a < s.size := by
  unfold tokS at h
  split at h
  · cases hx : txS s k (k + 1) [] with
    | bad c' a' => rw [hx] at h; obtain ⟨_, rfl⟩ := RR.bad.inj h; exact txS_at s k hk _ (k + 1) [] rfl _ _ hx
    | ok l e => rw [hx] at h; exact RR.noConfusion h
  · split at h
    · unfold numTok at h
      split at h
      · obtain ⟨_, rfl⟩ := RR.bad.inj h; exact hk
      · exact RR.noConfusion h
    · split at h
      · exact RR.noConfusion h
      · unfold markS at h
        split at h
        · exact RR.noConfusion h
        · split at h
          · exact RR.noConfusion h
          · obtain ⟨_, rfl⟩ := RR.bad.inj h; exact hk
theorem scan_at (s : ByteArray) : ∀ (n k : Nat), s.size - k = n → ∀ c a, (scanS s k).2 = some (c, a) → a < s.size := by
  intro n
  induction n using Nat.strongRecOn with
  | ind n ih =>
    intro k hn c a h
    by_cases hl : gapS s k < s.size
    · cases ht : tokS s (gapS s k) with
      | bad c' a' =>
        rw [scan_bad hl ht] at h
        have := Option.some.inj h
        cases this
        exact tok_at hl ht
      | ok t =>
        rw [scan_go hl ht] at h
        have h1 := tok_in hl ht
        have h2 := gapS_ge s k
        exact ih (s.size - t.e) (by omega) t.e rfl c a h
    · rw [scan_fin hl] at h
      cases h
end Go.Proofs.YtcldglilhhhdoaaGreatDoor.L
namespace Go.Proofs.YtcldglilhhhdoaaGreatDoor.L
open Go.RowKit Go.Shelf
set_option linter.unusedVariables false
set_option linter.unusedSimpArgs false
theorem ext_head {s : ByteArray} {k e : Nat} {c : UInt8} {l : List UInt8} (h1 : k < e) (h2 : e ≤ s.size) (h : (s.extract k e).toList = c :: l) : bt s k = c := by
  have := bt_ext s k e 0 (by omega) h2
  rw [Nat.add_zero] at this
  rw [← this]
  unfold bt
  rw [ByteArray.toList_eq] at h
  rw [h]
  rfl
theorem txS_len (s : ByteArray) (f : Nat) : ∀ (n k : Nat) (l l' : List UInt8) (e : Nat), s.size - k = n → txS s f k l = .ok l' e → l'.length ≤ 127 := by
  intro n
  induction n using Nat.strongRecOn with
  | ind n ih =>
    intro k l l' e hn h
    by_cases hlt : k < s.size
    · by_cases c : bt s k = 34
      · rw [txS_q s f k l hlt c] at h
        split at h
        · exact TR.noConfusion h
        · obtain ⟨rfl, _⟩ := TR.ok.inj h
          omega
      · by_cases d : bt s k = 92
        · by_cases e0 : (esc3 s k).2 = 0
          · rw [txS_e0 s f k l hlt d e0] at h
            exact TR.noConfusion h
          · rw [txS_e s f k l hlt d e0] at h
            exact ih (s.size - (k + (esc3 s k).2)) (by omega) _ _ _ _ rfl h
        · by_cases e0 : iv (bt s k) < 32
          · rw [txS_low s f k l hlt c d e0] at h
            exact TR.noConfusion h
          · rw [txS_go s f k l hlt c d e0] at h
            exact ih (s.size - (k + 1)) (by omega) _ _ _ _ rfl h
    · rw [txS_end s f k l hlt] at h
      exact TR.noConfusion h
theorem tok_head {s : ByteArray} {k : Nat} {t : Tok} (hk : k < s.size) (h : tokS s k = .ok t) : (t.kind = 1 → bt s k = 34 ∧ t.text.size ≤ 127) ∧ (t.kind = 2 → digB (iv (bt s k)) = true ∨ bt s k = 45) ∧ ((t.kind = 3 ∨ t.kind = 4) → ∀ c l, t.text.toList = c :: l → bt s k = c) := by
  have hin := tok_in hk h
  unfold tokS at h
  split at h
  · rename_i h34
    cases hx : txS s k (k + 1) [] with
    | bad c a => rw [hx] at h; exact RR.noConfusion h
    | ok l e =>
      rw [hx] at h
      have hl := txS_len s k _ (k + 1) [] l e rfl hx
      have ht := RR.ok.inj h
      subst ht
      exact ⟨fun _ => ⟨h34, by show l.toArray.size ≤ 127; simpa using hl⟩, fun h2 => (by cases h2), fun h2 => (by rcases h2 with h2 | h2 <;> cases h2)⟩
  · split at h
    · rename_i hd
      unfold numTok at h
      split at h
      · exact RR.noConfusion h
      · have ht := RR.ok.inj h
        subst ht
        refine ⟨fun h1 => (by cases h1), fun _ => ?_, fun h2 => (by rcases h2 with h2 | h2 <;> cases h2)⟩
        rcases hd with hd | hd
        · exact Or.inl hd
        · exact Or.inr hd.1
    · split at h
      · have ht := RR.ok.inj h
        subst ht
        exact ⟨fun h1 => (by cases h1), fun h2 => (by cases h2), fun _ c l hc => ext_head hin.2.1 hin.2.2 hc⟩
      · unfold markS at h
        split at h
        · have ht := RR.ok.inj h
          subst ht
          exact ⟨fun h1 => (by cases h1), fun h2 => (by cases h2), fun _ c l hc => ext_head hin.2.1 hin.2.2 hc⟩
        · split at h
          · have ht := RR.ok.inj h
            subst ht
            exact ⟨fun h1 => (by cases h1), fun h2 => (by cases h2), fun _ c l hc => ext_head hin.2.1 hin.2.2 hc⟩
          · exact RR.noConfusion h
/-- The byte with which a part begins. -/
def BgC (k n : Int) (c : UInt8) : Prop :=
  (k = 3 ∧ c = 33) ∨ (k = 4 ∧ c = 38) ∨ (k = 5 ∧ c = 124) ∨ (k = 13 ∧ c = 123) ∨ (k = 6 ∧ (c = 61 ∨ c = 33 ∨ c = 60 ∨ c = 62)) ∨ (k = 11 ∧ c = 34) ∨ (k = 12 ∧ (c = 45 ∨ digB (iv c) = true)) ∨
  (k = 7 ∧ n = 0 ∧ c = 105) ∨ (k = 7 ∧ n = 1 ∧ c = 110) ∨ (k = 1 ∧ c = 116) ∨ (k = 2 ∧ c = 102) ∨ (k = 8 ∧ c = 110) ∨ (k = 9 ∧ c = 97) ∨ (k = 10 ∧ c = 116) ∨ (k = 19 ∧ c = 105) ∨ (k = 20 ∧ c = 99) ∨
  ((k = 14 ∨ k = 15 ∨ k = 16 ∨ k = 17 ∨ k = 18) ∧ ((n = 2 ∧ c = 110) ∨ (n = 1 ∧ c = 112) ∨ (n = 3 ∧ c = 105)))
theorem cmp_head {l : List UInt8} (h : cmpO l ≠ 0) : ∃ c r, l = c :: r ∧ (c = 61 ∨ c = 33 ∨ c = 60 ∨ c = 62) := by
  unfold cmpO at h
  repeat' (split at h)
  all_goals first | (rename_i e; subst e; exact ⟨_, _, rfl, by decide⟩) | (exact absurd rfl h)
theorem bg_byte {src : ByteArray} {t : Tok} {k n : Int} {c : UInt8} (hb : BgT k n t) (h1 : t.kind = 1 → c = 34) (h2 : t.kind = 2 → digB (iv c) = true ∨ c = 45) (h3 : (t.kind = 3 ∨ t.kind = 4) → ∀ d l, t.text.toList = d :: l → c = d) : BgC k n c := by
  unfold BgT at hb
  unfold BgC
  rcases hb with ⟨h4, hb⟩ | ⟨h4, hb⟩ | ⟨h4, hb⟩ | ⟨h4, hb⟩
  · have h5 := h3 (Or.inr h4)
    rcases hb with ⟨hk, hb⟩ | ⟨hk, hb⟩ | ⟨hk, hb⟩ | ⟨hk, hb⟩ | ⟨hk, hb⟩
    · have := h5 _ _ hb; simp [hk, this]
    · have := h5 _ _ hb; simp [hk, this]
    · have := h5 _ _ hb; simp [hk, this]
    · have := h5 _ _ hb; simp [hk, this]
    · obtain ⟨d, r, e, hd⟩ := cmp_head hb
      have := h5 _ _ e
      rw [← this] at hd
      exact Or.inr (Or.inr (Or.inr (Or.inr (Or.inl ⟨hk, hd⟩))))
  · have := h1 h4; simp [hb, this]
  · exact Or.inr (Or.inr (Or.inr (Or.inr (Or.inr (Or.inr (Or.inl ⟨hb, (h2 h4).symm⟩))))))
  · have h5 := h3 (Or.inl h4)
    rcases hb with ⟨hk, hn, hb⟩ | ⟨hk, hn, hb⟩ | ⟨hk, hb⟩ | ⟨hk, hb⟩ | ⟨hk, hb⟩ | ⟨hk, hb⟩ | ⟨hk, hb⟩ | ⟨hk, hb⟩ | ⟨hk, hb⟩ | ⟨hk, hb⟩
    · have := h5 _ _ hb; simp [hk, hn, this]
    · have := h5 _ _ hb; simp [hk, hn, this]
    · have := h5 _ _ hb; simp [hk, this]
    · have := h5 _ _ hb; simp [hk, this]
    · have := h5 _ _ hb; simp [hk, this]
    · have := h5 _ _ hb; simp [hk, this]
    · have := h5 _ _ hb; simp [hk, this]
    · have := h5 _ _ hb; simp [hk, this]
    · have := h5 _ _ hb; simp [hk, this]
    · refine Or.inr (Or.inr (Or.inr (Or.inr (Or.inr (Or.inr (Or.inr (Or.inr (Or.inr (Or.inr (Or.inr (Or.inr (Or.inr (Or.inr (Or.inr (Or.inr ⟨hk, ?_⟩)))))))))))))))
      rcases hb with ⟨hn, hb⟩ | ⟨hn, hb⟩ | ⟨hn, hb⟩
      · exact Or.inl ⟨hn, h5 _ _ hb⟩
      · exact Or.inr (Or.inl ⟨hn, h5 _ _ hb⟩)
      · exact Or.inr (Or.inr ⟨hn, h5 _ _ hb⟩)
theorem bgT_kind {k n : Int} {t : Tok} (hb : BgT k n t) : t.kind ≠ 0 := by
  unfold BgT at hb
  omega
theorem scan_txt {src : ByteArray} (h : (scanT src).2 = none) : Txt (scanT src).1 := fun i hk => by
  obtain ⟨_, h2, h3, _, _⟩ := tk_spec h (i := i) (by rw [hk]; decide)
  exact ((tok_head h2 h3).1 hk).2
theorem bgt_byte {src : ByteArray} (h : (scanT src).2 = none) {p : Pt} {x : Int} (hb : Bgt (scanT src).1 p x) : ∃ n : Nat, x = (n : Int) ∧ n < src.size ∧ BgC p.kind p.num (bt src n) := by
  obtain ⟨i, hx, hb⟩ := hb
  obtain ⟨_, h2, h3, _, _⟩ := tk_spec h (bgT_kind hb)
  have ⟨a1, a2, a3⟩ := tok_head h2 h3
  exact ⟨_, hx, h2, bg_byte (src := src) hb (fun hk => (a1 hk).1) a2 a3⟩
theorem gs_zero (T : List Tok) : Gs T [] ⟨0, 0, [], []⟩ := ⟨rfl, rfl, fun j hj => absurd hj (Nat.not_lt_zero _)⟩
/-- What stands of a tree that was read. -/
structure Rdd (src : ByteArray) (s : PS) : Prop where
  len : s.os.length = s.ps.length
  top : (fre s.ps s.ps.length).length = 1
  most : s.ps.length ≤ 1000
  ok : ∀ j, j < s.ps.length → (pt s.ps j).kids.length ≤ (fre s.ps j).length ∧ (pt s.ps j).kids = (fre s.ps j).drop ((fre s.ps j).length - (pt s.ps j).kids.length) ∧ (pt s.ps j).text.size ≤ 127 ∧ Ari (pt s.ps j).kind (pt s.ps j).kids.length
  bg : ∀ j, j < s.ps.length → ∃ n : Nat, s.os.getD j 0 = (n : Int) ∧ n < src.size ∧ BgC (pt s.ps j).kind (pt s.ps j).num (bt src n)
theorem either_ok {src : ByteArray} {s : PS} (h : parR src = .ok s) : Rdd src s := by
  unfold parR at h
  cases hs : (scanT src).2 with
  | some q => obtain ⟨c, a⟩ := q; rw [hs] at h; cases h
  | none =>
    rw [hs] at h
    simp only at h
    cases hw : wholeP (scanT src).1 16392 with
    | error q => rw [hw] at h; cases h
    | ok q =>
      obtain ⟨u, s1⟩ := q
      rw [hw] at h
      simp only [Except.ok.injEq] at h
      subst h
      unfold wholeP at hw
      obtain ⟨k, s2, e1, e2⟩ := bnd_inv hw
      have g := fo_gr (scan_txt hs) _ _ _ _ _ _ (gs_zero _) e1
      split at e2
      · split at e2
        · cases e2
        · rename_i h1000
          injection e2 with e2; injection e2 with _ e2; subst e2
          exact ⟨g.len, by rw [g.fr]; rfl, by omega, fun j hj => by have h5 := g.ok j hj; exact ⟨h5.1, h5.2.1, h5.2.2.1, h5.2.2.2.1⟩, fun j hj => bgt_byte hs (g.ok j hj).2.2.2.2⟩
      · cases e2
theorem ft_at {src : ByteArray} (h : (scanT src).2 = none) {i c : Nat} {x : Int} (hf : Ft (scanT src).1 i c x) : 120 ≤ c ∧ c ≤ 124 ∧ 0 ≤ x ∧ x ≤ (src.size : Int) := by
  have ha : (tk (scanT src).1 i).a ≤ src.size := by
    by_cases h0 : (tk (scanT src).1 i).kind = 0
    · by_cases hi : i < (scanT src).1.length
      · obtain ⟨_, l, hl, hs⟩ := scan_shape h
        have h4 := tk_mem hi
        have h6 : tk (scanT src).1 i ∈ l ∨ tk (scanT src).1 i = tokE src.size := by
          rw [hl] at h4
          rcases List.mem_append.1 h4 with h5 | h5
          · rw [hl]; exact Or.inl h5
          · rw [hl]; exact Or.inr (List.mem_singleton.1 h5)
        rcases h6 with h5 | h5
        · exact Nat.le_of_lt (hs _ h5).1
        · rw [h5]; exact Nat.le_refl _
      · unfold tk
        rw [List.getD_eq_getElem?_getD, List.getElem?_eq_none (by omega)]
        exact Nat.zero_le _
    · exact Nat.le_of_lt (tk_spec h h0).2.1
  have h1 := hf.1
  have h2 := hf.2
  omega
theorem either_bad {src : ByteArray} {c : Nat} {x : Int} (h : parR src = .error (c, x)) : ((110 ≤ c ∧ c ≤ 115) ∨ (120 ≤ c ∧ c ≤ 124)) ∧ 0 ≤ x ∧ x ≤ (src.size : Int) := by
  have hcode := parR_code h
  unfold parR at h
  cases hs : (scanT src).2 with
  | some q =>
    obtain ⟨c', a'⟩ := q
    rw [hs] at h
    simp only [Except.error.injEq, Prod.mk.injEq] at h
    have hc := scanT_codes hs
    have ha : a' ≤ src.size := by
      unfold scanT at hs
      split at hs
      · exact Nat.le_of_lt (scan_at src _ 0 rfl c' a' hs)
      · rename_i h0
        injection hs with hs; injection hs with _ hs
        omega
    omega
  | none =>
    rw [hs] at h
    simp only at h
    cases hw : wholeP (scanT src).1 16392 with
    | ok q => rw [hw] at h; cases h
    | error q =>
      rw [hw] at h
      simp only [Except.error.injEq] at h
      subst h
      unfold wholeP at hw
      cases hg : gr (scanT src).1 16392 .expr ⟨0, 0, [], []⟩ with
      | error q =>
        obtain ⟨c', x'⟩ := q
        rw [hg, bnd_bad] at hw
        injection hw with hw
        injection hw with e1 e2
        subst e1
        subst e2
        obtain ⟨i, _, h4, _⟩ := (loc_gr 16392 .expr (scanT src).1 ⟨0, 0, [], []⟩).2 _ _ hg
        rcases h4 with ⟨h4, _⟩ | h4
        · exact absurd h4 hcode
        · have := ft_at hs h4
          omega
      | ok q =>
        obtain ⟨k, s2⟩ := q
        rw [hg, bnd_ok] at hw
        have g := fo_gr (scan_txt hs) _ _ _ _ _ _ (gs_zero _) hg
        split at hw
        · split at hw
          · rename_i h1000
            injection hw with hw
            injection hw with e1 e2
            obtain ⟨n, hn, hlt, _⟩ := bgt_byte hs (g.ok 1000 h1000).2.2.2.2
            rw [e2] at hn
            omega
          · cases hw
        · injection hw with hw
          have hf := ft_ref (scanT src).1 s2
          rw [hw] at hf
          have := ft_at hs hf
          simp only at this
          omega
end Go.Proofs.YtcldglilhhhdoaaGreatDoor.L
