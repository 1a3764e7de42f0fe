import Derived.Test.YtcldglilhhhdoaaGreatDoorPcE
import Derived.Test.YtcldglilhhhdoaaGreatDoorPbN
namespace Go.Proofs.YtcldglilhhhdoaaGreatDoor.L
open Go.RowKit Go.Shelf
set_option linter.unusedVariables false
/-- What s has from k to e stands in w from d on; behind it the end or a blank. -/
structure Em2 (s w : ByteArray) (k e d : Nat) : Prop where
  le : k ≤ e
  ls : e ≤ s.size
  sz : d + (e - k) ≤ w.size
  same : ∀ j, j < e - k → bt w (d + j) = bt s (k + j)
  stop : bt w (d + (e - k)) = bt s e ∨ (inwB (iv (bt w (d + (e - k)))) = false ∧ ∀ a, mk2 a (bt w (d + (e - k))) = false)
theorem Em2.at {s w : ByteArray} {k e d : Nat} (E : Em2 s w k e d) {i : Nat} (h1 : k ≤ i) (h2 : i < e) : bt w (d + (i - k)) = bt s i := by
  rw [E.same (i - k) (by omega), show k + (i - k) = i by omega]
theorem Em2.text {s w : ByteArray} {k e d : Nat} (E : Em2 s w k e d) : w.extract d (d + (e - k)) = s.extract k e := by
  have h1 := E.le
  have h2 := E.ls
  have h3 := E.sz
  apply list_eq_of_bt
  · simp; omega
  · intro j hj
    have hj' : j < e - k := by simp at hj; omega
    rw [bt_ext w d (d + (e - k)) j (by omega) h3, bt_ext s k e j (by omega) h2]
    exact E.same j hj'
theorem em2_beh {s w : ByteArray} {k e d : Nat} (E : Em2 s w k e d) : ∀ (n i : Nat), e - i = n → k ≤ i → i ≤ e → behW s i = e → behW w (d + (i - k)) = d + (e - k) := by
  intro n
  induction n using Nat.strongRecOn with
  | ind n ih =>
    intro i hn h1 h2 h
    have h3 := E.sz
    have h4 := E.ls
    by_cases hl : i < e
    · have hs : i < s.size := by omega
      cases c : inwB (iv (bt s i))
      · rw [behW_no s i hs c] at h
        omega
      · rw [behW_go s i hs c] at h
        rw [behW_go w (d + (i - k)) (by omega) (by rw [E.at h1 hl]; exact c), show d + (i - k) + 1 = d + (i + 1 - k) by omega]
        exact ih (e - (i + 1)) (by omega) (i + 1) rfl (by omega) (by omega) h
    · have e1 : i = e := by omega
      subst e1
      by_cases hw : d + (i - k) < w.size
      · refine behW_no w _ hw ?_
        rcases E.stop with h0 | h0
        · rw [h0]
          by_cases hs : i < s.size
          · cases c : inwB (iv (bt s i))
            · rfl
            · have h5 := behW_go s i hs c
              have h6 := (behW_in s _ (i + 1) rfl).1
              omega
          · rw [bt_out s i (by omega)]
            decide
        · exact h0.1
      · exact behW_end w _ hw
theorem esc3_em2 {s w : ByteArray} {k e d : Nat} (E : Em2 s w k e d) {i : Nat} (h1 : k ≤ i) (h0 : (esc3 s i).2 ≠ 0) (h2 : i + (esc3 s i).2 ≤ e) : esc3 w (d + (i - k)) = esc3 s i := by
  have hin := esc_in h0
  have e1 : bt w (d + (i - k) + 1) = bt s (i + 1) := by rw [show d + (i - k) + 1 = d + (i + 1 - k) by omega]; exact E.at (by omega) (by omega)
  rcases hin.2 with h2' | h4
  · unfold esc3 at h2' ⊢
    rw [e1]
    unfold escV at h2' ⊢
    by_cases g1 : bt s (i + 1) = 34
    · simp [g1]
    by_cases g2 : bt s (i + 1) = 92
    · simp [g2]
    by_cases g3 : bt s (i + 1) = 110
    · simp [g3]
    by_cases g4 : bt s (i + 1) = 116
    · simp [g4]
    by_cases g5 : bt s (i + 1) = 114
    · simp [g5]
    rw [if_neg g1, if_neg g2, if_neg g3, if_neg g4, if_neg g5] at h2'
    split at h2' <;> simp at h2'
  · have e2 : bt w (d + (i - k) + 2) = bt s (i + 2) := by rw [show d + (i - k) + 2 = d + (i + 2 - k) by omega]; exact E.at (by omega) (by omega)
    have e3 : bt w (d + (i - k) + 3) = bt s (i + 3) := by rw [show d + (i - k) + 3 = d + (i + 3 - k) by omega]; exact E.at (by omega) (by omega)
    unfold esc3
    rw [e1, e2, e3]
theorem em2_tx {s w : ByteArray} {k e d : Nat} (E : Em2 s w k e d) (f g : Nat) : ∀ (n i : Nat) (l l' : List UInt8), e - i = n → k ≤ i → txS s f i l = .ok l' e → txS w g (d + (i - k)) l = .ok l' (d + (e - k)) := by
  intro n
  induction n using Nat.strongRecOn with
  | ind n ih =>
    intro i l l' hn h1 h
    have h3 := E.sz
    have h4 := E.ls
    by_cases hlt : i < s.size
    · have hie := (txS_in s f _ i l rfl (by omega) l' e h).1
      have es := E.at h1 hie
      have hw : d + (i - k) < w.size := by omega
      by_cases c : bt s i = 34
      · rw [txS_q s f i l hlt c] at h
        rw [txS_q w g _ l hw (by rw [es]; exact c)]
        split at h
        · exact TR.noConfusion h
        · rename_i hll
          obtain ⟨e1, e2⟩ := TR.ok.inj h
          rw [if_neg hll, e1, show d + (i - k) + 1 = d + (e - k) by omega]
      · by_cases dd : bt s i = 92
        · by_cases e0 : (esc3 s i).2 = 0
          · rw [txS_e0 s f i l hlt dd e0] at h
            exact TR.noConfusion h
          · rw [txS_e s f i l hlt dd e0] at h
            have hg := esc_in e0
            have hie2 := (txS_in s f _ _ _ rfl hg.1 l' e h).1
            have hx := esc3_em2 E h1 e0 (by omega)
            rw [txS_e w g _ l hw (by rw [es]; exact dd) (by rw [hx]; exact e0), hx, show d + (i - k) + (esc3 s i).2 = d + (i + (esc3 s i).2 - k) by omega]
            exact ih (e - (i + (esc3 s i).2)) (by omega) _ _ _ rfl (by omega) h
        · by_cases e0 : iv (bt s i) < 32
          · rw [txS_low s f i l hlt c dd e0] at h
            exact TR.noConfusion h
          · rw [txS_go s f i l hlt c dd e0] at h
            rw [txS_go w g _ l hw (by rw [es]; exact c) (by rw [es]; exact dd) (by rw [es]; exact e0), es, show d + (i - k) + 1 = d + (i + 1 - k) by omega]
            exact ih (e - (i + 1)) (by omega) _ _ _ rfl (by omega) h
    · rw [txS_end s f i l hlt] at h
      exact TR.noConfusion h
/-- A token read where it stands is read in another source. -/
theorem tok_em2 {s w : ByteArray} {k d : Nat} {t : Tok} (hk : k < s.size) (h : tokS s k = .ok t) (E : Em2 s w k t.e d) : tokS w d = .ok ⟨t.kind, t.text, t.num, d, d + (t.e - k)⟩ := by
  have hin := tok_in hk h
  have h3 := E.sz
  have e0 : bt w d = bt s k := by have := E.at (Nat.le_refl k) hin.2.1; rwa [Nat.sub_self, Nat.add_zero] at this
  have htx := E.text
  unfold tokS at h ⊢
  rw [e0]
  by_cases c34 : bt s k = 34
  · rw [if_pos c34] at h ⊢
    cases hx : txS s k (k + 1) [] with
    | bad c a => rw [hx] at h; exact RR.noConfusion h
    | ok l e =>
      rw [hx] at h
      have ht := RR.ok.inj h
      subst ht
      have := em2_tx E k d _ (k + 1) [] l rfl (by omega) hx
      rw [show d + (k + 1 - k) = d + 1 by omega] at this
      rw [this]
      rfl
  · rw [if_neg c34] at h ⊢
    by_cases cd : digB (iv (bt s k)) = true ∨ (bt s k = 45 ∧ digB (iv (bt s (k + 1))) = true)
    · rw [if_pos cd] at h
      have hnum : numTok s k = .ok t := h
      unfold numTok at h
      have hlt1 : k + 1 ≤ behW s (k + 1) := (behW_in s _ (k + 1) rfl).1
      cases hn : numS (s.extract k (behW s (k + 1))) with
      | none => rw [hn] at h; exact RR.noConfusion h
      | some n =>
        rw [hn] at h
        have ht := RR.ok.inj h
        subst ht
        have hbw := em2_beh E _ (k + 1) rfl (by omega) hlt1 rfl
        rw [show d + (k + 1 - k) = d + 1 by omega] at hbw
        have cd' : digB (iv (bt s k)) = true ∨ (bt s k = 45 ∧ digB (iv (bt w (d + 1))) = true) := by
          rcases cd with cd | ⟨c1, c2⟩
          · exact Or.inl cd
          · refine Or.inr ⟨c1, ?_⟩
            have hlt : k + 1 < s.size := by
              apply Classical.byContradiction
              intro nn
              rw [bt_out s (k + 1) (by omega)] at c2
              exact absurd c2 (by decide)
            have hgt : k + 1 < behW s (k + 1) := by
              have e1 : behW s (k + 1) = behW s (k + 1 + 1) := behW_go s (k + 1) hlt (dig_inw c2)
              have := (behW_in s _ (k + 1 + 1) rfl).1
              omega
            have := E.at (i := k + 1) (by omega) hgt
            rw [show d + (k + 1 - k) = d + 1 by omega] at this
            rw [this]
            exact c2
        rw [if_pos cd']
        unfold numTok
        simp only at htx
        rw [hbw, htx, hn]
    · rw [if_neg cd] at h
      by_cases ci : inwB (iv (bt s k)) = true
      · rw [if_pos ci] at h
        have ht := RR.ok.inj h
        subst ht
        have hbw := em2_beh E _ k rfl (Nat.le_refl _) (by have := (behW_in s _ k rfl).1; exact this) rfl
        rw [Nat.sub_self, Nat.add_zero] at hbw
        have cd' : ¬ (digB (iv (bt s k)) = true ∨ (bt s k = 45 ∧ digB (iv (bt w (d + 1))) = true)) := by
          rintro (c1 | ⟨c1, c2⟩)
          · exact cd (Or.inl c1)
          · rw [c1] at ci; exact absurd ci (by decide)
        rw [if_neg cd', if_pos ci, hbw]
        simp only at htx
        rw [htx]
      · rw [if_neg ci] at h
        have c45 : bt s k ≠ 45 := by
          intro e
          unfold markS at h
          rw [e] at h
          rw [if_neg (by unfold mk2; simp), if_neg (by decide)] at h
          exact RR.noConfusion h
        rw [if_neg (by rintro (c1 | ⟨c1, c2⟩); exact cd (Or.inl c1); exact c45 c1), if_neg ci]
        unfold markS at h ⊢
        rw [e0]
        by_cases m : mk2 (bt s k) (bt s (k + 1)) = true
        · rw [if_pos m] at h
          have ht := RR.ok.inj h
          subst ht
          have e1 := E.at (i := k + 1) (by omega) (by show k + 1 < k + 2; omega)
          rw [show d + (k + 1 - k) = d + 1 by omega] at e1
          simp only at htx
          rw [show d + (k + 2 - k) = d + 2 by omega] at htx ⊢
          rw [e1, if_pos m, htx]
        · rw [if_neg m] at h
          by_cases m1 : mk1 (bt s k) = true
          · rw [if_pos m1] at h
            have ht := RR.ok.inj h
            subst ht
            have hst := E.stop
            simp only at htx hst
            rw [show d + (k + 1 - k) = d + 1 by omega] at htx hst ⊢
            have m' : ¬ mk2 (bt s k) (bt w (d + 1)) = true := by
              rcases hst with h0 | h0
              · rw [h0]; exact m
              · rw [h0.2]; decide
            rw [if_neg m', if_pos m1, htx]
          · rw [if_neg m1] at h
            exact RR.noConfusion h
/-- Two sources agree ahead of n. -/
structure Pre (s w : ByteArray) (n : Nat) : Prop where
  ls : n ≤ s.size
  lw : n ≤ w.size
  same : ∀ j, j < n → bt w j = bt s j
theorem nlAt_pre {s w : ByteArray} {m : Nat} (E : Pre s w m) : ∀ (n k : Nat), m - k = n → nlAt s k < m → nlAt w k = nlAt s k := by
  intro n
  induction n using Nat.strongRecOn with
  | ind n ih =>
    intro k hn hk
    have hz := E.ls
    have hy := E.lw
    by_cases hl : k < m
    · by_cases c : bt s k = 10
      · rw [nlAt_yes s k (by omega) c, nlAt_yes w k (by omega) (by rw [E.same k hl]; exact c)]
      · rw [nlAt_go s k (by omega) c] at hk ⊢
        rw [nlAt_go w k (by omega) (by rw [E.same k hl]; exact c)]
        exact ih (m - (k + 1)) (by omega) (k + 1) rfl hk
    · rcases Nat.lt_or_ge s.size k with h9 | h9
      · rw [nlAt_end s k (by omega)] at hk
        omega
      · have := (nlAt_in s k h9).1
        omega
theorem gapS_pre {s w : ByteArray} {m : Nat} (E : Pre s w m) : ∀ (n k : Nat), m - k = n → gapS s k < m → gapS w k = gapS s k := by
  intro n
  induction n using Nat.strongRecOn with
  | ind n ih =>
    intro k hn hk
    have hz := E.ls
    have hy := E.lw
    by_cases hl : k < m
    · by_cases c : bt s k = 35
      · rw [gapS_rem s k (by omega) c] at hk ⊢
        have h1 := gapS_ge s (nlAt s k)
        have h2 := nlAt_gt s k (by omega) (by rw [c]; decide)
        rw [gapS_rem w k (by omega) (by rw [E.same k hl]; exact c), nlAt_pre E _ k rfl (by omega)]
        exact ih (m - nlAt s k) (by omega) _ rfl hk
      · cases b : blkB (iv (bt s k))
        · rw [gapS_no s k (by omega) c b, gapS_no w k (by omega) (by rw [E.same k hl]; exact c) (by rw [E.same k hl]; exact b)]
        · rw [gapS_blk s k (by omega) b] at hk ⊢
          rw [gapS_blk w k (by omega) (by rw [E.same k hl]; exact b)]
          exact ih (m - (k + 1)) (by omega) _ rfl hk
    · have h1 := gapS_ge s k
      omega
theorem tok_pre {s w : ByteArray} {m k : Nat} {t : Tok} (E : Pre s w m) (hk : k < s.size) (h : tokS s k = .ok t) (he : t.e ≤ m) (hs : t.e < m ∨ (inwB (iv (bt w m)) = false ∧ ∀ a, mk2 a (bt w m) = false)) : tokS w k = .ok t := by
  have hin := tok_in hk h
  have h1 := E.ls
  have h2 := E.lw
  have hh := tok_em2 (d := k) hk h ⟨by omega, by omega, by omega, fun j hj => E.same _ (by omega), by
    rw [show k + (t.e - k) = t.e by omega]
    by_cases hl : t.e < m
    · exact Or.inl (E.same _ hl)
    · have e1 : t.e = m := by omega
      rcases hs with h5 | h5
      · exact absurd h5 hl
      · rw [e1]; exact Or.inr h5⟩
  rw [hh]
  obtain ⟨q1, q2, q3, q4, q5⟩ := t
  simp only at hin
  simp only [RR.ok.injEq, Tok.mk.injEq, true_and]
  exact ⟨hin.1.symm, by omega⟩
theorem scan_after (s : ByteArray) : ∀ (n k : Nat), s.size - k = n → k ≤ s.size → (scanS s k).2 = none → ∀ q, q < (scanS s k).1.length → k ≤ (tk (scanS s k).1 q).e := by
  intro n
  induction n using Nat.strongRecOn with
  | ind n ih =>
    intro k hn hk h0 q hq
    by_cases hl : gapS s k < s.size
    · cases ht : tokS s (gapS s k) with
      | bad c a => rw [scan_bad hl ht] at h0; cases h0
      | ok t =>
        have hin := tok_in hl ht
        have hg := gapS_ge s k
        rw [scan_go hl ht] at h0 hq ⊢
        cases q with
        | zero => show k ≤ t.e; omega
        | succ q =>
          have := ih (s.size - t.e) (by omega) t.e rfl hin.2.2 h0 q (by simpa using hq)
          show k ≤ (tk (scanS s t.e).1 q).e
          omega
    · rw [scan_fin hl] at hq ⊢
      simp at hq
      subst hq
      exact hk
/-- The tokens of a prefix stand ahead in every source that goes on behind a blank. -/
theorem scan_pre {s w : ByteArray} {m : Nat} (E : Pre s w m) (hs : inwB (iv (bt w m)) = false ∧ ∀ a, mk2 a (bt w m) = false) : ∀ (n k i : Nat), s.size - k = n → k ≤ s.size → (scanS s k).2 = none → i + 1 < (scanS s k).1.length → (tk (scanS s k).1 i).e ≤ m → (scanS w k).2 = none → ∀ j, j ≤ i → tk (scanS w k).1 j = tk (scanS s k).1 j := by
  intro n
  induction n using Nat.strongRecOn with
  | ind n ih =>
    intro k i hn hk h0 hi he hw j hj
    have h1 := E.ls
    have h2 := E.lw
    by_cases hl : gapS s k < s.size
    · cases ht : tokS s (gapS s k) with
      | bad c a => rw [scan_bad hl ht] at h0; cases h0
      | ok t =>
        have hin := tok_in hl ht
        have hg := gapS_ge s k
        rw [scan_go hl ht] at h0 hi he ⊢
        have hte : t.e ≤ m := by
          cases i with
          | zero => exact he
          | succ i =>
            have hsp := toks_spec s _ t.e rfl hin.2.2 h0
            have hch : ∀ q, q < (scanS s t.e).1.length → t.e ≤ (tk (scanS s t.e).1 q).e := scan_after s _ t.e rfl hin.2.2 h0
            have h5 : t.e ≤ (tk (scanS s t.e).1 i).e := hch i (by simp at hi; omega)
            have h6 : (tk (t :: (scanS s t.e).1) (i + 1)).e = (tk (scanS s t.e).1 i).e := rfl
            simp only at he
            omega
        have hgw := gapS_pre E _ k rfl (by omega)
        have htw : tokS w (gapS w k) = .ok t := by
          rw [hgw]
          exact tok_pre E hl ht hte (Or.inr hs)
        have hgl : gapS w k < w.size := by rw [hgw]; omega
        rw [scan_go hgl htw] at hw ⊢
        cases j with
        | zero => rfl
        | succ j =>
          cases i with
          | zero => omega
          | succ i =>
            exact ih (s.size - t.e) (by omega) t.e i rfl hin.2.2 h0 (by simpa using hi) he hw j (by omega)
    · rw [scan_fin hl] at hi
      simp at hi
end Go.Proofs.YtcldglilhhhdoaaGreatDoor.L
namespace Go.Proofs.YtcldglilhhhdoaaGreatDoor.L
open Go.RowKit
set_option linter.unusedVariables false
set_option linter.unusedSimpArgs false
/-- Two lists of tokens agree ahead of n. -/
def Ag (T T' : List Tok) (n : Nat) : Prop := ∀ j, j < n → tk T' j = tk T j
theorem Ag.le {T T' : List Tok} {n m : Nat} (h : Ag T T' n) (hm : m ≤ n) : Ag T T' m := fun j hj => h j (by omega)
/-- A fault of the token at i. -/
def Ft (T : List Tok) (i c : Nat) (x : Int) : Prop := x = ((tk T i).a : Int) ∧ ((c = 121 ∧ (tk T i).kind = 0) ∨ ((c = 120 ∨ c = 122 ∨ c = 124) ∧ (tk T i).kind ≠ 0))
/-- What is read hangs on the tokens up to the one that is looked at, or that is refused. -/
def Loc {α : Type} (p : List Tok → PS → PRes α) : Prop := ∀ T s,
  (∀ a s', p T s = .ok (a, s') → s.nx ≤ s'.nx ∧ ∀ T', Ag T T' (s'.nx + 1) → p T' s = .ok (a, s')) ∧
  (∀ c x, p T s = .error (c, x) → ∃ i, s.nx ≤ i ∧ ((c = 0 ∧ x = 0) ∨ Ft T i c x) ∧ ∀ T', Ag T T' (i + 1) → p T' s = .error (c, x))
theorem loc_prim {α : Type} {p : List Tok → PS → PRes α} (h : ∀ T s, (∃ a s', p T s = .ok (a, s') ∧ s.nx ≤ s'.nx ∧ ∀ T', tk T' s.nx = tk T s.nx → p T' s = .ok (a, s')) ∨ (∃ c x, p T s = .error (c, x) ∧ Ft T s.nx c x ∧ ∀ T', tk T' s.nx = tk T s.nx → p T' s = .error (c, x))) : Loc p := by
  intro T s
  rcases h T s with ⟨a, s', e, h1, h2⟩ | ⟨c, x, e, h1, h2⟩
  · refine ⟨fun a' s'' e' => ?_, fun c x e' => ?_⟩
    · rw [e] at e'
      injection e' with e'
      injection e' with e1 e2
      subst e1
      subst e2
      exact ⟨h1, fun T' hT => h2 T' (hT _ (by omega))⟩
    · rw [e] at e'
      cases e'
  · refine ⟨fun a' s'' e' => ?_, fun c' x' e' => ?_⟩
    · rw [e] at e'
      cases e'
    · rw [e] at e'
      injection e' with e'
      injection e' with e1 e2
      subst e1
      subst e2
      exact ⟨s.nx, Nat.le_refl _, Or.inr h1, fun T' hT => h2 T' (hT _ (by omega))⟩
theorem loc_ok {α : Type} (a : α) (f : PS → PS) (hf : ∀ s, s.nx ≤ (f s).nx) : Loc (fun _ s => .ok (a, f s)) :=
  loc_prim fun T s => Or.inl ⟨a, f s, rfl, hf s, fun _ _ => rfl⟩
theorem loc_put (p : Pt) (x : Int) (f : PS → PS) (hf : ∀ s, s.nx ≤ (f s).nx) : Loc (fun _ s => putP (f s) p x) :=
  loc_prim fun T s => Or.inl ⟨_, _, rfl, hf s, fun _ _ => rfl⟩
theorem ft_ref (T : List Tok) (s : PS) : Ft T s.nx (rfE T s).1 (rfE T s).2 := by
  unfold rfE
  refine ⟨rfl, ?_⟩
  by_cases h : (tk T s.nx).kind = 0
  · rw [if_pos h]; exact Or.inl ⟨rfl, h⟩
  · rw [if_neg h]; exact Or.inr ⟨Or.inl rfl, h⟩
theorem ref_eq {T T' : List Tok} {s : PS} (h : tk T' s.nx = tk T s.nx) : rfE T' s = rfE T s := by unfold rfE; rw [h]
theorem isM_eq {T T' : List Tok} {s : PS} {m : List UInt8} (h : tk T' s.nx = tk T s.nx) : isM T' s m = isM T s m := by unfold isM; rw [h]
theorem loc_ref {α : Type} : Loc (fun T s => (.error (rfE T s) : PRes α)) :=
  loc_prim fun T s => Or.inr ⟨(rfE T s).1, (rfE T s).2, rfl, ft_ref T s, fun T' h => by rw [ref_eq h]⟩
theorem loc_mark (m : List UInt8) : Loc (fun T s => markP T s m) := by
  refine loc_prim fun T s => ?_
  cases h : isM T s m
  · refine Or.inr ⟨(rfE T s).1, (rfE T s).2, ?_, ft_ref T s, fun T' h' => ?_⟩
    · unfold markP; rw [h]; rfl
    · unfold markP; rw [isM_eq h', h, ref_eq h']; rfl
  · refine Or.inl ⟨(), adv s, ?_, Nat.le_succ _, fun T' h' => ?_⟩
    · unfold markP; rw [h]; rfl
    · unfold markP; rw [isM_eq h', h]; rfl
theorem loc_text : Loc (fun T s => textP T s) := by
  refine loc_prim fun T s => ?_
  by_cases h : (tk T s.nx).kind = 1
  · refine Or.inl ⟨(tk T s.nx).text, adv s, ?_, Nat.le_succ _, fun T' h' => ?_⟩
    · unfold textP; rw [if_pos h]
    · unfold textP; rw [h', if_pos h]
  · refine Or.inr ⟨(rfE T s).1, (rfE T s).2, ?_, ft_ref T s, fun T' h' => ?_⟩
    · unfold textP; rw [if_neg h]
    · unfold textP; rw [h', if_neg h, ref_eq h']
theorem loc_open (m : List UInt8) : Loc (fun T s => openP T s m) := by
  refine loc_prim fun T s => ?_
  cases h : isM T s m
  · refine Or.inr ⟨(rfE T s).1, (rfE T s).2, ?_, ft_ref T s, fun T' h' => ?_⟩
    · unfold openP; rw [h]; rfl
    · unfold openP; rw [isM_eq h', h, ref_eq h']; rfl
  · by_cases hn : s.ns = 32
    · refine Or.inr ⟨122, ((tk T s.nx).a : Int), ?_, ⟨rfl, Or.inr ⟨Or.inr (Or.inl rfl), isM_kind h⟩⟩, fun T' h' => ?_⟩
      · unfold openP; rw [h, if_pos rfl, if_pos hn]
      · unfold openP; rw [isM_eq h', h, if_pos rfl, if_pos hn, h']
    · refine Or.inl ⟨(), { adv s with ns := s.ns + 1 }, ?_, Nat.le_succ _, fun T' h' => ?_⟩
      · unfold openP; rw [h, if_pos rfl, if_neg hn]
      · unfold openP; rw [isM_eq h', h, if_pos rfl, if_neg hn]
theorem loc_el : Loc (fun T s => elP T s) := by
  refine loc_prim fun T s => ?_
  by_cases h : (tk T s.nx).kind = 1
  · refine Or.inl ⟨_, _, by unfold elP; rw [if_pos h]; rfl, Nat.le_succ _, fun T' h' => ?_⟩
    unfold elP; rw [h', if_pos h]; rfl
  · refine Or.inl ⟨_, _, by unfold elP; rw [if_neg h]; rfl, Nat.le_succ _, fun T' h' => ?_⟩
    unfold elP; rw [h', if_neg h]; rfl
theorem loc_const (k : Int) : Loc (fun T s => constP T s k) :=
  loc_prim fun T s => Or.inl ⟨_, _, rfl, Nat.le_succ _, fun T' h' => by unfold constP; rw [h']; rfl⟩
theorem loc_field : Loc (fun T s => fieldP T s) := by
  refine loc_prim fun T s => ?_
  by_cases h : fieldO (tk T s.nx) = 0
  · refine Or.inr ⟨(rfE T s).1, (rfE T s).2, ?_, ft_ref T s, fun T' h' => ?_⟩
    · unfold fieldP; rw [if_pos h]
    · unfold fieldP; rw [h', if_pos h, ref_eq h']
  · refine Or.inl ⟨_, _, by unfold fieldP; rw [if_neg h], Nat.le_succ _, fun T' h' => ?_⟩
    unfold fieldP; rw [h', if_neg h]
theorem loc_tok {α : Type} {f : Tok → List Tok → PS → PRes α} (h : ∀ t, Loc (f t)) : Loc (fun T s => f (tk T s.nx) T s) := by
  intro T s
  obtain ⟨h1, h2⟩ := h (tk T s.nx) T s
  refine ⟨fun a s' e => ?_, fun c x e => ?_⟩
  · obtain ⟨h3, h4⟩ := h1 a s' e
    refine ⟨h3, fun T' hT => ?_⟩
    show f (tk T' s.nx) T' s = _
    rw [hT s.nx (by omega)]
    exact h4 T' hT
  · obtain ⟨i, h3, h4, h5⟩ := h2 c x e
    refine ⟨i, h3, h4, fun T' hT => ?_⟩
    show f (tk T' s.nx) T' s = _
    rw [hT s.nx (by omega)]
    exact h5 T' hT
theorem loc_bnd {α β : Type} {p : List Tok → PS → PRes α} {f : α → List Tok → PS → PRes β} (hp : Loc p) (hf : ∀ a, Loc (f a)) : Loc (fun T s => bnd (p T s) (fun a s1 => f a T s1)) := by
  intro T s
  obtain ⟨h1, h2⟩ := hp T s
  refine ⟨fun b s' e => ?_, fun c x e => ?_⟩
  · obtain ⟨a, s1, e1, e2⟩ := bnd_inv e
    obtain ⟨h3, h4⟩ := h1 a s1 e1
    obtain ⟨h5, h6⟩ := (hf a T s1).1 b s' e2
    refine ⟨Nat.le_trans h3 h5, fun T' hT => ?_⟩
    show bnd (p T' s) _ = _
    rw [h4 T' (hT.le (by omega)), bnd_ok]
    exact h6 T' hT
  · cases e1 : p T s with
    | error q =>
      obtain ⟨c', x'⟩ := q
      have e' : bnd (p T s) (fun a s1 => f a T s1) = .error (c, x) := e
      rw [e1, bnd_bad] at e'
      injection e' with e'
      injection e' with ea eb
      subst ea
      subst eb
      obtain ⟨i, h3, h4, h5⟩ := h2 _ _ e1
      refine ⟨i, h3, h4, fun T' hT => ?_⟩
      show bnd (p T' s) _ = _
      rw [h5 T' hT, bnd_bad]
    | ok q =>
      obtain ⟨a, s1⟩ := q
      have e' : bnd (p T s) (fun a s1 => f a T s1) = .error (c, x) := e
      rw [e1, bnd_ok] at e'
      obtain ⟨h3, h4⟩ := h1 a s1 e1
      obtain ⟨i, h5, h6, h7⟩ := (hf a T s1).2 c x e'
      refine ⟨i, Nat.le_trans h3 h5, h6, fun T' hT => ?_⟩
      show bnd (p T' s) _ = _
      rw [h4 T' (hT.le (by omega)), bnd_ok]
      exact h7 T' hT
theorem loc_at {α : Type} {p : List Tok → PS → PRes α} (hp : Loc p) : Loc (fun T s => p T (adv s)) := by
  intro T s
  obtain ⟨h1, h2⟩ := hp T (adv s)
  refine ⟨fun a s' e => ?_, fun c x e => ?_⟩
  · obtain ⟨h3, h4⟩ := h1 a s' e
    exact ⟨Nat.le_trans (Nat.le_succ _) h3, h4⟩
  · obtain ⟨i, h3, h4, h5⟩ := h2 c x e
    exact ⟨i, Nat.le_trans (Nat.le_succ _) h3, h4, h5⟩
theorem loc_if {α : Type} {c : Tok → Prop} [DecidablePred c] {p q : List Tok → PS → PRes α} (hp : Loc p) (hq : Loc q) : Loc (fun T s => if c (tk T s.nx) then p T s else q T s) := by
  refine loc_tok (f := fun t T s => if c t then p T s else q T s) fun t => ?_
  by_cases h : c t
  · have e : (fun T s => if c t then p T s else q T s) = p := by funext T s; rw [if_pos h]
    rw [e]; exact hp
  · have e : (fun T s => if c t then p T s else q T s) = q := by funext T s; rw [if_neg h]
    rw [e]; exact hq
theorem loc_isM {α : Type} {m : List UInt8} {p q : List Tok → PS → PRes α} (hp : Loc p) (hq : Loc q) : Loc (fun T s => if isM T s m = true then p T s else q T s) :=
  loc_if (c := fun t => (decide (t.kind = 4) && decide (t.text.toList = m)) = true) hp hq
theorem loc_mem (n : Nat) : Loc (fun T s => memP T s n) := by
  by_cases hn : n = 64
  · refine loc_prim fun T s => ?_
    cases h : isEl (tk T s.nx)
    · refine Or.inr ⟨(rfE T s).1, (rfE T s).2, ?_, ft_ref T s, fun T' h' => ?_⟩
      · unfold memP; rw [h]; rfl
      · unfold memP; rw [h', h, ref_eq h']; rfl
    · refine Or.inr ⟨124, ((tk T s.nx).a : Int), ?_, ⟨rfl, Or.inr ⟨Or.inr (Or.inr rfl), isel_kind h⟩⟩, fun T' h' => ?_⟩
      · unfold memP; rw [h, if_pos rfl, if_pos hn]
      · unfold memP; rw [h', h, if_pos rfl, if_pos hn]
  · have e : (fun T s => memP T s n) = (fun T s => if isEl (tk T s.nx) = true then elP T s else .error (rfE T s)) := by
      funext T s
      unfold memP
      rw [if_neg hn]
    rw [e]
    exact loc_if (c := fun t => isEl t = true) loc_el loc_ref
theorem loc_mems : ∀ (n : Nat) (ks : List Int), Loc (fun T s => memsP T n ks s)
  | 0, ks => loc_ok ks (fun s => s) (fun s => Nat.le_refl _)
  | n + 1, ks => loc_isM (m := [44]) (loc_bnd (loc_at (loc_mem ks.length)) (fun k => loc_mems n (ks ++ [k]))) (loc_ok ks (fun s => s) (fun s => Nat.le_refl _))
theorem loc_set : Loc (fun T s => setP T s) := by
  refine loc_tok (f := fun t T s => bnd (markP T s [123]) fun _ s1 => bnd (if isM T s1 [125] = true then .ok ([], s1) else bnd (memP T s1 0) fun k s2 => .ok ([k], s2)) fun ks s2 => bnd (memsP T 4097 ks s2) fun ks s3 => bnd (markP T s3 [125]) fun _ s4 => putP s4 ⟨13, ⟨#[]⟩, 0, ks⟩ (t.a : Int)) fun t => ?_
  refine loc_bnd (f := fun _ T s1 => bnd (if isM T s1 [125] = true then .ok ([], s1) else bnd (memP T s1 0) fun k s2 => .ok ([k], s2)) fun ks s2 => bnd (memsP T 4097 ks s2) fun ks s3 => bnd (markP T s3 [125]) fun _ s4 => putP s4 ⟨13, ⟨#[]⟩, 0, ks⟩ (t.a : Int)) (loc_mark _) fun _ => ?_
  refine loc_bnd (p := fun T s1 => if isM T s1 [125] = true then .ok ([], s1) else bnd (memP T s1 0) fun k s2 => .ok ([k], s2)) (f := fun ks T s2 => bnd (memsP T 4097 ks s2) fun ks s3 => bnd (markP T s3 [125]) fun _ s4 => putP s4 ⟨13, ⟨#[]⟩, 0, ks⟩ (t.a : Int)) (loc_isM (loc_ok [] (fun s => s) (fun s => Nat.le_refl _)) (loc_bnd (loc_mem 0) fun k => loc_ok [k] (fun s => s) (fun s => Nat.le_refl _))) fun ks => ?_
  refine loc_bnd (f := fun ks T s3 => bnd (markP T s3 [125]) fun _ s4 => putP s4 ⟨13, ⟨#[]⟩, 0, ks⟩ (t.a : Int)) (loc_mems 4097 ks) fun ks => ?_
  exact loc_bnd (loc_mark _) fun _ => loc_put _ _ (fun s => s) (fun s => Nat.le_refl _)
theorem loc_named : Loc (fun T s => namedP T s) :=
  loc_bnd (f := fun _ T s1 => bnd (textP T s1) fun t s2 => bnd (markP T s2 [41]) fun _ s3 => .ok (t, s3)) (loc_mark _) fun _ => loc_bnd (f := fun t T s2 => bnd (markP T s2 [41]) fun _ s3 => .ok (t, s3)) loc_text fun t => loc_bnd (loc_mark _) fun _ => loc_ok t (fun s => s) (fun s => Nat.le_refl _)
theorem loc_tol : Loc (fun T s => tolP T s) :=
  loc_tok (f := fun t T s => bnd (namedP T (adv s)) fun x s1 => putP s1 ⟨10, x, 0, []⟩ (t.a : Int)) fun t => loc_bnd (loc_at loc_named) fun x => loc_put _ _ (fun s => s) (fun s => Nat.le_refl _)
theorem loc_who (side : Int) : Loc (fun T s => whoP T s side) := by
  refine loc_tok (f := fun t T s => if isM T (adv s) [91] = true then bnd (textP T (adv (adv s))) fun x s1 => bnd (markP T s1 [93]) fun _ s2 => putP s2 ⟨14, x, side, []⟩ (t.a : Int) else bnd (markP T (adv s) [46]) fun _ s1 => bnd (fieldP T s1) fun k s2 => if k = 18 then bnd (namedP T s2) fun x s3 => putP s3 ⟨18, x, side, []⟩ (t.a : Int) else putP s2 ⟨k, ⟨#[]⟩, side, []⟩ (t.a : Int)) fun t => ?_
  refine loc_at (p := fun T s => if isM T s [91] = true then bnd (textP T (adv s)) fun x s1 => bnd (markP T s1 [93]) fun _ s2 => putP s2 ⟨14, x, side, []⟩ (t.a : Int) else bnd (markP T s [46]) fun _ s1 => bnd (fieldP T s1) fun k s2 => if k = 18 then bnd (namedP T s2) fun x s3 => putP s3 ⟨18, x, side, []⟩ (t.a : Int) else putP s2 ⟨k, ⟨#[]⟩, side, []⟩ (t.a : Int)) ?_
  refine loc_isM ?_ ?_
  · exact loc_bnd (f := fun x T s1 => bnd (markP T s1 [93]) fun _ s2 => putP s2 ⟨14, x, side, []⟩ (t.a : Int)) (loc_at loc_text) fun x => loc_bnd (loc_mark _) fun _ => loc_put _ _ (fun s => s) (fun s => Nat.le_refl _)
  · refine loc_bnd (f := fun _ T s1 => bnd (fieldP T s1) fun k s2 => if k = 18 then bnd (namedP T s2) fun x s3 => putP s3 ⟨18, x, side, []⟩ (t.a : Int) else putP s2 ⟨k, ⟨#[]⟩, side, []⟩ (t.a : Int)) (loc_mark _) fun _ => ?_
    refine loc_bnd (f := fun k T s2 => if k = 18 then bnd (namedP T s2) fun x s3 => putP s3 ⟨18, x, side, []⟩ (t.a : Int) else putP s2 ⟨k, ⟨#[]⟩, side, []⟩ (t.a : Int)) loc_field fun k => ?_
    by_cases h : k = 18
    · have e : (fun (T : List Tok) (s2 : PS) => if k = 18 then bnd (namedP T s2) fun x s3 => putP s3 ⟨18, x, side, []⟩ (t.a : Int) else putP s2 ⟨k, ⟨#[]⟩, side, []⟩ (t.a : Int)) = (fun T s2 => bnd (namedP T s2) fun x s3 => putP s3 ⟨18, x, side, []⟩ (t.a : Int)) := by funext T s2; rw [if_pos h]
      rw [e]
      exact loc_bnd loc_named fun x => loc_put _ _ (fun s => s) (fun s => Nat.le_refl _)
    · have e : (fun (T : List Tok) (s2 : PS) => if k = 18 then bnd (namedP T s2) fun x s3 => putP s3 ⟨18, x, side, []⟩ (t.a : Int) else putP s2 ⟨k, ⟨#[]⟩, side, []⟩ (t.a : Int)) = (fun T s2 => putP s2 ⟨k, ⟨#[]⟩, side, []⟩ (t.a : Int)) := by funext T s2; rw [if_neg h]
      rw [e]
      exact loc_put _ _ (fun s => s) (fun s => Nat.le_refl _)
section
variable {one : List Tok → PS → PRes Int}
theorem loc_rows (h : Loc one) (m : List UInt8) : ∀ (n : Nat) (ks : List Int), Loc (fun T s => rowsP T (one T) m n ks s)
  | 0, ks => loc_ok ks (fun s => s) (fun s => Nat.le_refl _)
  | n + 1, ks => loc_isM (m := m) (loc_bnd (f := fun k T s1 => rowsP T (one T) m n (ks ++ [k]) s1) (loc_at h) (fun k => loc_rows h m n (ks ++ [k]))) (loc_ok ks (fun s => s) (fun s => Nat.le_refl _))
theorem loc_row (h : Loc one) (kd : Int) (m : List UInt8) : Loc (fun T s => rowP T (one T) kd m s) := by
  refine loc_bnd (f := fun k0 T s1 => bnd (rowsP T (one T) m 4097 [k0] s1) fun ks s2 => if ks.length = 1 then .ok (k0, s2) else putP s2 ⟨kd, ⟨#[]⟩, 0, ks⟩ ((tk T s1.nx).a : Int)) h fun k0 => ?_
  refine loc_tok (f := fun t T s1 => bnd (rowsP T (one T) m 4097 [k0] s1) fun ks s2 => if ks.length = 1 then .ok (k0, s2) else putP s2 ⟨kd, ⟨#[]⟩, 0, ks⟩ (t.a : Int)) fun t => ?_
  refine loc_bnd (f := fun ks T s2 => if ks.length = 1 then .ok (k0, s2) else putP s2 ⟨kd, ⟨#[]⟩, 0, ks⟩ (t.a : Int)) (loc_rows h m 4097 [k0]) fun ks => ?_
  by_cases hl : ks.length = 1
  · have e : (fun (T : List Tok) (s2 : PS) => if ks.length = 1 then (.ok (k0, s2) : PRes Int) else putP s2 ⟨kd, ⟨#[]⟩, 0, ks⟩ (t.a : Int)) = fun _ s2 => .ok (k0, s2) := by funext T s2; rw [if_pos hl]
    rw [e]; exact loc_ok k0 (fun s => s) (fun s => Nat.le_refl _)
  · have e : (fun (T : List Tok) (s2 : PS) => if ks.length = 1 then (.ok (k0, s2) : PRes Int) else putP s2 ⟨kd, ⟨#[]⟩, 0, ks⟩ (t.a : Int)) = fun _ s2 => putP s2 ⟨kd, ⟨#[]⟩, 0, ks⟩ (t.a : Int) := by funext T s2; rw [if_neg hl]
    rw [e]; exact loc_put _ _ (fun s => s) (fun s => Nat.le_refl _)
theorem loc_with {α : Type} {inner : List Tok → PS → PRes α} (h : Loc inner) : Loc (fun T s => withP T (inner T) s) :=
  loc_bnd (f := fun _ T s1 => bnd (inner T s1) fun k s2 => bnd (markP T s2 [41]) fun _ s3 => .ok (k, shutP s3)) (loc_open _) fun _ => loc_bnd (f := fun k T s2 => bnd (markP T s2 [41]) fun _ s3 => .ok (k, shutP s3)) h fun k => loc_bnd (loc_mark _) fun _ => loc_ok k shutP (fun s => Nat.le_refl _)
theorem loc_sel (h : Loc one) (kd : Int) : Loc (fun T s => selP T (one T) kd s) := by
  refine loc_tok (f := fun t T s => bnd (withP T (fun s1 => bnd (textP T s1) fun x s2 => bnd (markP T s2 [44]) fun _ s3 => bnd (one T s3) fun k s4 => .ok ((x, k), s4)) (adv s)) fun tk2 s5 => putP s5 ⟨kd, tk2.1, 0, [tk2.2]⟩ (t.a : Int)) fun t => ?_
  refine loc_bnd (p := fun T s => withP T (fun s1 => bnd (textP T s1) fun x s2 => bnd (markP T s2 [44]) fun _ s3 => bnd (one T s3) fun k s4 => .ok ((x, k), s4)) (adv s)) (loc_at (loc_with (inner := fun T s1 => bnd (textP T s1) fun x s2 => bnd (markP T s2 [44]) fun _ s3 => bnd (one T s3) fun k s4 => .ok ((x, k), s4)) ?_)) fun q => loc_put _ _ (fun s => s) (fun s => Nat.le_refl _)
  exact loc_bnd (f := fun x T s2 => bnd (markP T s2 [44]) fun _ s3 => bnd (one T s3) fun k s4 => .ok ((x, k), s4)) loc_text fun x => loc_bnd (f := fun _ T s3 => bnd (one T s3) fun k s4 => .ok ((x, k), s4)) (loc_mark _) fun _ => loc_bnd h fun k => loc_ok (x, k) (fun s => s) (fun s => Nat.le_refl _)
theorem loc_neg (h : Loc one) : Loc (fun T s => negP T (one T) s) :=
  loc_tok (f := fun t T s => bnd (openP T s [33]) fun _ s1 => bnd (one T s1) fun k s2 => putP (shutP s2) ⟨3, ⟨#[]⟩, 0, [k]⟩ (t.a : Int)) fun t => loc_bnd (f := fun _ T s1 => bnd (one T s1) fun k s2 => putP (shutP s2) ⟨3, ⟨#[]⟩, 0, [k]⟩ (t.a : Int)) (loc_open _) fun _ => loc_bnd h fun k => loc_put _ _ shutP (fun s => Nat.le_refl _)
theorem loc_comp (h : Loc one) : Loc (fun T s => compP T (one T) s) := by
  refine loc_bnd (f := fun l T s1 => match betO (tk T s1.nx) with | none => .error (rfE T s1) | some (kd, nu) => bnd (one T (adv s1)) fun r s2 => putP s2 ⟨kd, ⟨#[]⟩, nu, [l, r]⟩ ((tk T s1.nx).a : Int)) h fun l => ?_
  refine loc_tok (f := fun t T s1 => match betO t with | none => .error (rfE T s1) | some (kd, nu) => bnd (one T (adv s1)) fun r s2 => putP s2 ⟨kd, ⟨#[]⟩, nu, [l, r]⟩ (t.a : Int)) fun t => ?_
  cases betO t with
  | none => exact loc_ref
  | some q => exact loc_bnd (loc_at h) fun r => loc_put _ _ (fun s => s) (fun s => Nat.le_refl _)
end
theorem loc_atom {ex te : List Tok → PS → PRes Int} (h1 : Loc ex) (h2 : Loc te) : Loc (fun T s => atomP T (ex T) (te T) s) :=
  loc_if (c := fun t => t.kind = 3) (loc_if (c := fun t => t.text.toList = [116, 114, 117, 101]) (loc_const 1) (loc_if (c := fun t => t.text.toList = [102, 97, 108, 115, 101]) (loc_const 2) (loc_if (c := fun t => t.text.toList = [110, 101, 97, 114]) (loc_sel h1 8) (loc_if (c := fun t => t.text.toList = [97, 112, 97, 114, 116]) (loc_sel h1 9) (loc_if (c := fun t => t.text.toList = [116, 111, 108, 101, 114, 97, 116, 101, 100]) loc_tol (loc_comp h2)))))) (loc_comp h2)
theorem loc_word {ex te : List Tok → PS → PRes Int} (h1 : Loc ex) (h2 : Loc te) : Loc (fun T s => wordP T (ex T) (te T) s) :=
  loc_if (c := fun t => t.text.toList = [110, 111, 100, 101]) (loc_who 2) (loc_if (c := fun t => t.text.toList = [112, 111, 100]) (loc_who 1) (loc_if (c := fun t => t.text.toList = [105, 116]) (loc_who 3) (loc_if (c := fun t => t.text.toList = [105, 110, 116])
    (loc_tok (f := fun t T s => bnd (withP T (te T) (adv s)) fun k s1 => putP s1 ⟨19, ⟨#[]⟩, 0, [k]⟩ (t.a : Int)) fun t => loc_bnd (p := fun T s => withP T (te T) (adv s)) (loc_at (p := fun T s => withP T (te T) s) (loc_with h2)) fun k => loc_put _ _ (fun s => s) (fun s => Nat.le_refl _))
    (loc_if (c := fun t => t.text.toList = [99, 111, 117, 110, 116]) (loc_sel h1 20) loc_ref))))
theorem loc_unit {ex un te : List Tok → PS → PRes Int} (h1 : Loc ex) (h2 : Loc un) (h3 : Loc te) : Loc (fun T s => unitP T (ex T) (un T) (te T) s) :=
  loc_isM (loc_neg h2) (loc_isM (loc_with h1) (loc_atom h1 h3))
theorem loc_term {ex te : List Tok → PS → PRes Int} (h1 : Loc ex) (h2 : Loc te) : Loc (fun T s => termP T (ex T) (te T) s) :=
  loc_if (c := fun t => isEl t = true) loc_el (loc_isM loc_set (loc_if (c := fun t => t.kind = 3) (loc_word h1 h2) loc_ref))
theorem loc_gr : ∀ (n : Nat) (g : Gr), Loc (fun T s => gr T n g s)
  | 0, g => fun T s => ⟨fun a s' e => (by simp only [gr] at e; cases e), fun c x e => ⟨s.nx, Nat.le_refl _, Or.inl (by simp only [gr] at e; injection e with e; injection e with e1 e2; exact ⟨e1.symm, e2.symm⟩), fun T' _ => (by simp only [gr] at e ⊢; exact e)⟩⟩
  | n + 1, .expr => loc_row (one := fun T => gr T n .conj) (loc_gr n .conj) 5 [124, 124]
  | n + 1, .conj => loc_row (one := fun T => gr T n .unit) (loc_gr n .unit) 4 [38, 38]
  | n + 1, .unit => loc_unit (ex := fun T => gr T n .expr) (un := fun T => gr T n .unit) (te := fun T => gr T n .term) (loc_gr n .expr) (loc_gr n .unit) (loc_gr n .term)
  | n + 1, .term => loc_term (ex := fun T => gr T n .expr) (te := fun T => gr T n .term) (loc_gr n .expr) (loc_gr n .term)
end Go.Proofs.YtcldglilhhhdoaaGreatDoor.L
