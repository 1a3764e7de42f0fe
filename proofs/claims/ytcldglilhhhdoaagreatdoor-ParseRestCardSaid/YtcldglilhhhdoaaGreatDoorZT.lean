import Derived.Test.YtcldglilhhhdoaaGreatDoorXI
namespace Go.Proofs.YtcldglilhhhdoaaGreatDoor.L
open Go.RowKit Go.Shelf
set_option linter.unusedVariables false
/-- What s has from k to e stands in w from d on; behind it the end or a blank. -/
structure Emb (s w : ByteArray) (k e d : Nat) : Prop where
  le : k ≤ e
  ls : e ≤ s.size
  sz : d + (e - k) ≤ w.size
  same : ∀ j, j < e - k → bt w (d + j) = bt s (k + j)
  stop : bt w (d + (e - k)) = 0 ∨ bt w (d + (e - k)) = 32
theorem Emb.at {s w : ByteArray} {k e d : Nat} (E : Emb s w k e d) {i : Nat} (h1 : k ≤ i) (h2 : i < e) : bt w (d + (i - k)) = bt s i := by
  rw [E.same (i - k) (by omega), show k + (i - k) = i by omega]
theorem list_eq_of_bt (a b : ByteArray) (h : a.size = b.size) (hb : ∀ j, j < a.size → bt a j = bt b j) : a = b := by
  apply ByteArray.ext
  apply Array.toList_inj.1
  apply List.ext_getElem
  · rw [Array.length_toList, Array.length_toList]; exact h
  · intro i h1 h2
    have := hb i (by rw [Array.length_toList] at h1; exact h1)
    unfold bt at this
    rw [List.getD_eq_getElem?_getD, List.getD_eq_getElem?_getD, List.getElem?_eq_getElem h1, List.getElem?_eq_getElem h2] at this
    simpa using this
theorem Emb.text {s w : ByteArray} {k e d : Nat} (E : Emb s w k e d) : w.extract d (d + (e - k)) = s.extract k e := by
  have h1 := E.le
  have h2 := E.ls
  have h3 := E.sz
  apply list_eq_of_bt
  · simp; omega
  · intro j hj
    have hj' : j < e - k := by simp at hj; omega
    rw [bt_ext w d (d + (e - k)) j (by omega) h3, bt_ext s k e j (by omega) h2]
    exact E.same j hj'
theorem emb_beh {s w : ByteArray} {k e d : Nat} (E : Emb s w k e d) : ∀ (n i : Nat), e - i = n → k ≤ i → i ≤ e → behW s i = e → behW w (d + (i - k)) = d + (e - k) := by
  intro n
  induction n using Nat.strongRecOn with
  | ind n ih =>
    intro i hn h1 h2 h
    have h3 := E.sz
    have h4 := E.ls
    by_cases hl : i < e
    · have hs : i < s.size := by omega
      cases c : inwB (iv (bt s i))
      · rw [behW_no s i hs c] at h
        omega
      · rw [behW_go s i hs c] at h
        rw [behW_go w (d + (i - k)) (by omega) (by rw [E.at h1 hl]; exact c), show d + (i - k) + 1 = d + (i + 1 - k) by omega]
        exact ih (e - (i + 1)) (by omega) (i + 1) rfl (by omega) (by omega) h
    · have e1 : i = e := by omega
      subst e1
      by_cases hw : d + (i - k) < w.size
      · refine behW_no w _ hw ?_
        rcases E.stop with h0 | h0 <;> rw [h0] <;> decide
      · exact behW_end w _ hw
theorem esc3_emb {s w : ByteArray} {k e d : Nat} (E : Emb s w k e d) {i : Nat} (h1 : k ≤ i) (h0 : (esc3 s i).2 ≠ 0) (h2 : i + (esc3 s i).2 ≤ e) : esc3 w (d + (i - k)) = esc3 s i := by
  have hin := esc_in h0
  have e1 : bt w (d + (i - k) + 1) = bt s (i + 1) := by rw [show d + (i - k) + 1 = d + (i + 1 - k) by omega]; exact E.at (by omega) (by omega)
  rcases hin.2 with h2' | h4
  · unfold esc3 at h2' ⊢
    rw [e1]
    unfold escV at h2' ⊢
    by_cases g1 : bt s (i + 1) = 34
    · simp [g1]
    by_cases g2 : bt s (i + 1) = 92
    · simp [g2]
    by_cases g3 : bt s (i + 1) = 110
    · simp [g3]
    by_cases g4 : bt s (i + 1) = 116
    · simp [g4]
    by_cases g5 : bt s (i + 1) = 114
    · simp [g5]
    rw [if_neg g1, if_neg g2, if_neg g3, if_neg g4, if_neg g5] at h2'
    split at h2' <;> simp at h2'
  · have e2 : bt w (d + (i - k) + 2) = bt s (i + 2) := by rw [show d + (i - k) + 2 = d + (i + 2 - k) by omega]; exact E.at (by omega) (by omega)
    have e3 : bt w (d + (i - k) + 3) = bt s (i + 3) := by rw [show d + (i - k) + 3 = d + (i + 3 - k) by omega]; exact E.at (by omega) (by omega)
    unfold esc3
    rw [e1, e2, e3]
theorem emb_tx {s w : ByteArray} {k e d : Nat} (E : Emb s w k e d) (f g : Nat) : ∀ (n i : Nat) (l l' : List UInt8), e - i = n → k ≤ i → txS s f i l = .ok l' e → txS w g (d + (i - k)) l = .ok l' (d + (e - k)) := by
  intro n
  induction n using Nat.strongRecOn with
  | ind n ih =>
    intro i l l' hn h1 h
    have h3 := E.sz
    have h4 := E.ls
    by_cases hlt : i < s.size
    · have hie := (txS_in s f _ i l rfl (by omega) l' e h).1
      have es := E.at h1 hie
      have hw : d + (i - k) < w.size := by omega
      by_cases c : bt s i = 34
      · rw [txS_q s f i l hlt c] at h
        rw [txS_q w g _ l hw (by rw [es]; exact c)]
        split at h
        · exact TR.noConfusion h
        · rename_i hll
          obtain ⟨e1, e2⟩ := TR.ok.inj h
          rw [if_neg hll, e1, show d + (i - k) + 1 = d + (e - k) by omega]
      · by_cases dd : bt s i = 92
        · by_cases e0 : (esc3 s i).2 = 0
          · rw [txS_e0 s f i l hlt dd e0] at h
            exact TR.noConfusion h
          · rw [txS_e s f i l hlt dd e0] at h
            have hg := esc_in e0
            have hie2 := (txS_in s f _ _ _ rfl hg.1 l' e h).1
            have hx := esc3_emb E h1 e0 (by omega)
            rw [txS_e w g _ l hw (by rw [es]; exact dd) (by rw [hx]; exact e0), hx, show d + (i - k) + (esc3 s i).2 = d + (i + (esc3 s i).2 - k) by omega]
            exact ih (e - (i + (esc3 s i).2)) (by omega) _ _ _ rfl (by omega) h
        · by_cases e0 : iv (bt s i) < 32
          · rw [txS_low s f i l hlt c dd e0] at h
            exact TR.noConfusion h
          · rw [txS_go s f i l hlt c dd e0] at h
            rw [txS_go w g _ l hw (by rw [es]; exact c) (by rw [es]; exact dd) (by rw [es]; exact e0), es, show d + (i - k) + 1 = d + (i + 1 - k) by omega]
            exact ih (e - (i + 1)) (by omega) _ _ _ rfl (by omega) h
    · rw [txS_end s f i l hlt] at h
      exact TR.noConfusion h
theorem mk2_z' (a : UInt8) : mk2 a 0 = false ∧ mk2 a 32 = false := by
  unfold mk2
  constructor <;> simp
/-- A token read where it stands is read in another source. -/
theorem tok_emb {s w : ByteArray} {k d : Nat} {t : Tok} (hk : k < s.size) (h : tokS s k = .ok t) (E : Emb s w k t.e d) : tokS w d = .ok ⟨t.kind, t.text, t.num, d, d + (t.e - k)⟩ := by
  have hin := tok_in hk h
  have h3 := E.sz
  have e0 : bt w d = bt s k := by have := E.at (Nat.le_refl k) hin.2.1; rwa [Nat.sub_self, Nat.add_zero] at this
  have htx := E.text
  unfold tokS at h ⊢
  rw [e0]
  by_cases c34 : bt s k = 34
  · rw [if_pos c34] at h ⊢
    cases hx : txS s k (k + 1) [] with
    | bad c a => rw [hx] at h; exact RR.noConfusion h
    | ok l e =>
      rw [hx] at h
      have ht := RR.ok.inj h
      subst ht
      have := emb_tx E k d _ (k + 1) [] l rfl (by omega) hx
      rw [show d + (k + 1 - k) = d + 1 by omega] at this
      rw [this]
      rfl
  · rw [if_neg c34] at h ⊢
    by_cases cd : digB (iv (bt s k)) = true ∨ (bt s k = 45 ∧ digB (iv (bt s (k + 1))) = true)
    · rw [if_pos cd] at h
      have hnum : numTok s k = .ok t := h
      unfold numTok at h
      have hlt1 : k + 1 ≤ behW s (k + 1) := (behW_in s _ (k + 1) rfl).1
      cases hn : numS (s.extract k (behW s (k + 1))) with
      | none => rw [hn] at h; exact RR.noConfusion h
      | some n =>
        rw [hn] at h
        have ht := RR.ok.inj h
        subst ht
        have hbw := emb_beh E _ (k + 1) rfl (by omega) hlt1 rfl
        rw [show d + (k + 1 - k) = d + 1 by omega] at hbw
        have cd' : digB (iv (bt s k)) = true ∨ (bt s k = 45 ∧ digB (iv (bt w (d + 1))) = true) := by
          rcases cd with cd | ⟨c1, c2⟩
          · exact Or.inl cd
          · refine Or.inr ⟨c1, ?_⟩
            have hlt : k + 1 < s.size := by
              apply Classical.byContradiction
              intro nn
              rw [bt_out s (k + 1) (by omega)] at c2
              exact absurd c2 (by decide)
            have hgt : k + 1 < behW s (k + 1) := by
              have e1 : behW s (k + 1) = behW s (k + 1 + 1) := behW_go s (k + 1) hlt (dig_inw c2)
              have := (behW_in s _ (k + 1 + 1) rfl).1
              omega
            have := E.at (i := k + 1) (by omega) hgt
            rw [show d + (k + 1 - k) = d + 1 by omega] at this
            rw [this]
            exact c2
        rw [if_pos cd']
        unfold numTok
        simp only at htx
        rw [hbw, htx, hn]
    · rw [if_neg cd] at h
      by_cases ci : inwB (iv (bt s k)) = true
      · rw [if_pos ci] at h
        have ht := RR.ok.inj h
        subst ht
        have hbw := emb_beh E _ k rfl (Nat.le_refl _) (by have := (behW_in s _ k rfl).1; exact this) rfl
        rw [Nat.sub_self, Nat.add_zero] at hbw
        have cd' : ¬ (digB (iv (bt s k)) = true ∨ (bt s k = 45 ∧ digB (iv (bt w (d + 1))) = true)) := by
          rintro (c1 | ⟨c1, c2⟩)
          · exact cd (Or.inl c1)
          · rw [c1] at ci; exact absurd ci (by decide)
        rw [if_neg cd', if_pos ci, hbw]
        simp only at htx
        rw [htx]
      · rw [if_neg ci] at h
        have c45 : bt s k ≠ 45 := by
          intro e
          unfold markS at h
          rw [e] at h
          rw [if_neg (by unfold mk2; simp), if_neg (by decide)] at h
          exact RR.noConfusion h
        rw [if_neg (by rintro (c1 | ⟨c1, c2⟩); exact cd (Or.inl c1); exact c45 c1), if_neg ci]
        unfold markS at h ⊢
        rw [e0]
        by_cases m : mk2 (bt s k) (bt s (k + 1)) = true
        · rw [if_pos m] at h
          have ht := RR.ok.inj h
          subst ht
          have e1 := E.at (i := k + 1) (by omega) (by show k + 1 < k + 2; omega)
          rw [show d + (k + 1 - k) = d + 1 by omega] at e1
          simp only at htx
          rw [show d + (k + 2 - k) = d + 2 by omega] at htx ⊢
          rw [e1, if_pos m, htx]
        · rw [if_neg m] at h
          by_cases m1 : mk1 (bt s k) = true
          · rw [if_pos m1] at h
            have ht := RR.ok.inj h
            subst ht
            have hst := E.stop
            simp only at htx hst
            rw [show d + (k + 1 - k) = d + 1 by omega] at htx hst ⊢
            have m' : ¬ mk2 (bt s k) (bt w (d + 1)) = true := by
              rcases hst with h0 | h0 <;> rw [h0]
              · rw [(mk2_z' _).1]; decide
              · rw [(mk2_z' _).2]; decide
            rw [if_neg m', if_pos m1, htx]
          · rw [if_neg m1] at h
            exact RR.noConfusion h
/-- No token begins with a blank or a remark. -/
theorem tok_first {s : ByteArray} {k : Nat} {t : Tok} (hk : k < s.size) (h : tokS s k = .ok t) : bt s k ≠ 35 ∧ blkB (iv (bt s k)) = false := by
  constructor
  · intro e
    unfold tokS at h
    rw [e, if_neg (by decide), if_neg (by rintro (c | ⟨c, _⟩); exact absurd c (by decide); exact absurd c (by decide)), if_neg (by decide)] at h
    unfold markS at h
    rw [e, if_neg (by unfold mk2; simp), if_neg (by decide)] at h
    exact RR.noConfusion h
  · cases c : blkB (iv (bt s k))
    · rfl
    · exfalso
      unfold blkB at c
      simp only [Bool.or_eq_true, beq_iff_eq] at c
      have hb : bt s k = 32 ∨ bt s k = 9 ∨ bt s k = 10 ∨ bt s k = 13 := by
        rcases c with ((c | c) | c) | c
        · exact Or.inl (iv_eq (n := 32) c rfl (by decide))
        · exact Or.inr (Or.inl (iv_eq (n := 9) c rfl (by decide)))
        · exact Or.inr (Or.inr (Or.inl (iv_eq (n := 10) c rfl (by decide))))
        · exact Or.inr (Or.inr (Or.inr (iv_eq (n := 13) c rfl (by decide))))
      unfold tokS markS at h
      rcases hb with e | e | e | e <;>
      · rw [e, if_neg (by decide), if_neg (by rintro (c | ⟨c, _⟩); exact absurd c (by decide); exact absurd c (by decide)), if_neg (by decide), if_neg (by unfold mk2; simp), if_neg (by decide)] at h
        exact RR.noConfusion h
end Go.Proofs.YtcldglilhhhdoaaGreatDoor.L
