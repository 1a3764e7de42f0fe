import Derived.Test.YtcldglilhhhdoaaGreatDoorMgAQ
import Derived.Test.YtcldglilhhhdoaaGreatDoorZE
namespace Go.Proofs.YtcldglilhhhdoaaGreatDoor.L
open Go.RowKit Go.Shelf
set_option linter.unusedVariables false
set_option linter.unusedSimpArgs false
theorem ext_head {s : ByteArray} {k e : Nat} {c : UInt8} {l : List UInt8} (h1 : k < e) (h2 : e ≤ s.size) (h : (s.extract k e).toList = c :: l) : bt s k = c := by
  have := bt_ext s k e 0 (by omega) h2
  rw [Nat.add_zero] at this
  rw [← this]
  unfold bt
  rw [ByteArray.toList_eq] at h
  rw [h]
  rfl
theorem txS_len (s : ByteArray) (f : Nat) : ∀ (n k : Nat) (l l' : List UInt8) (e : Nat), s.size - k = n → txS s f k l = .ok l' e → l'.length ≤ 127 := by
  intro n
  induction n using Nat.strongRecOn with
  | ind n ih =>
    intro k l l' e hn h
    by_cases hlt : k < s.size
    · by_cases c : bt s k = 34
      · rw [txS_q s f k l hlt c] at h
        split at h
        · exact TR.noConfusion h
        · obtain ⟨rfl, _⟩ := TR.ok.inj h
          omega
      · by_cases d : bt s k = 92
        · by_cases e0 : (esc3 s k).2 = 0
          · rw [txS_e0 s f k l hlt d e0] at h
            exact TR.noConfusion h
          · rw [txS_e s f k l hlt d e0] at h
            exact ih (s.size - (k + (esc3 s k).2)) (by omega) _ _ _ _ rfl h
        · by_cases e0 : iv (bt s k) < 32
          · rw [txS_low s f k l hlt c d e0] at h
            exact TR.noConfusion h
          · rw [txS_go s f k l hlt c d e0] at h
            exact ih (s.size - (k + 1)) (by omega) _ _ _ _ rfl h
    · rw [txS_end s f k l hlt] at h
      exact TR.noConfusion h
theorem tok_head {s : ByteArray} {k : Nat} {t : Tok} (hk : k < s.size) (h : tokS s k = .ok t) : (t.kind = 1 → bt s k = 34 ∧ t.text.size ≤ 127) ∧ (t.kind = 2 → digB (iv (bt s k)) = true ∨ bt s k = 45) ∧ ((t.kind = 3 ∨ t.kind = 4) → ∀ c l, t.text.toList = c :: l → bt s k = c) := by
  have hin := tok_in hk h
  unfold tokS at h
  split at h
  · rename_i h34
    cases hx : txS s k (k + 1) [] with
    | bad c a => rw [hx] at h; exact RR.noConfusion h
    | ok l e =>
      rw [hx] at h
      have hl := txS_len s k _ (k + 1) [] l e rfl hx
      have ht := RR.ok.inj h
      subst ht
      exact ⟨fun _ => ⟨h34, by show l.toArray.size ≤ 127; simpa using hl⟩, fun h2 => (by cases h2), fun h2 => (by rcases h2 with h2 | h2 <;> cases h2)⟩
  · split at h
    · rename_i hd
      unfold numTok at h
      split at h
      · exact RR.noConfusion h
      · have ht := RR.ok.inj h
        subst ht
        refine ⟨fun h1 => (by cases h1), fun _ => ?_, fun h2 => (by rcases h2 with h2 | h2 <;> cases h2)⟩
        rcases hd with hd | hd
        · exact Or.inl hd
        · exact Or.inr hd.1
    · split at h
      · have ht := RR.ok.inj h
        subst ht
        exact ⟨fun h1 => (by cases h1), fun h2 => (by cases h2), fun _ c l hc => ext_head hin.2.1 hin.2.2 hc⟩
      · unfold markS at h
        split at h
        · have ht := RR.ok.inj h
          subst ht
          exact ⟨fun h1 => (by cases h1), fun h2 => (by cases h2), fun _ c l hc => ext_head hin.2.1 hin.2.2 hc⟩
        · split at h
          · have ht := RR.ok.inj h
            subst ht
            exact ⟨fun h1 => (by cases h1), fun h2 => (by cases h2), fun _ c l hc => ext_head hin.2.1 hin.2.2 hc⟩
          · exact RR.noConfusion h
/-- The byte with which a part begins. -/
def BgC (k n : Int) (c : UInt8) : Prop :=
  (k = 3 ∧ c = 33) ∨ (k = 4 ∧ c = 38) ∨ (k = 5 ∧ c = 124) ∨ (k = 13 ∧ c = 123) ∨ (k = 6 ∧ (c = 61 ∨ c = 33 ∨ c = 60 ∨ c = 62)) ∨ (k = 11 ∧ c = 34) ∨ (k = 12 ∧ (c = 45 ∨ digB (iv c) = true)) ∨
  (k = 7 ∧ n = 0 ∧ c = 105) ∨ (k = 7 ∧ n = 1 ∧ c = 110) ∨ (k = 1 ∧ c = 116) ∨ (k = 2 ∧ c = 102) ∨ (k = 8 ∧ c = 110) ∨ (k = 9 ∧ c = 97) ∨ (k = 10 ∧ c = 116) ∨ (k = 19 ∧ c = 105) ∨ (k = 20 ∧ c = 99) ∨
  ((k = 14 ∨ k = 15 ∨ k = 16 ∨ k = 17 ∨ k = 18) ∧ ((n = 2 ∧ c = 110) ∨ (n = 1 ∧ c = 112) ∨ (n = 3 ∧ c = 105)))
theorem cmp_head {l : List UInt8} (h : cmpO l ≠ 0) : ∃ c r, l = c :: r ∧ (c = 61 ∨ c = 33 ∨ c = 60 ∨ c = 62) := by
  unfold cmpO at h
  repeat' (split at h)
  all_goals first | (rename_i e; subst e; exact ⟨_, _, rfl, by decide⟩) | (exact absurd rfl h)
theorem bg_byte {src : ByteArray} {t : Tok} {k n : Int} {c : UInt8} (hb : BgT k n t) (h1 : t.kind = 1 → c = 34) (h2 : t.kind = 2 → digB (iv c) = true ∨ c = 45) (h3 : (t.kind = 3 ∨ t.kind = 4) → ∀ d l, t.text.toList = d :: l → c = d) : BgC k n c := by
  unfold BgT at hb
  unfold BgC
  rcases hb with ⟨h4, hb⟩ | ⟨h4, hb⟩ | ⟨h4, hb⟩ | ⟨h4, hb⟩
  · have h5 := h3 (Or.inr h4)
    rcases hb with ⟨hk, hb⟩ | ⟨hk, hb⟩ | ⟨hk, hb⟩ | ⟨hk, hb⟩ | ⟨hk, hb⟩
    · have := h5 _ _ hb; simp [hk, this]
    · have := h5 _ _ hb; simp [hk, this]
    · have := h5 _ _ hb; simp [hk, this]
    · have := h5 _ _ hb; simp [hk, this]
    · obtain ⟨d, r, e, hd⟩ := cmp_head hb
      have := h5 _ _ e
      rw [← this] at hd
      exact Or.inr (Or.inr (Or.inr (Or.inr (Or.inl ⟨hk, hd⟩))))
  · have := h1 h4; simp [hb, this]
  · exact Or.inr (Or.inr (Or.inr (Or.inr (Or.inr (Or.inr (Or.inl ⟨hb, (h2 h4).symm⟩))))))
  · have h5 := h3 (Or.inl h4)
    rcases hb with ⟨hk, hn, hb⟩ | ⟨hk, hn, hb⟩ | ⟨hk, hb⟩ | ⟨hk, hb⟩ | ⟨hk, hb⟩ | ⟨hk, hb⟩ | ⟨hk, hb⟩ | ⟨hk, hb⟩ | ⟨hk, hb⟩ | ⟨hk, hb⟩
    · have := h5 _ _ hb; simp [hk, hn, this]
    · have := h5 _ _ hb; simp [hk, hn, this]
    · have := h5 _ _ hb; simp [hk, this]
    · have := h5 _ _ hb; simp [hk, this]
    · have := h5 _ _ hb; simp [hk, this]
    · have := h5 _ _ hb; simp [hk, this]
    · have := h5 _ _ hb; simp [hk, this]
    · have := h5 _ _ hb; simp [hk, this]
    · have := h5 _ _ hb; simp [hk, this]
    · refine Or.inr (Or.inr (Or.inr (Or.inr (Or.inr (Or.inr (Or.inr (Or.inr (Or.inr (Or.inr (Or.inr (Or.inr (Or.inr (Or.inr (Or.inr (Or.inr ⟨hk, ?_⟩)))))))))))))))
      rcases hb with ⟨hn, hb⟩ | ⟨hn, hb⟩ | ⟨hn, hb⟩
      · exact Or.inl ⟨hn, h5 _ _ hb⟩
      · exact Or.inr (Or.inl ⟨hn, h5 _ _ hb⟩)
      · exact Or.inr (Or.inr ⟨hn, h5 _ _ hb⟩)
theorem bgT_kind {k n : Int} {t : Tok} (hb : BgT k n t) : t.kind ≠ 0 := by
  unfold BgT at hb
  omega
theorem scan_txt {src : ByteArray} (h : (scanT src).2 = none) : Txt (scanT src).1 := fun i hk => by
  obtain ⟨_, h2, h3, _, _⟩ := tk_spec h (i := i) (by rw [hk]; decide)
  exact ((tok_head h2 h3).1 hk).2
theorem bgt_byte {src : ByteArray} (h : (scanT src).2 = none) {p : Pt} {x : Int} (hb : Bgt (scanT src).1 p x) : ∃ n : Nat, x = (n : Int) ∧ n < src.size ∧ BgC p.kind p.num (bt src n) := by
  obtain ⟨i, hx, hb⟩ := hb
  obtain ⟨_, h2, h3, _, _⟩ := tk_spec h (bgT_kind hb)
  have ⟨a1, a2, a3⟩ := tok_head h2 h3
  exact ⟨_, hx, h2, bg_byte (src := src) hb (fun hk => (a1 hk).1) a2 a3⟩
theorem gs_zero (T : List Tok) : Gs T [] ⟨0, 0, [], []⟩ := ⟨rfl, rfl, fun j hj => absurd hj (Nat.not_lt_zero _)⟩
/-- What stands of a tree that was read. -/
structure Rdd (src : ByteArray) (s : PS) : Prop where
  len : s.os.length = s.ps.length
  top : (fre s.ps s.ps.length).length = 1
  most : s.ps.length ≤ 1000
  ok : ∀ j, j < s.ps.length → (pt s.ps j).kids.length ≤ (fre s.ps j).length ∧ (pt s.ps j).kids = (fre s.ps j).drop ((fre s.ps j).length - (pt s.ps j).kids.length) ∧ (pt s.ps j).text.size ≤ 127 ∧ Ari (pt s.ps j).kind (pt s.ps j).kids.length
  bg : ∀ j, j < s.ps.length → ∃ n : Nat, s.os.getD j 0 = (n : Int) ∧ n < src.size ∧ BgC (pt s.ps j).kind (pt s.ps j).num (bt src n)
theorem either_ok {src : ByteArray} {s : PS} (h : parR src = .ok s) : Rdd src s := by
  unfold parR at h
  cases hs : (scanT src).2 with
  | some q => obtain ⟨c, a⟩ := q; rw [hs] at h; cases h
  | none =>
    rw [hs] at h
    simp only at h
    cases hw : wholeP (scanT src).1 16392 with
    | error q => rw [hw] at h; cases h
    | ok q =>
      obtain ⟨u, s1⟩ := q
      rw [hw] at h
      simp only [Except.ok.injEq] at h
      subst h
      unfold wholeP at hw
      obtain ⟨k, s2, e1, e2⟩ := bnd_inv hw
      have g := fo_gr (scan_txt hs) _ _ _ _ _ _ (gs_zero _) e1
      split at e2
      · split at e2
        · cases e2
        · rename_i h1000
          injection e2 with e2; injection e2 with _ e2; subst e2
          exact ⟨g.len, by rw [g.fr]; rfl, by omega, fun j hj => by have h5 := g.ok j hj; exact ⟨h5.1, h5.2.1, h5.2.2.1, h5.2.2.2.1⟩, fun j hj => bgt_byte hs (g.ok j hj).2.2.2.2⟩
      · cases e2
theorem ft_at {src : ByteArray} (h : (scanT src).2 = none) {i c : Nat} {x : Int} (hf : Ft (scanT src).1 i c x) : 120 ≤ c ∧ c ≤ 124 ∧ 0 ≤ x ∧ x ≤ (src.size : Int) := by
  have ha : (tk (scanT src).1 i).a ≤ src.size := by
    by_cases h0 : (tk (scanT src).1 i).kind = 0
    · by_cases hi : i < (scanT src).1.length
      · obtain ⟨_, l, hl, hs⟩ := scan_shape h
        have h4 := tk_mem hi
        have h6 : tk (scanT src).1 i ∈ l ∨ tk (scanT src).1 i = tokE src.size := by
          rw [hl] at h4
          rcases List.mem_append.1 h4 with h5 | h5
          · rw [hl]; exact Or.inl h5
          · rw [hl]; exact Or.inr (List.mem_singleton.1 h5)
        rcases h6 with h5 | h5
        · exact Nat.le_of_lt (hs _ h5).1
        · rw [h5]; exact Nat.le_refl _
      · unfold tk
        rw [List.getD_eq_getElem?_getD, List.getElem?_eq_none (by omega)]
        exact Nat.zero_le _
    · exact Nat.le_of_lt (tk_spec h h0).2.1
  have h1 := hf.1
  have h2 := hf.2
  omega
theorem either_bad {src : ByteArray} {c : Nat} {x : Int} (h : parR src = .error (c, x)) : ((110 ≤ c ∧ c ≤ 115) ∨ (120 ≤ c ∧ c ≤ 124)) ∧ 0 ≤ x ∧ x ≤ (src.size : Int) := by
  have hcode := parR_code h
  unfold parR at h
  cases hs : (scanT src).2 with
  | some q =>
    obtain ⟨c', a'⟩ := q
    rw [hs] at h
    simp only [Except.error.injEq, Prod.mk.injEq] at h
    have hc := scanT_codes hs
    have ha : a' ≤ src.size := by
      unfold scanT at hs
      split at hs
      · exact Nat.le_of_lt (scan_at src _ 0 rfl c' a' hs)
      · rename_i h0
        injection hs with hs; injection hs with _ hs
        omega
    omega
  | none =>
    rw [hs] at h
    simp only at h
    cases hw : wholeP (scanT src).1 16392 with
    | ok q => rw [hw] at h; cases h
    | error q =>
      rw [hw] at h
      simp only [Except.error.injEq] at h
      subst h
      unfold wholeP at hw
      cases hg : gr (scanT src).1 16392 .expr ⟨0, 0, [], []⟩ with
      | error q =>
        obtain ⟨c', x'⟩ := q
        rw [hg, bnd_bad] at hw
        injection hw with hw
        injection hw with e1 e2
        subst e1
        subst e2
        obtain ⟨i, _, h4, _⟩ := (loc_gr 16392 .expr (scanT src).1 ⟨0, 0, [], []⟩).2 _ _ hg
        rcases h4 with ⟨h4, _⟩ | h4
        · exact absurd h4 hcode
        · have := ft_at hs h4
          omega
      | ok q =>
        obtain ⟨k, s2⟩ := q
        rw [hg, bnd_ok] at hw
        have g := fo_gr (scan_txt hs) _ _ _ _ _ _ (gs_zero _) hg
        split at hw
        · split at hw
          · rename_i h1000
            injection hw with hw
            injection hw with e1 e2
            obtain ⟨n, hn, hlt, _⟩ := bgt_byte hs (g.ok 1000 h1000).2.2.2.2
            rw [e2] at hn
            omega
          · cases hw
        · injection hw with hw
          have hf := ft_ref (scanT src).1 s2
          rw [hw] at hf
          have := ft_at hs hf
          simp only at this
          omega
end Go.Proofs.YtcldglilhhhdoaaGreatDoor.L
