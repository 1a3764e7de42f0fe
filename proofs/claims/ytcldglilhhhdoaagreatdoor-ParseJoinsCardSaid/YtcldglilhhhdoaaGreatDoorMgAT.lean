import Derived.Test.YtcldglilhhhdoaaGreatDoorMgAR
import Derived.Test.YtcldglilhhhdoaaGreatDoorX3
namespace Go.Proofs.YtcldglilhhhdoaaGreatDoor.L
open Go.RowKit Go.Shelf
set_option linter.unusedVariables false
/-- What stands in U from k on. -/
def Stands (U : ByteArray) (k : Nat) (m : List UInt8) : Prop := k + m.length ≤ U.size ∧ ∀ j, j < m.length → bt U (k + j) = m.getD j 0
theorem stands_app {U : ByteArray} {k : Nat} {m r : List UInt8} (h : Stands U k (m ++ r)) : Stands U k m ∧ Stands U (k + m.length) r := by
  obtain ⟨h1, h2⟩ := h
  rw [List.length_append] at h1
  refine ⟨⟨by omega, fun j hj => ?_⟩, ⟨by omega, fun j hj => ?_⟩⟩
  · rw [h2 j (by rw [List.length_append]; omega), List.getD_eq_getElem?_getD, List.getD_eq_getElem?_getD, List.getElem?_append_left hj]
  · have := h2 (m.length + j) (by rw [List.length_append]; omega)
    rw [show k + m.length + j = k + (m.length + j) by omega, this, List.getD_eq_getElem?_getD, List.getD_eq_getElem?_getD, List.getElem?_append_right (by omega), show m.length + j - m.length = j by omega]
theorem hx_val (n : Nat) (h : n < 16) : hexv (iv (hx n)) = n := by
  have : ∀ n : Fin 16, hexv (iv (hx n.val)) = n.val := by decide +kernel
  exact this ⟨n, h⟩
theorem hex_back (c : UInt8) : UInt8.ofNat (16 * hexv (iv (hx (c.toNat / 16))) + hexv (iv (hx (c.toNat % 16)))).toNat = c := by
  have hc := c.toNat_lt
  rw [hx_val _ (by omega), hx_val _ (by omega)]
  rw [show (16 * ((c.toNat / 16 : Nat) : Int) + ((c.toNat % 16 : Nat) : Int)).toNat = c.toNat by omega]
  exact UInt8.ofNat_toNat
theorem tx_q (U : ByteArray) (f : Nat) : ∀ (r l0 : List UInt8) (k : Nat), Stands U k (r.flatMap qB ++ [34]) → txS U f k l0 = if 127 < (l0 ++ r).length then .bad 115 f else .ok (l0 ++ r) (k + (r.flatMap qB).length + 1)
  | [], l0, k, h => by
    have h1 : k + 1 ≤ U.size := by simpa using h.1
    have h2 : bt U k = 34 := by have := h.2 0 (by simp); simpa using this
    rw [txS_q U f k l0 (by omega) h2]
    simp
  | c :: r, l0, k, h => by
    rw [List.flatMap_cons, List.append_assoc] at h
    obtain ⟨hm, hr⟩ := stands_app h
    have ih := tx_q U f r (l0 ++ [c]) (k + (qB c).length) hr
    have hl : (l0 ++ [c] ++ r) = l0 ++ c :: r := by simp
    rw [hl] at ih
    have fin : txS U f k l0 = txS U f (k + (qB c).length) (l0 ++ [c]) := by
      have hs := hm.1
      have b : ∀ j, j < (qB c).length → bt U (k + j) = (qB c).getD j 0 := hm.2
      have two : ∀ v, qB c = [92, v] → (escV v (bt U (k + 2)) (bt U (k + 3))) = (c, 2) → txS U f k l0 = txS U f (k + (qB c).length) (l0 ++ [c]) := by
        intro v hq he
        rw [hq] at hs b ⊢
        have b0 : bt U k = 92 := by have := b 0 (by simp); simpa using this
        have b1 : bt U (k + 1) = v := by have := b 1 (by simp); simpa using this
        have e3 : esc3 U k = (c, 2) := by unfold esc3; rw [b1]; exact he
        simp only [List.length_cons, List.length_nil] at hs
        rw [txS_e U f k l0 (by omega) b0 (by rw [e3]; exact Nat.succ_ne_zero _), e3]
        rfl
      by_cases c34 : c = 34
      · subst c34
        exact two 34 rfl (by unfold escV; simp)
      by_cases c92 : c = 92
      · subst c92
        exact two 92 rfl (by unfold escV; simp)
      by_cases c10 : c = 10
      · subst c10
        exact two 110 rfl (by unfold escV; simp)
      by_cases c9 : c = 9
      · subst c9
        exact two 116 rfl (by unfold escV; simp)
      by_cases c13 : c = 13
      · subst c13
        exact two 114 rfl (by unfold escV; simp)
      by_cases cp : 32 ≤ iv c ∧ iv c ≤ 126
      · have hq : qB c = [c] := by unfold qB; rw [if_neg c34, if_neg c92, if_neg c10, if_neg c9, if_neg c13, if_pos cp]
        rw [hq] at hs b ⊢
        have b0 : bt U k = c := by have := b 0 (by simp); simpa using this
        simp only [List.length_cons, List.length_nil] at hs
        rw [txS_go U f k l0 (by omega) (by rw [b0]; exact c34) (by rw [b0]; exact c92) (by rw [b0]; omega), b0]
        rfl
      · have hq : qB c = [92, 120, hx (c.toNat / 16), hx (c.toNat % 16)] := by unfold qB; rw [if_neg c34, if_neg c92, if_neg c10, if_neg c9, if_neg c13, if_neg cp]
        rw [hq] at hs b ⊢
        have b0 : bt U k = 92 := by have := b 0 (by simp); simpa using this
        have b1 : bt U (k + 1) = 120 := by have := b 1 (by simp); simpa using this
        have b2 : bt U (k + 2) = hx (c.toNat / 16) := by have := b 2 (by simp); simpa using this
        have b3 : bt U (k + 3) = hx (c.toNat % 16) := by have := b 3 (by simp); simpa using this
        have e3 : esc3 U k = (c, 4) := by
          have hc := c.toNat_lt
          unfold esc3
          rw [b1, b2, b3]
          unfold escV
          rw [if_neg (by decide), if_neg (by decide), if_neg (by decide), if_neg (by decide), if_neg (by decide), if_pos ⟨rfl, by rw [hx_val _ (by omega)]; omega, by rw [hx_val _ (by omega)]; omega⟩, hex_back]
        simp only [List.length_cons, List.length_nil] at hs
        rw [txS_e U f k l0 (by omega) b0 (by rw [e3]; exact Nat.succ_ne_zero _), e3]
        rfl
    rw [fin, ih, show (List.flatMap qB (c :: r)).length = (qB c).length + (List.flatMap qB r).length by rw [List.flatMap_cons, List.length_append]]
    rw [show k + (qB c).length + (r.flatMap qB).length + 1 = k + ((qB c).length + (r.flatMap qB).length) + 1 by omega]
/-- A text that Quote wrote, where it stands. -/
theorem tok_q {w : ByteArray} {p : Nat} {l : List UInt8} (h : Stands w p (quoteL l)) (hl : l.length ≤ 127) : tokS w p = .ok ⟨1, ⟨l.toArray⟩, 0, p, p + (quoteL l).length⟩ := by
  have e0 : quoteL l = [34] ++ (l.flatMap qB ++ [34]) := rfl
  rw [e0] at h
  obtain ⟨h1, h2⟩ := stands_app h
  have b0 : bt w p = 34 := by have := h1.2 0 (by simp); simpa using this
  have ht := tx_q w p l [] (p + 1) h2
  rw [if_neg (by simp; omega)] at ht
  unfold tokS
  rw [if_pos b0, ht]
  show RR.ok _ = _
  congr 1
  simp [quoteL]
  omega
end Go.Proofs.YtcldglilhhhdoaaGreatDoor.L
namespace Go.Proofs.YtcldglilhhhdoaaGreatDoor.L
open Go.RowKit Go.Shelf
set_option linter.unusedVariables false
set_option linter.unusedSimpArgs false
/-- What s has stands in w from d on, and a new line behind it. -/
structure Emw (s w : ByteArray) (d : Nat) : Prop where
  sz : d + s.size < w.size
  same : ∀ j, j < s.size → bt w (d + j) = bt s j
  nl : bt w (d + s.size) = 10
theorem nl_emw {s w : ByteArray} {d : Nat} (E : Emw s w d) : ∀ (n k : Nat), s.size - k = n → k ≤ s.size → nlAt w (d + k) = d + nlAt s k := by
  have hz := E.sz
  intro n
  induction n with
  | zero =>
    intro k hn hk
    have e1 : k = s.size := by omega
    subst e1
    rw [nlAt_end s _ (by omega), nlAt_yes w _ hz E.nl]
  | succ n ih =>
    intro k hn hk
    have hs := E.same k (by omega)
    by_cases c : bt s k = 10
    · rw [nlAt_yes s k (by omega) c, nlAt_yes w _ (by omega) (by rw [hs]; exact c)]
    · rw [nlAt_go s k (by omega) c, nlAt_go w _ (by omega) (by rw [hs]; exact c)]
      exact ih (k + 1) (by omega) (by omega)
theorem gap_emw {s w : ByteArray} {d : Nat} (E : Emw s w d) : ∀ (n k : Nat), s.size - k = n → k ≤ s.size → (gapS s k < s.size → gapS w (d + k) = d + gapS s k) ∧ (¬ gapS s k < s.size → gapS w (d + k) = gapS w (d + s.size + 1)) := by
  have hz := E.sz
  intro n
  induction n using Nat.strongRecOn with
  | ind n ih =>
    intro k hn hk
    by_cases hl : k < s.size
    · have hs := E.same k hl
      by_cases c : bt s k = 35
      · have h1 := nlAt_gt s k hl (by rw [c]; decide)
        have h2 := (nlAt_in s k (by omega)).2
        rw [gapS_rem s k hl c, gapS_rem w (d + k) (by omega) (by rw [hs]; exact c), nl_emw E _ k rfl hk]
        exact ih (s.size - nlAt s k) (by omega) _ rfl h2
      · cases b : blkB (iv (bt s k))
        · rw [gapS_no s k hl c b, gapS_no w (d + k) (by omega) (by rw [hs]; exact c) (by rw [hs]; exact b)]
          exact ⟨fun _ => rfl, fun h => absurd hl h⟩
        · rw [gapS_blk s k hl b, gapS_blk w (d + k) (by omega) (by rw [hs]; exact b)]
          exact ih (s.size - (k + 1)) (by omega) _ rfl (by omega)
    · have e1 : k = s.size := by omega
      subst e1
      rw [gapS_end s _ (by omega)]
      refine ⟨fun h => absurd h (by omega), fun _ => gapS_blk w _ hz (by rw [E.nl]; decide)⟩
/-- A token, so much further on. -/
def shT (d : Nat) (t : Tok) : Tok := ⟨t.kind, t.text, t.num, d + t.a, d + t.e⟩
/-- From p on these tokens stand, up to p'. -/
def Scn (w : ByteArray) (p : Nat) (l : List Tok) (p' : Nat) : Prop := scanS w p = (l ++ (scanS w p').1, (scanS w p').2)
theorem Scn.trans {w : ByteArray} {p p' p'' : Nat} {l l' : List Tok} (h : Scn w p l p') (h' : Scn w p' l' p'') : Scn w p (l ++ l') p'' := by
  unfold Scn at *
  rw [h, h', List.append_assoc]
theorem sc_emw {s w : ByteArray} {d : Nat} (E : Emw s w d) : ∀ (n k : Nat), s.size - k = n → k ≤ s.size → (scanS s k).2 = none → ∃ l, (scanS s k).1 = l ++ [tokE s.size] ∧ Scn w (d + k) (l.map (shT d)) (d + s.size + 1) := by
  have hz := E.sz
  intro n
  induction n using Nat.strongRecOn with
  | ind n ih =>
    intro k hn hk h
    have hg := gap_emw E _ k rfl hk
    by_cases hl : gapS s k < s.size
    · have hge := gapS_ge s k
      have hgw := hg.1 hl
      cases ht : tokS s (gapS s k) with
      | bad c a => rw [scan_bad hl ht] at h; cases h
      | ok t =>
        have hin := tok_in hl ht
        have hgo := scan_go hl ht
        rw [hgo] at h
        obtain ⟨l, h1, h2⟩ := ih (s.size - t.e) (by omega) t.e rfl (by omega) h
        have E2 : Em2 s w (gapS s k) t.e (d + gapS s k) := by
          refine ⟨by omega, hin.2.2, by omega, fun j hj => ?_, ?_⟩
          · rw [Nat.add_assoc]; exact E.same _ (by omega)
          · rw [show d + gapS s k + (t.e - gapS s k) = d + t.e by omega]
            by_cases he : t.e < s.size
            · exact Or.inl (E.same _ he)
            · right
              rw [show t.e = s.size by omega, E.nl]
              exact ⟨by decide, fun a => by unfold mk2; simp⟩
        have htw := tok_em2 hl ht E2
        have hgow := scan_go (s := w) (k := d + k) (by rw [hgw]; omega) (by rw [hgw]; exact htw)
        refine ⟨t :: l, by rw [hgo, h1]; rfl, ?_⟩
        unfold Scn at h2 ⊢
        rw [hgow]
        simp only
        rw [show d + gapS s k + (t.e - gapS s k) = d + t.e by omega, h2]
        simp only [List.map_cons, List.cons_append]
        have e1 : shT d t = ⟨t.kind, t.text, t.num, d + gapS s k, d + t.e⟩ := by unfold shT; rw [hin.1]
        rw [e1]
    · refine ⟨[], by rw [scan_fin hl]; rfl, ?_⟩
      unfold Scn
      rw [scan_gap (hg.2 hl)]
      rfl
theorem sc_src {s w : ByteArray} {d : Nat} (E : Emw s w d) (h : (scanT s).2 = none) : ∃ l, (scanT s).1 = l ++ [tokE s.size] ∧ Scn w d (l.map (shT d)) (d + s.size + 1) := by
  have hz := (scan_shape h).1
  have e : scanT s = scanS s 0 := by unfold scanT; exact if_pos hz
  rw [e] at h ⊢
  exact sc_emw E _ 0 rfl (Nat.zero_le _) h
theorem sc_tok {w : ByteArray} {p : Nat} {t : Tok} (hp : p < w.size) (h35 : bt w p ≠ 35) (hb : blkB (iv (bt w p)) = false) (h : tokS w p = .ok t) : Scn w p [t] t.e := by
  have g := gapS_no w p hp h35 hb
  exact scan_go (s := w) (k := p) (by rw [g]; exact hp) (by rw [g]; exact h)
theorem sc_blank {w : ByteArray} {p : Nat} (hp : p < w.size) (hb : bt w p = 32) : Scn w p [] (p + 1) := by
  unfold Scn
  rw [scan_gap (gapS_blk w p hp (by rw [hb]; decide))]
  rfl
theorem ext_of {w B : ByteArray} {p : Nat} (hz : p + B.size ≤ w.size) (h : ∀ j, j < B.size → bt w (p + j) = bt B j) : w.extract p (p + B.size) = B := by
  apply list_eq_of_bt
  · rw [ext_sz w _ _ hz]; omega
  · intro j hj
    rw [ext_sz w _ _ hz] at hj
    rw [ext_bt w _ _ j hj hz]
    exact h j (by omega)
/-- A mark of one byte. -/
def m1 (c : UInt8) (p : Nat) : Tok := ⟨4, ⟨#[c]⟩, 0, p, p + 1⟩
def m2 (c c' : UInt8) (p : Nat) : Tok := ⟨4, ⟨#[c, c']⟩, 0, p, p + 2⟩
theorem sc_m1 {w : ByteArray} {p : Nat} (c : UInt8) (h : bt w p = c) (hp : p < w.size) (h1 : mk1 c = true) (h2 : mk2 c (bt w (p + 1)) = false) (hq : (c ≠ 34 ∧ digB (iv c) = false ∧ c ≠ 45 ∧ inwB (iv c) = false ∧ c ≠ 35 ∧ blkB (iv c) = false)) : Scn w p [m1 c p] (p + 1) := by
  obtain ⟨q1, q2, q3, q4, q5, q6⟩ := hq
  refine sc_tok (t := m1 c p) hp (by rw [h]; exact q5) (by rw [h]; exact q6) ?_
  have e1 : w.extract p (p + 1) = ⟨#[c]⟩ := ext_of (B := ⟨#[c]⟩) (by show p + 1 ≤ _; omega) (fun j hj => by
    have : j < 1 := hj
    obtain rfl : j = 0 := by omega
    exact h)
  unfold tokS
  rw [h, if_neg q1, if_neg (by rw [q2]; rintro (h | h); cases h; exact q3 h.1), if_neg (by rw [q4]; decide)]
  unfold markS
  rw [h, if_neg (by rw [h2]; decide), if_pos h1, e1]
  rfl
theorem sc_m2 {w : ByteArray} {p : Nat} (c c' : UInt8) (h : bt w p = c) (h' : bt w (p + 1) = c') (hp : p + 1 < w.size) (h2 : mk2 c c' = true) (hq : (c ≠ 34 ∧ digB (iv c) = false ∧ c ≠ 45 ∧ inwB (iv c) = false ∧ c ≠ 35 ∧ blkB (iv c) = false)) : Scn w p [m2 c c' p] (p + 2) := by
  obtain ⟨q1, q2, q3, q4, q5, q6⟩ := hq
  refine sc_tok (t := m2 c c' p) (by omega) (by rw [h]; exact q5) (by rw [h]; exact q6) ?_
  have e1 : w.extract p (p + 2) = ⟨#[c, c']⟩ := ext_of (B := ⟨#[c, c']⟩) (by show p + 2 ≤ _; omega) (fun j hj => by
    have : j < 2 := hj
    rcases (show j = 0 ∨ j = 1 by omega) with rfl | rfl
    · exact h
    · exact h')
  unfold tokS
  rw [h, if_neg q1, if_neg (by rw [q2]; rintro (h | h); cases h; exact q3 h.1), if_neg (by rw [q4]; decide)]
  unfold markS
  rw [h, h', if_pos h2, e1]
  rfl
theorem sc_open {w : ByteArray} {p : Nat} (h : bt w p = 40) (hp : p < w.size) : Scn w p [m1 40 p] (p + 1) := sc_m1 40 h hp (by decide) (by unfold mk2; simp) (by decide)
theorem sc_shut {w : ByteArray} {p : Nat} (h : bt w p = 41) (hp : p < w.size) : Scn w p [m1 41 p] (p + 1) := sc_m1 41 h hp (by decide) (by unfold mk2; simp) (by decide)
theorem sc_comma {w : ByteArray} {p : Nat} (h : bt w p = 44) (hp : p < w.size) : Scn w p [m1 44 p] (p + 1) := sc_m1 44 h hp (by decide) (by unfold mk2; simp) (by decide)
theorem sc_not {w : ByteArray} {p : Nat} (h : bt w p = 33) (h' : bt w (p + 1) = 40) (hp : p < w.size) : Scn w p [m1 33 p] (p + 1) := sc_m1 33 h hp (by decide) (by rw [h']; decide) (by decide)
theorem sc_and {w : ByteArray} {p : Nat} (h : bt w p = 38) (h' : bt w (p + 1) = 38) (hp : p + 1 < w.size) : Scn w p [m2 38 38 p] (p + 2) := sc_m2 38 38 h h' hp (by decide) (by decide)
theorem sc_or {w : ByteArray} {p : Nat} (h : bt w p = 124) (h' : bt w (p + 1) = 124) (hp : p + 1 < w.size) : Scn w p [m2 124 124 p] (p + 2) := sc_m2 124 124 h h' hp (by decide) (by decide)
theorem sc_ge {w : ByteArray} {p : Nat} (h : bt w p = 62) (h' : bt w (p + 1) = 61) (hp : p + 1 < w.size) : Scn w p [m2 62 61 p] (p + 2) := sc_m2 62 61 h h' hp (by decide) (by decide)
theorem sc_end {w : ByteArray} {p : Nat} {l : List Tok} (h : Scn w 0 l p) (hp : ¬ p < w.size) (hz : w.size ≤ 4096) : scanT w = (l ++ [tokE w.size], none) := by
  have e : scanT w = scanS w 0 := by unfold scanT; exact if_pos hz
  unfold Scn at h
  rw [e, h, scan_fin (by rw [gapS_end w p hp]; exact hp)]
theorem sc_q {w : ByteArray} {p : Nat} {l : List UInt8} (h : Stands w p (quoteL l)) (hl : l.length ≤ 127) : Scn w p [⟨1, ⟨l.toArray⟩, 0, p, p + (quoteL l).length⟩] (p + (quoteL l).length) := by
  have b0 : bt w p = 34 := by have := h.2 0 (by simp [quoteL]); simpa [quoteL] using this
  have hz : p < w.size := by have := h.1; simp [quoteL] at this; omega
  exact sc_tok hz (by rw [b0]; decide) (by rw [b0]; decide) (tok_q h hl)
end Go.Proofs.YtcldglilhhhdoaaGreatDoor.L
