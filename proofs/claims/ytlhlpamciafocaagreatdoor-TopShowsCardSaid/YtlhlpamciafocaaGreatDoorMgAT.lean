import Derived.Test.YtlhlpamciafocaaGreatDoorMgAS
import Derived.Test.YtlhlpamciafocaaGreatDoorMgAA
import Derived.Lib.Join
import Derived.Lib.ItoaMem
namespace Go.Proofs.YtlhlpamciafocaaGreatDoor.L
open Go.RowKit Go.Shelf
set_option linter.unusedVariables false
/-- What stands in U from k on. -/
def Stands (U : ByteArray) (k : Nat) (m : List UInt8) : Prop := k + m.length ≤ U.size ∧ ∀ j, j < m.length → bt U (k + j) = m.getD j 0
theorem stands_app {U : ByteArray} {k : Nat} {m r : List UInt8} (h : Stands U k (m ++ r)) : Stands U k m ∧ Stands U (k + m.length) r := by
  obtain ⟨h1, h2⟩ := h
  rw [List.length_append] at h1
  refine ⟨⟨by omega, fun j hj => ?_⟩, ⟨by omega, fun j hj => ?_⟩⟩
  · rw [h2 j (by rw [List.length_append]; omega), List.getD_eq_getElem?_getD, List.getD_eq_getElem?_getD, List.getElem?_append_left hj]
  · have := h2 (m.length + j) (by rw [List.length_append]; omega)
    rw [show k + m.length + j = k + (m.length + j) by omega, this, List.getD_eq_getElem?_getD, List.getD_eq_getElem?_getD, List.getElem?_append_right (by omega), show m.length + j - m.length = j by omega]
theorem hx_val (n : Nat) (h : n < 16) : hexv (iv (hx n)) = n := by
  have : ∀ n : Fin 16, hexv (iv (hx n.val)) = n.val := by decide +kernel
  exact this ⟨n, h⟩
theorem hex_back (c : UInt8) : UInt8.ofNat (16 * hexv (iv (hx (c.toNat / 16))) + hexv (iv (hx (c.toNat % 16)))).toNat = c := by
  have hc := c.toNat_lt
  rw [hx_val _ (by omega), hx_val _ (by omega)]
  rw [show (16 * ((c.toNat / 16 : Nat) : Int) + ((c.toNat % 16 : Nat) : Int)).toNat = c.toNat by omega]
  exact UInt8.ofNat_toNat
theorem tx_q (U : ByteArray) (f : Nat) : ∀ (r l0 : List UInt8) (k : Nat), Stands U k (r.flatMap qB ++ [34]) → txS U f k l0 = if 127 < (l0 ++ r).length then .bad 115 f else .ok (l0 ++ r) (k + (r.flatMap qB).length + 1)
  | [], l0, k, h => by
    have h1 : k + 1 ≤ U.size := by simpa using h.1
    have h2 : bt U k = 34 := by have := h.2 0 (by simp); simpa using this
    rw [txS_q U f k l0 (by omega) h2]
    simp
  | c :: r, l0, k, h => by
    rw [List.flatMap_cons, List.append_assoc] at h
    obtain ⟨hm, hr⟩ := stands_app h
    have ih := tx_q U f r (l0 ++ [c]) (k + (qB c).length) hr
    have hl : (l0 ++ [c] ++ r) = l0 ++ c :: r := by simp
    rw [hl] at ih
    have fin : txS U f k l0 = txS U f (k + (qB c).length) (l0 ++ [c]) := by
      have hs := hm.1
      have b : ∀ j, j < (qB c).length → bt U (k + j) = (qB c).getD j 0 := hm.2
      have two : ∀ v, qB c = [92, v] → (escV v (bt U (k + 2)) (bt U (k + 3))) = (c, 2) → txS U f k l0 = txS U f (k + (qB c).length) (l0 ++ [c]) := by
        intro v hq he
        rw [hq] at hs b ⊢
        have b0 : bt U k = 92 := by have := b 0 (by simp); simpa using this
        have b1 : bt U (k + 1) = v := by have := b 1 (by simp); simpa using this
        have e3 : esc3 U k = (c, 2) := by unfold esc3; rw [b1]; exact he
        simp only [List.length_cons, List.length_nil] at hs
        rw [txS_e U f k l0 (by omega) b0 (by rw [e3]; exact Nat.succ_ne_zero _), e3]
        rfl
      by_cases c34 : c = 34
      · subst c34
        exact two 34 rfl (by unfold escV; simp)
      by_cases c92 : c = 92
      · subst c92
        exact two 92 rfl (by unfold escV; simp)
      by_cases c10 : c = 10
      · subst c10
        exact two 110 rfl (by unfold escV; simp)
      by_cases c9 : c = 9
      · subst c9
        exact two 116 rfl (by unfold escV; simp)
      by_cases c13 : c = 13
      · subst c13
        exact two 114 rfl (by unfold escV; simp)
      by_cases cp : 32 ≤ iv c ∧ iv c ≤ 126
      · have hq : qB c = [c] := by unfold qB; rw [if_neg c34, if_neg c92, if_neg c10, if_neg c9, if_neg c13, if_pos cp]
        rw [hq] at hs b ⊢
        have b0 : bt U k = c := by have := b 0 (by simp); simpa using this
        simp only [List.length_cons, List.length_nil] at hs
        rw [txS_go U f k l0 (by omega) (by rw [b0]; exact c34) (by rw [b0]; exact c92) (by rw [b0]; omega), b0]
        rfl
      · have hq : qB c = [92, 120, hx (c.toNat / 16), hx (c.toNat % 16)] := by unfold qB; rw [if_neg c34, if_neg c92, if_neg c10, if_neg c9, if_neg c13, if_neg cp]
        rw [hq] at hs b ⊢
        have b0 : bt U k = 92 := by have := b 0 (by simp); simpa using this
        have b1 : bt U (k + 1) = 120 := by have := b 1 (by simp); simpa using this
        have b2 : bt U (k + 2) = hx (c.toNat / 16) := by have := b 2 (by simp); simpa using this
        have b3 : bt U (k + 3) = hx (c.toNat % 16) := by have := b 3 (by simp); simpa using this
        have e3 : esc3 U k = (c, 4) := by
          have hc := c.toNat_lt
          unfold esc3
          rw [b1, b2, b3]
          unfold escV
          rw [if_neg (by decide), if_neg (by decide), if_neg (by decide), if_neg (by decide), if_neg (by decide), if_pos ⟨rfl, by rw [hx_val _ (by omega)]; omega, by rw [hx_val _ (by omega)]; omega⟩, hex_back]
        simp only [List.length_cons, List.length_nil] at hs
        rw [txS_e U f k l0 (by omega) b0 (by rw [e3]; exact Nat.succ_ne_zero _), e3]
        rfl
    rw [fin, ih, show (List.flatMap qB (c :: r)).length = (qB c).length + (List.flatMap qB r).length by rw [List.flatMap_cons, List.length_append]]
    rw [show k + (qB c).length + (r.flatMap qB).length + 1 = k + ((qB c).length + (r.flatMap qB).length) + 1 by omega]
/-- A text that Quote wrote, where it stands. -/
theorem tok_q {w : ByteArray} {p : Nat} {l : List UInt8} (h : Stands w p (quoteL l)) (hl : l.length ≤ 127) : tokS w p = .ok ⟨1, ⟨l.toArray⟩, 0, p, p + (quoteL l).length⟩ := by
  have e0 : quoteL l = [34] ++ (l.flatMap qB ++ [34]) := rfl
  rw [e0] at h
  obtain ⟨h1, h2⟩ := stands_app h
  have b0 : bt w p = 34 := by have := h1.2 0 (by simp); simpa using this
  have ht := tx_q w p l [] (p + 1) h2
  rw [if_neg (by simp; omega)] at ht
  unfold tokS
  rw [if_pos b0, ht]
  show RR.ok _ = _
  congr 1
  simp [quoteL]
  omega
end Go.Proofs.YtlhlpamciafocaaGreatDoor.L
namespace Go.Proofs.YtlhlpamciafocaaGreatDoor.L
open Go.RowKit Go.Shelf
set_option linter.unusedVariables false
set_option linter.unusedSimpArgs false
/-- From p on these tokens stand, up to p'. -/
def Scn (w : ByteArray) (p : Nat) (l : List Tok) (p' : Nat) : Prop := scanS w p = (l ++ (scanS w p').1, (scanS w p').2)
theorem Scn.trans {w : ByteArray} {p p' p'' : Nat} {l l' : List Tok} (h : Scn w p l p') (h' : Scn w p' l' p'') : Scn w p (l ++ l') p'' := by
  unfold Scn at *
  rw [h, h', List.append_assoc]
theorem sc_tok {w : ByteArray} {p : Nat} {t : Tok} (hp : p < w.size) (h35 : bt w p ≠ 35) (hb : blkB (iv (bt w p)) = false) (h : tokS w p = .ok t) : Scn w p [t] t.e := by
  have g := gapS_no w p hp h35 hb
  exact scan_go (s := w) (k := p) (by rw [g]; exact hp) (by rw [g]; exact h)
theorem sc_blank {w : ByteArray} {p : Nat} (hp : p < w.size) (hb : bt w p = 32) : Scn w p [] (p + 1) := by
  unfold Scn
  rw [scan_gap (gapS_blk w p hp (by rw [hb]; decide))]
  rfl
theorem ext_of {w B : ByteArray} {p : Nat} (hz : p + B.size ≤ w.size) (h : ∀ j, j < B.size → bt w (p + j) = bt B j) : w.extract p (p + B.size) = B := by
  apply list_eq_of_bt
  · rw [ext_sz w _ _ hz]; omega
  · intro j hj
    rw [ext_sz w _ _ hz] at hj
    rw [ext_bt w _ _ j hj hz]
    exact h j (by omega)
/-- A mark of one byte. -/
def m1 (c : UInt8) (p : Nat) : Tok := ⟨4, ⟨#[c]⟩, 0, p, p + 1⟩
def m2 (c c' : UInt8) (p : Nat) : Tok := ⟨4, ⟨#[c, c']⟩, 0, p, p + 2⟩
theorem sc_m1 {w : ByteArray} {p : Nat} (c : UInt8) (h : bt w p = c) (hp : p < w.size) (h1 : mk1 c = true) (h2 : mk2 c (bt w (p + 1)) = false) (hq : (c ≠ 34 ∧ digB (iv c) = false ∧ c ≠ 45 ∧ inwB (iv c) = false ∧ c ≠ 35 ∧ blkB (iv c) = false)) : Scn w p [m1 c p] (p + 1) := by
  obtain ⟨q1, q2, q3, q4, q5, q6⟩ := hq
  refine sc_tok (t := m1 c p) hp (by rw [h]; exact q5) (by rw [h]; exact q6) ?_
  have e1 : w.extract p (p + 1) = ⟨#[c]⟩ := ext_of (B := ⟨#[c]⟩) (by show p + 1 ≤ _; omega) (fun j hj => by
    have : j < 1 := hj
    obtain rfl : j = 0 := by omega
    exact h)
  unfold tokS
  rw [h, if_neg q1, if_neg (by rw [q2]; rintro (h | h); cases h; exact q3 h.1), if_neg (by rw [q4]; decide)]
  unfold markS
  rw [h, if_neg (by rw [h2]; decide), if_pos h1, e1]
  rfl
theorem sc_m2 {w : ByteArray} {p : Nat} (c c' : UInt8) (h : bt w p = c) (h' : bt w (p + 1) = c') (hp : p + 1 < w.size) (h2 : mk2 c c' = true) (hq : (c ≠ 34 ∧ digB (iv c) = false ∧ c ≠ 45 ∧ inwB (iv c) = false ∧ c ≠ 35 ∧ blkB (iv c) = false)) : Scn w p [m2 c c' p] (p + 2) := by
  obtain ⟨q1, q2, q3, q4, q5, q6⟩ := hq
  refine sc_tok (t := m2 c c' p) (by omega) (by rw [h]; exact q5) (by rw [h]; exact q6) ?_
  have e1 : w.extract p (p + 2) = ⟨#[c, c']⟩ := ext_of (B := ⟨#[c, c']⟩) (by show p + 2 ≤ _; omega) (fun j hj => by
    have : j < 2 := hj
    rcases (show j = 0 ∨ j = 1 by omega) with rfl | rfl
    · exact h
    · exact h')
  unfold tokS
  rw [h, if_neg q1, if_neg (by rw [q2]; rintro (h | h); cases h; exact q3 h.1), if_neg (by rw [q4]; decide)]
  unfold markS
  rw [h, h', if_pos h2, e1]
  rfl
theorem sc_end {w : ByteArray} {p : Nat} {l : List Tok} (h : Scn w 0 l p) (hp : ¬ p < w.size) (hz : w.size ≤ 4096) : scanT w = (l ++ [tokE w.size], none) := by
  have e : scanT w = scanS w 0 := by unfold scanT; exact if_pos hz
  unfold Scn at h
  rw [e, h, scan_fin (by rw [gapS_end w p hp]; exact hp)]
theorem sc_q {w : ByteArray} {p : Nat} {l : List UInt8} (h : Stands w p (quoteL l)) (hl : l.length ≤ 127) : Scn w p [⟨1, ⟨l.toArray⟩, 0, p, p + (quoteL l).length⟩] (p + (quoteL l).length) := by
  have b0 : bt w p = 34 := by have := h.2 0 (by simp [quoteL]); simpa [quoteL] using this
  have hz : p < w.size := by have := h.1; simp [quoteL] at this; omega
  exact sc_tok hz (by rw [b0]; decide) (by rw [b0]; decide) (tok_q h hl)
end Go.Proofs.YtlhlpamciafocaaGreatDoor.L
namespace Go.Proofs.YtlhlpamciafocaaGreatDoor.L
open Go.RowKit Go.Shelf
set_option linter.unusedVariables false
set_option linter.unusedSimpArgs false
theorem tk_l {x y : List Tok} {i : Nat} (h : i < x.length) : tk (x ++ y) i = tk x i := by
  unfold tk
  rw [List.getD_eq_getElem?_getD, List.getD_eq_getElem?_getD, List.getElem?_append_left h]
theorem tk_r (x y : List Tok) (i : Nat) : tk (x ++ y) (x.length + i) = tk y i := by
  unfold tk
  rw [List.getD_eq_getElem?_getD, List.getD_eq_getElem?_getD, List.getElem?_append_right (by omega), show x.length + i - x.length = i by omega]
theorem tk_map {x : List Tok} {f : Tok → Tok} {i : Nat} (h : i < x.length) : tk (x.map f) i = f (tk x i) := by
  unfold tk
  rw [List.getD_eq_getElem?_getD, List.getD_eq_getElem?_getD, List.getElem?_map, List.getElem?_eq_getElem h]
  rfl
theorem fre_last (T : List Pt) {k : Int} (h : fre T T.length = [k]) : k = (T.length : Int) - 1 ∧ 0 < T.length := by
  cases hl : T.length with
  | zero => rw [hl] at h; cases h
  | succ n =>
    rw [hl] at h
    simp only [fre] at h
    have h2 := congrArg List.getLast? h
    rw [List.getLast?_concat] at h2
    simp at h2
    exact ⟨by omega, by omega⟩
theorem row_one {T : List Tok} {one : PS → PRes Int} {kd : Int} {m : List UInt8} {s s1 : PS} {k : Int} (h : one s = .ok (k, s1)) (hm : isM T s1 m = false) : rowP T one kd m s = .ok (k, s1) := by
  unfold rowP
  rw [h, bnd_ok]
  have e : rowsP T one m 4097 [k] s1 = .ok ([k], s1) := by
    show (if isM T s1 m = true then _ else _) = _
    rw [hm]
    rfl
  rw [e, bnd_ok]
  rfl
end Go.Proofs.YtlhlpamciafocaaGreatDoor.L
namespace Go.Proofs.YtlhlpamciafocaaGreatDoor.L
open Go.RowKit Go.Shelf
set_option linter.unusedVariables false
set_option linter.unusedSimpArgs false
section
variable {fs ss : ByteArray} {l1 l2 T : List Tok} {A B : List Pt}
end
end Go.Proofs.YtlhlpamciafocaaGreatDoor.L
namespace Go.Proofs.YtlhlpamciafocaaGreatDoor.L
open Go.RowKit
set_option linter.unusedVariables false
abbrev S (l : List UInt8) : ByteArray := ⟨l.toArray⟩
theorem S_size (l : List UInt8) : (S l).size = l.length := by
  show l.toArray.size = _
  simp
/-- The word of a side. -/
def whoL (n : Int) : List UInt8 := if n = 1 then [112, 111, 100] else if n = 2 then [110, 111, 100, 101] else [105, 116]
/-- The mark of a comparison. -/
def sgnL (n : Int) : List UInt8 := if n = 1 then [61, 61] else if n = 2 then [33, 61] else if n = 3 then [60] else if n = 4 then [60, 61] else if n = 5 then [62] else [62, 61]
def memL (n : Int) : List UInt8 := if n = 1 then [110, 111, 116, 105, 110] else [105, 110]
/-- The text of a part: its kind, its text in quotes, its number, its kids' texts as they stand in it. -/
def txK (k : Int) (q : List UInt8) (nu : Int) (ks : List (List UInt8)) : List UInt8 :=
  if k = 1 then [116, 114, 117, 101]
  else if k = 2 then [102, 97, 108, 115, 101]
  else if k = 3 then [33] ++ ks.getD 0 []
  else if k = 4 then Lib.join ks [32, 38, 38, 32]
  else if k = 5 then Lib.join ks [32, 124, 124, 32]
  else if k = 6 then ks.getD 0 [] ++ ([32] ++ (sgnL nu ++ ([32] ++ ks.getD 1 [])))
  else if k = 7 then ks.getD 0 [] ++ ([32] ++ (memL nu ++ ([32] ++ ks.getD 1 [])))
  else if k = 8 then [110, 101, 97, 114] ++ ([40] ++ ((q ++ ([44, 32] ++ ks.getD 0 [])) ++ [41]))
  else if k = 9 then [97, 112, 97, 114, 116] ++ ([40] ++ ((q ++ ([44, 32] ++ ks.getD 0 [])) ++ [41]))
  else if k = 10 then [116, 111, 108, 101, 114, 97, 116, 101, 100] ++ ([40] ++ (q ++ [41]))
  else if k = 11 then q
  else if k = 12 then Lib.itoa nu
  else if k = 13 then [123] ++ (Lib.join ks [44, 32] ++ [125])
  else if k = 14 then whoL nu ++ ([91] ++ (q ++ [93]))
  else if k = 15 then whoL nu ++ [46, 110, 97, 109, 101]
  else if k = 16 then whoL nu ++ [46, 107, 101, 121, 115]
  else if k = 17 then whoL nu ++ [46, 116, 97, 105, 110, 116, 115]
  else if k = 18 then (whoL nu ++ [46, 99, 97, 112]) ++ ([40] ++ (q ++ [41]))
  else if k = 19 then [105, 110, 116] ++ ([40] ++ (ks.getD 0 [] ++ [41]))
  else [99, 111, 117, 110, 116] ++ ([40] ++ ((q ++ ([44, 32] ++ ks.getD 0 [])) ++ [41]))
/-- A kid's text as it stands in a part of this kind. -/
def kidL (T : List Pt) (X : List (List UInt8)) (k : Int) (x : Int) : List UInt8 := if brB k (pt T x.toNat).kind then [40] ++ (X.getD x.toNat [] ++ [41]) else X.getD x.toNat []
def ksL (T : List Pt) (X : List (List UInt8)) (p : Pt) : List (List UInt8) := p.kids.map (kidL T X p.kind)
def ptx (T : List Pt) (X : List (List UInt8)) (p : Pt) : List UInt8 := txK p.kind (quoteL p.text.data.toList) p.num (ksL T X p)
/-- The texts of the first parts. -/
def txs (T : List Pt) : Nat → List (List UInt8)
  | 0 => []
  | i + 1 => txs T i ++ [ptx T (txs T i) (pt T i)]
theorem txs_len (T : List Pt) : ∀ i, (txs T i).length = i
  | 0 => rfl
  | i + 1 => by simp [txs, txs_len T i]
theorem txs_get (T : List Pt) (j : Nat) : ∀ {i : Nat}, j < i → (txs T i)[j]? = some (ptx T (txs T j) (pt T j))
  | i + 1, h => by
    simp only [txs]
    by_cases e : j < i
    · rw [List.getElem?_append_left (by rw [txs_len]; exact e)]
      exact txs_get T j e
    · have : j = i := by omega
      subst this
      rw [List.getElem?_append_right (by rw [txs_len]; omega), txs_len]
      simp
/-- The text of a valid tree, or none, if one of its parts has too long a one. -/
def Shrt (T : List Pt) (i : Nat) : Prop := ∀ j, j < i → ((txs T i).getD j []).length ≤ 4096
theorem getD_txs (T : List Pt) {i j : Nat} (h : j < i) : (txs T i).getD j [] = ptx T (txs T j) (pt T j) := by
  rw [List.getD_eq_getElem?_getD, txs_get T j h]
  rfl
theorem Shrt.more {T : List Pt} {i : Nat} (h : Shrt T i) (hl : (ptx T (txs T i) (pt T i)).length ≤ 4096) : Shrt T (i + 1) := by
  intro k hk
  rw [getD_txs T hk]
  by_cases e : k < i
  · have := h k e
    rwa [getD_txs T e] at this
  · have : k = i := by omega
    subst this
    exact hl
theorem shrt_zero (T : List Pt) : Shrt T 0 := fun j hj => absurd hj (Nat.not_lt_zero j)
theorem kid_len {T : List Pt} {i : Nat} (h : Shrt T i) (k x : Int) : (kidL T (txs T i) k x).length ≤ 4098 := by
  have : ((txs T i).getD x.toNat []).length ≤ 4096 := by
    by_cases e : x.toNat < i
    · exact h _ e
    · rw [List.getD_eq_getElem?_getD, List.getElem?_eq_none (by rw [txs_len]; omega)]
      simp
  unfold kidL
  split
  · simp only [List.length_append, List.length_cons, List.length_nil]
    omega
  · omega
theorem lens_le {m : Nat} : ∀ (l : List (List UInt8)), (∀ x, x ∈ l → x.length ≤ m) → Lib.lens l ≤ l.length * m
  | [], _ => by simp [Lib.lens]
  | x :: l, h => by
    have h1 := h x (by simp)
    have h2 := lens_le l (fun y hy => h y (by simp [hy]))
    have e : Lib.lens (x :: l) = x.length + Lib.lens l := by simp [Lib.lens]
    rw [e, List.length_cons, Nat.add_mul]
    omega
theorem join_le (m : Nat) {l : List (List UInt8)} {sep : List UInt8} (h : ∀ x, x ∈ l → x.length ≤ m) (hn : l.length ≤ 1000) (hs : sep.length ≤ 10) : (Lib.join l sep).length ≤ 1000 * m + 10000 := by
  cases l with
  | nil => simp [Lib.join_nil]
  | cons x r =>
    rw [Lib.join_length]
    have h1 := lens_le (x :: r) h
    have h2 : sep.length * r.length ≤ 10 * 1000 := Nat.mul_le_mul hs (by simp at hn; omega)
    have h3 : (x :: r).length * m ≤ 1000 * m := Nat.mul_le_mul_right _ hn
    omega
end Go.Proofs.YtlhlpamciafocaaGreatDoor.L
