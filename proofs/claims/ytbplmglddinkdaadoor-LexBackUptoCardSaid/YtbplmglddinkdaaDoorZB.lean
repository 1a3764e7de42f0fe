import Derived.Test.YtbplmglddinkdaaDoorXW
import Derived.Test.YtbplmglddinkdaaDoorYU
namespace Go.Proofs.YtbplmglddinkdaaDoor.L
open Go.RowKit Go.Shelf
set_option linter.unusedVariables false
/-- What stands in U from k on. -/
def Stands (U : ByteArray) (k : Nat) (m : List UInt8) : Prop := k + m.length ≤ U.size ∧ ∀ j, j < m.length → bt U (k + j) = m.getD j 0
theorem stands_app {U : ByteArray} {k : Nat} {m r : List UInt8} (h : Stands U k (m ++ r)) : Stands U k m ∧ Stands U (k + m.length) r := by
  obtain ⟨h1, h2⟩ := h
  rw [List.length_append] at h1
  refine ⟨⟨by omega, fun j hj => ?_⟩, ⟨by omega, fun j hj => ?_⟩⟩
  · rw [h2 j (by rw [List.length_append]; omega), List.getD_eq_getElem?_getD, List.getD_eq_getElem?_getD, List.getElem?_append_left hj]
  · have := h2 (m.length + j) (by rw [List.length_append]; omega)
    rw [show k + m.length + j = k + (m.length + j) by omega, this, List.getD_eq_getElem?_getD, List.getD_eq_getElem?_getD, List.getElem?_append_right (by omega), show m.length + j - m.length = j by omega]
theorem hx_val (n : Nat) (h : n < 16) : hexv (iv (hx n)) = n := by
  have : ∀ n : Fin 16, hexv (iv (hx n.val)) = n.val := by decide +kernel
  exact this ⟨n, h⟩
theorem hex_back (c : UInt8) : UInt8.ofNat (16 * hexv (iv (hx (c.toNat / 16))) + hexv (iv (hx (c.toNat % 16)))).toNat = c := by
  have hc := c.toNat_lt
  rw [hx_val _ (by omega), hx_val _ (by omega)]
  rw [show (16 * ((c.toNat / 16 : Nat) : Int) + ((c.toNat % 16 : Nat) : Int)).toNat = c.toNat by omega]
  exact UInt8.ofNat_toNat
theorem tx_q (U : ByteArray) (f : Nat) : ∀ (r l0 : List UInt8) (k : Nat), Stands U k (r.flatMap qB ++ [34]) → txS U f k l0 = if 127 < (l0 ++ r).length then .bad 115 f else .ok (l0 ++ r) (k + (r.flatMap qB).length + 1)
  | [], l0, k, h => by
    have h1 : k + 1 ≤ U.size := by simpa using h.1
    have h2 : bt U k = 34 := by have := h.2 0 (by simp); simpa using this
    rw [txS_q U f k l0 (by omega) h2]
    simp
  | c :: r, l0, k, h => by
    rw [List.flatMap_cons, List.append_assoc] at h
    obtain ⟨hm, hr⟩ := stands_app h
    have ih := tx_q U f r (l0 ++ [c]) (k + (qB c).length) hr
    have hl : (l0 ++ [c] ++ r) = l0 ++ c :: r := by simp
    rw [hl] at ih
    have fin : txS U f k l0 = txS U f (k + (qB c).length) (l0 ++ [c]) := by
      have hs := hm.1
      have b : ∀ j, j < (qB c).length → bt U (k + j) = (qB c).getD j 0 := hm.2
      have two : ∀ v, qB c = [92, v] → (escV v (bt U (k + 2)) (bt U (k + 3))) = (c, 2) → txS U f k l0 = txS U f (k + (qB c).length) (l0 ++ [c]) := by
        intro v hq he
        rw [hq] at hs b ⊢
        have b0 : bt U k = 92 := by have := b 0 (by simp); simpa using this
        have b1 : bt U (k + 1) = v := by have := b 1 (by simp); simpa using this
        have e3 : esc3 U k = (c, 2) := by unfold esc3; rw [b1]; exact he
        simp only [List.length_cons, List.length_nil] at hs
        rw [txS_e U f k l0 (by omega) b0 (by rw [e3]; exact Nat.succ_ne_zero _), e3]
        rfl
      by_cases c34 : c = 34
      · subst c34
        exact two 34 rfl (by unfold escV; simp)
      by_cases c92 : c = 92
      · subst c92
        exact two 92 rfl (by unfold escV; simp)
      by_cases c10 : c = 10
      · subst c10
        exact two 110 rfl (by unfold escV; simp)
      by_cases c9 : c = 9
      · subst c9
        exact two 116 rfl (by unfold escV; simp)
      by_cases c13 : c = 13
      · subst c13
        exact two 114 rfl (by unfold escV; simp)
      by_cases cp : 32 ≤ iv c ∧ iv c ≤ 126
      · have hq : qB c = [c] := by unfold qB; rw [if_neg c34, if_neg c92, if_neg c10, if_neg c9, if_neg c13, if_pos cp]
        rw [hq] at hs b ⊢
        have b0 : bt U k = c := by have := b 0 (by simp); simpa using this
        simp only [List.length_cons, List.length_nil] at hs
        rw [txS_go U f k l0 (by omega) (by rw [b0]; exact c34) (by rw [b0]; exact c92) (by rw [b0]; omega), b0]
        rfl
      · have hq : qB c = [92, 120, hx (c.toNat / 16), hx (c.toNat % 16)] := by unfold qB; rw [if_neg c34, if_neg c92, if_neg c10, if_neg c9, if_neg c13, if_neg cp]
        rw [hq] at hs b ⊢
        have b0 : bt U k = 92 := by have := b 0 (by simp); simpa using this
        have b1 : bt U (k + 1) = 120 := by have := b 1 (by simp); simpa using this
        have b2 : bt U (k + 2) = hx (c.toNat / 16) := by have := b 2 (by simp); simpa using this
        have b3 : bt U (k + 3) = hx (c.toNat % 16) := by have := b 3 (by simp); simpa using this
        have e3 : esc3 U k = (c, 4) := by
          have hc := c.toNat_lt
          unfold esc3
          rw [b1, b2, b3]
          unfold escV
          rw [if_neg (by decide), if_neg (by decide), if_neg (by decide), if_neg (by decide), if_neg (by decide), if_pos ⟨rfl, by rw [hx_val _ (by omega)]; omega, by rw [hx_val _ (by omega)]; omega⟩, hex_back]
        simp only [List.length_cons, List.length_nil] at hs
        rw [txS_e U f k l0 (by omega) b0 (by rw [e3]; exact Nat.succ_ne_zero _), e3]
        rfl
    rw [fin, ih, show (List.flatMap qB (c :: r)).length = (qB c).length + (List.flatMap qB r).length by rw [List.flatMap_cons, List.length_append]]
    rw [show k + (qB c).length + (r.flatMap qB).length + 1 = k + ((qB c).length + (r.flatMap qB).length) + 1 by omega]
theorem qB_print (c : UInt8) : ∀ x ∈ qB c, 32 ≤ iv x ∧ iv x ≤ 126 := by
  have := all_u8 (p := fun c => (qB c).all fun x => decide (32 ≤ iv x ∧ iv x ≤ 126)) (by decide +kernel) c
  intro x hx
  have := List.all_eq_true.1 this x hx
  exact of_decide_eq_true this
theorem quote_print (l : List UInt8) : ∀ x ∈ quoteL l, 32 ≤ iv x ∧ iv x ≤ 126 := by
  intro x hx
  unfold quoteL at hx
  simp only [List.cons_append, List.mem_cons, List.mem_append, List.mem_flatMap, List.not_mem_nil, or_false] at hx
  rcases hx with e | ⟨c, _, h⟩ | e
  · rw [e]; decide
  · exact qB_print c x h
  · rw [e]; decide
def qb (l : List UInt8) : ByteArray := ⟨(quoteL l).toArray⟩
theorem qb_size (l : List UInt8) : (qb l).size = (l.flatMap qB).length + 2 := by
  show (quoteL l).toArray.size = _
  simp [quoteL]
theorem bt_qb (l : List UInt8) (j : Nat) : bt (qb l) j = (quoteL l).getD j 0 := rfl
theorem qb_byte (l : List UInt8) (j : Nat) (h : j < (qb l).size) : 32 ≤ iv (bt (qb l) j) ∧ iv (bt (qb l) j) ≤ 126 := by
  have hl : (quoteL l).length = (qb l).size := by show _ = (quoteL l).toArray.size; simp
  rw [bt_qb, List.getD_eq_getElem?_getD, List.getElem?_eq_getElem (by omega)]
  exact quote_print l _ (List.getElem_mem _)
theorem qb_stands (l : List UInt8) : Stands (qb l) 1 (l.flatMap qB ++ [34]) := by
  refine ⟨by rw [qb_size, List.length_append, List.length_singleton]; omega, fun j hj => ?_⟩
  rw [bt_qb]
  unfold quoteL
  rw [List.cons_append, Nat.add_comm 1 j]
  rfl
theorem unq_qb (l : List UInt8) (h1 : (qb l).size ≤ 4096) : unqS (qb l) = if 127 < l.length then .bad 115 0 else .ok l (qb l).size := by
  unfold unqS
  rw [if_neg (by omega), if_neg (by rw [bt_qb]; exact fun h => h rfl), tx_q _ _ l [] 1 (qb_stands l), List.nil_append]
  by_cases h : 127 < l.length
  · rw [if_pos h, if_pos h]
  · rw [if_neg h, if_neg h]
    simp only []
    rw [qb_size, show 1 + (l.flatMap qB).length + 1 = (l.flatMap qB).length + 2 by omega, if_neg (by omega)]
theorem qB_le (l : List UInt8) : (l.flatMap qB).length ≤ 4 * l.length := flat_len l
/-- The source in the last ask. -/
def ask (l : List UInt8) : ByteArray := ⟨#[97]⟩ ++ qb l ++ ⟨#[46]⟩
theorem ask_size (l : List UInt8) : (ask l).size = (qb l).size + 2 := by
  unfold ask
  simp only [ByteArray.size_append]
  show 1 + (qb l).size + 1 = _
  omega
theorem bt_app3 (a b : ByteArray) (j : Nat) : bt (a ++ b) j = if j < a.size then bt a j else bt b (j - a.size) := by
  unfold bt
  rw [ByteArray.data_append, Array.toList_append]
  have hz : a.data.toList.length = a.size := Array.length_toList
  simp only [List.getD_eq_getElem?_getD]
  split
  · rw [List.getElem?_append_left (by omega)]
  · rw [List.getElem?_append_right (by omega), hz]
theorem bt_ask0 (l : List UInt8) : bt (ask l) 0 = 97 := by
  unfold ask
  rw [bt_app3, if_pos (by simp only [ByteArray.size_append]; show 0 < 1 + _; omega), bt_app3, if_pos (by decide)]
  rfl
theorem bt_askq (l : List UInt8) (j : Nat) (h : j < (qb l).size) : bt (ask l) (1 + j) = bt (qb l) j := by
  unfold ask
  rw [bt_app3, if_pos (by simp only [ByteArray.size_append]; show 1 + j < 1 + _; omega), bt_app3, if_neg (by show ¬ 1 + j < 1; omega)]
  congr 1
  show 1 + j - 1 = j
  omega
theorem bt_askd (l : List UInt8) : bt (ask l) (1 + (qb l).size) = 46 := by
  unfold ask
  rw [bt_app3, if_neg (by simp only [ByteArray.size_append]; show ¬ 1 + (qb l).size < 1 + _; omega)]
  rw [show 1 + (qb l).size - (⟨#[97]⟩ ++ qb l : ByteArray).size = 0 by simp only [ByteArray.size_append]; show 1 + (qb l).size - (1 + _) = 0; omega]
  rfl
def askT (l : List UInt8) : List Tok := [⟨3, ⟨#[97]⟩, 0, 0, 1⟩, ⟨1, ⟨l.toArray⟩, 0, 1, 1 + (qb l).size⟩, ⟨4, ⟨#[46]⟩, 0, 1 + (qb l).size, 1 + (qb l).size + 1⟩, ⟨0, ⟨#[]⟩, 0, 1 + (qb l).size + 1, 1 + (qb l).size + 1⟩]
theorem one_eq (s : ByteArray) (k : Nat) (c : UInt8) (h : k < s.size) (hc : bt s k = c) : s.extract k (k + 1) = ⟨#[c]⟩ := by
  apply ByteArray.ext
  apply Array.toList_inj.1
  have h1 := drop_bt s k h
  rw [ByteArray.data_extract]
  simp only [Array.toList_extract, List.extract_eq_take_drop]
  rw [h1, hc, show k + 1 - k = 1 by omega]
  rfl
theorem ask_scan (l : List UInt8) (h : l.length ≤ 127) : scanT (ask l) = (askT l, none) := by
  have hz := ask_size l
  have hq := qb_size l
  have hle := qB_le l
  have hs : scanT (ask l) = scanS (ask l) 0 := if_pos (by omega)
  have b0 := bt_ask0 l
  have b1 : bt (ask l) 1 = 34 := by have := bt_askq l 0 (by omega); rw [Nat.add_zero] at this; rw [this, bt_qb]; rfl
  have bd := bt_askd l
  have g0 : gapS (ask l) 0 = 0 := gapS_no _ _ (by omega) (by rw [b0]; decide) (by rw [b0]; decide)
  have g1 : gapS (ask l) 1 = 1 := gapS_no _ _ (by omega) (by rw [b1]; decide) (by rw [b1]; decide)
  have g2 : gapS (ask l) (1 + (qb l).size) = 1 + (qb l).size := gapS_no _ _ (by omega) (by rw [bd]; decide) (by rw [bd]; decide)
  have g3 : gapS (ask l) (1 + (qb l).size + 1) = 1 + (qb l).size + 1 := gapS_end _ _ (by omega)
  have t0 : tokS (ask l) 0 = .ok ⟨3, ⟨#[97]⟩, 0, 0, 1⟩ := by
    have e : behW (ask l) 0 = 1 := (behW_go _ 0 (by omega) (by rw [b0]; decide)).trans (behW_no _ 1 (by omega) (by rw [b1]; decide))
    unfold tokS
    rw [b0, if_neg (by decide), if_neg (by rintro (c | ⟨c, _⟩) <;> exact absurd c (by decide)), if_pos (by decide), e, one_eq _ 0 97 (by omega) b0]
  have st : Stands (ask l) 2 (l.flatMap qB ++ [34]) := by
    refine ⟨by rw [List.length_append, List.length_singleton]; omega, fun j hj => ?_⟩
    have hj' : j < (l.flatMap qB).length + 1 := by rw [List.length_append, List.length_singleton] at hj; exact hj
    rw [show 2 + j = 1 + (1 + j) by omega, bt_askq l (1 + j) (by omega)]
    exact (qb_stands l).2 j hj
  have t1 : tokS (ask l) 1 = .ok ⟨1, ⟨l.toArray⟩, 0, 1, 1 + (qb l).size⟩ := by
    unfold tokS
    rw [b1, if_pos rfl, tx_q _ _ l [] 2 st, List.nil_append, if_neg (by omega)]
    show RR.ok _ = RR.ok _
    rw [hq, show 2 + (l.flatMap qB).length + 1 = 1 + ((l.flatMap qB).length + 2) by omega]
  have t2 : tokS (ask l) (1 + (qb l).size) = .ok ⟨4, ⟨#[46]⟩, 0, 1 + (qb l).size, 1 + (qb l).size + 1⟩ := by
    unfold tokS markS
    rw [bd, bt_out (ask l) (1 + (qb l).size + 1) (by omega), if_neg (by decide), if_neg (by rintro (c | ⟨c, _⟩) <;> exact absurd c (by decide)), if_neg (by decide), if_neg (by decide), if_pos (by decide), one_eq _ _ 46 (by omega) bd]
  have s3 : scanS (ask l) (1 + (qb l).size + 1) = ([tokE (ask l).size], none) := scan_fin (by rw [g3]; omega)
  have s2 := scan_go (s := ask l) (k := 1 + (qb l).size) (by rw [g2]; omega) (by rw [g2]; exact t2)
  have s1 := scan_go (s := ask l) (k := 1) (by rw [g1]; omega) (by rw [g1]; exact t1)
  have s0 := scan_go (s := ask l) (k := 0) (by rw [g0]; omega) (by rw [g0]; exact t0)
  simp only at s0 s1 s2
  rw [hs, s0, s1, s2, s3, hz]
  unfold askT tokE
  rw [show (qb l).size + 2 = 1 + (qb l).size + 1 by omega]
end Go.Proofs.YtbplmglddinkdaaDoor.L
