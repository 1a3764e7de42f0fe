import Derived.Test.YtlhlpamciafocaaGreatDoorMgAX
import Derived.Lib.ItoaMem
import Derived.Sort.Grow
namespace Go.Proofs.YtlhlpamciafocaaGreatDoor.L
open Go.RowKit Go.Shelf
set_option linter.unusedVariables false
set_option linter.unusedSimpArgs false
namespace Zq
theorem allD_snoc (l : List UInt8) (c : UInt8) : allD (l ++ [c]) = (allD l && digB (iv c)) := by
  unfold allD
  rw [List.all_append]
  simp
theorem valF_snoc (n : Nat) (l : List UInt8) (c : UInt8) : valF n (l ++ [c]) = valF n l * 10 + (c.toNat - 48) := by
  unfold valF
  rw [List.foldl_append]
  rfl
theorem valF_lt : ∀ (l : List UInt8) (n : Nat), allD l = true → valF n l < (n + 1) * 10 ^ l.length
  | [], n, _ => by simp [valF]
  | c :: r, n, h => by
    have h' : digB (iv c) = true ∧ allD r = true := by simpa [allD] using h
    have := valF_lt r (n * 10 + (c.toNat - 48)) h'.2
    have hd := (dig_nat c).1 h'.1
    show valF (n * 10 + (c.toNat - 48)) r < _
    rw [List.length_cons, Nat.pow_succ]
    refine Nat.lt_of_lt_of_le this ?_
    rw [show (n + 1) * (10 ^ r.length * 10) = (n * 10 + 10) * 10 ^ r.length by rw [Nat.mul_comm (10 ^ r.length) 10, ← Nat.mul_assoc]; congr 1; omega]
    exact Nat.mul_le_mul_right _ (by omega)
theorem lt18 {l : List UInt8} {n : Nat} (hd : ¬ 18 < l.length) (ha : allD l = true) (hn : n = valF 0 l) : n < 1000000000000000000 := by
  have := valF_lt l 0 ha
  rw [← hn] at this
  have h2 : 10 ^ l.length ≤ 10 ^ 18 := Nat.pow_le_pow_right (by decide) (by omega)
  omega
theorem dec_small {u : Nat} (h : u < 10) : Lib.decDigits u = [UInt8.ofNat (48 + u)] := by rw [Lib.decDigits, dif_pos h]
theorem dec_big {u : Nat} (h : ¬ u < 10) : Lib.decDigits u = Lib.decDigits (u / 10) ++ [UInt8.ofNat (48 + u % 10)] := by rw [Lib.decDigits, dif_neg h]
theorem valF_ge : ∀ (l : List UInt8) (n : Nat), n ≤ valF n l
  | [], n => Nat.le_refl _
  | c :: r, n => by
    have := valF_ge r (n * 10 + (c.toNat - 48))
    show n ≤ valF (n * 10 + (c.toNat - 48)) r
    omega
theorem byte_back {c : UInt8} (h : digB (iv c) = true) : UInt8.ofNat (48 + (c.toNat - 48)) = c := by
  have := (dig_nat c).1 h
  rw [show 48 + (c.toNat - 48) = c.toNat by omega]
  exact UInt8.ofNat_toNat
theorem dec_val : ∀ (n : Nat) (l : List UInt8), l.length = n → allD l = true → l ≠ [] → l.head? ≠ some 48 → Lib.decDigits (valF 0 l) = l := by
  intro n
  induction n with
  | zero => intro l h _ h2; exact absurd (List.eq_nil_of_length_eq_zero h) h2
  | succ n ih =>
    intro l hl ha hne hh
    obtain ⟨r, c, e⟩ : ∃ r c, l = r ++ [c] := ⟨l.dropLast, l.getLast hne, (List.dropLast_concat_getLast hne).symm⟩
    subst e
    rw [allD_snoc] at ha
    simp only [Bool.and_eq_true] at ha
    have hc := (dig_nat c).1 ha.2
    rw [valF_snoc]
    by_cases hr : r = []
    · subst hr
      have e0 : valF 0 ([] : List UInt8) = 0 := rfl
      rw [e0, Nat.zero_mul, Nat.zero_add, dec_small (by omega), byte_back ha.2]
      rfl
    · obtain ⟨x, r', er⟩ : ∃ x r', r = x :: r' := by cases r with | nil => exact absurd rfl hr | cons x r' => exact ⟨x, r', rfl⟩
      have hx : x ≠ 48 := by
        intro e
        apply hh
        rw [er, e]
        rfl
      have hax : digB (iv x) = true := by
        have := ha.1
        rw [er] at this
        simp [allD] at this
        exact this.1
      have hxn := (dig_nat x).1 hax
      have hx48 : x.toNat ≠ 48 := by
        intro e
        apply hx
        rw [← UInt8.ofNat_toNat (x := x), e]
        rfl
      have hpos : 1 ≤ valF 0 r := by
        rw [er]
        have := valF_ge r' (0 * 10 + (x.toNat - 48))
        show 1 ≤ valF (0 * 10 + (x.toNat - 48)) r'
        omega
      have hd : (valF 0 r * 10 + (c.toNat - 48)) / 10 = valF 0 r := by omega
      have hm : (valF 0 r * 10 + (c.toNat - 48)) % 10 = c.toNat - 48 := by omega
      rw [dec_big (by omega), hd, hm, byte_back ha.2, ih r (by simpa using hl) ha.1 hr (by rw [er] at hh ⊢; exact hh)]
theorem numS_itoa {t : ByteArray} {n : Int} (h : numS t = some n) : Lib.itoa n = t.data.toList ∧ -1000000000000000000 < n ∧ n < 1000000000000000000 := by
  unfold numS at h
  split at h
  · rename_i e
    split at h
    · cases h
    · rename_i c
      have := Option.some.inj h
      subst this
      unfold dgs at e
      rw [if_neg c] at e
      refine ⟨?_, by omega, by omega⟩
      rw [e]
      unfold Lib.itoa
      rw [if_neg (by omega)]
      exact dec_small (u := 0) (by omega)
  · rename_i e48
    split at h
    · cases h
    · rename_i hn
      have hn1 : ¬ 18 < (dgs t).length := fun e => hn (Or.inl e)
      have hn2 : (dgs t).head? ≠ some 48 := fun e => hn (Or.inr (Or.inl e))
      have hn3 : dgs t ≠ [] := fun e => hn (Or.inr (Or.inr (Or.inl e)))
      have hn4 : allD (dgs t) = true := by
        cases c : allD (dgs t)
        · exact absurd (Or.inr (Or.inr (Or.inr c))) hn
        · rfl
      have hv := dec_val _ (dgs t) rfl hn4 hn3 hn2
      have hlt := lt18 hn1 hn4 rfl
      have := Option.some.inj h
      subst this
      by_cases c : bt t 0 = 45
      · rw [if_pos c]
        have hz : 0 < t.size := bt_nz (by rw [c]; decide)
        have hdr := drop_bt t 0 hz
        rw [List.drop_zero, c] at hdr
        have hdg : dgs t = t.data.toList.drop 1 := by unfold dgs; rw [if_pos c]
        have hpos : 1 ≤ valF 0 (dgs t) := by
          apply Classical.byContradiction
          intro hp
          have h0 : valF 0 (dgs t) = 0 := by omega
          rw [h0, dec_small (by omega)] at hv
          apply hn2
          rw [← hv]
          rfl
        refine ⟨?_, by omega, by omega⟩
        unfold Lib.itoa
        rw [if_pos (by omega), show (-(valF 0 (dgs t) : Int)).natAbs = valF 0 (dgs t) by omega, hv, hdg]
        exact hdr.symm
      · rw [if_neg c]
        have hdg : dgs t = t.data.toList := by unfold dgs; rw [if_neg c]
        refine ⟨?_, by omega, by omega⟩
        unfold Lib.itoa
        rw [if_neg (by omega), show ((valF 0 (dgs t) : Nat) : Int).toNat = valF 0 (dgs t) by omega, hv, hdg]
end Zq
/-- How much a token weighs: no less than what Text writes for it, and the blanks round it. -/
def cw (t : Tok) : Nat := if t.kind = 1 then (quoteL t.text.data.toList).length else if t.kind = 2 then (Lib.itoa t.num).length else 3 * t.text.size
def Ws (T : List Tok) (i : Nat) : Nat := ((T.take i).map cw).sum
theorem txS_wid (s : ByteArray) (f : Nat) : ∀ (n k : Nat) (l : List UInt8), s.size - k = n → k ≤ s.size → ∀ l' e, txS s f k l = .ok l' e → l'.length + k + 1 ≤ l.length + e := by
  intro n
  induction n using Nat.strongRecOn with
  | ind n ih =>
    intro k l hn hk l' e h
    by_cases hlt : k < s.size
    · by_cases c : bt s k = 34
      · rw [txS_q s f k l hlt c] at h
        split at h
        · exact TR.noConfusion h
        · obtain ⟨rfl, rfl⟩ := TR.ok.inj h
          omega
      · by_cases d : bt s k = 92
        · by_cases e0 : (esc3 s k).2 = 0
          · rw [txS_e0 s f k l hlt d e0] at h
            exact TR.noConfusion h
          · rw [txS_e s f k l hlt d e0] at h
            obtain ⟨g1, g2⟩ := esc_in e0
            have := ih (s.size - (k + (esc3 s k).2)) (by omega) (k + (esc3 s k).2) _ rfl g1 l' e h
            simp only [List.length_append, List.length_singleton] at this
            omega
        · by_cases e0 : iv (bt s k) < 32
          · rw [txS_low s f k l hlt c d e0] at h
            exact TR.noConfusion h
          · rw [txS_go s f k l hlt c d e0] at h
            have := ih (s.size - (k + 1)) (by omega) (k + 1) _ rfl (by omega) l' e h
            simp only [List.length_append, List.length_singleton] at this
            omega
    · rw [txS_end s f k l hlt] at h
      exact TR.noConfusion h
theorem tok_cw {s : ByteArray} {k : Nat} {t : Tok} (hk : k < s.size) (h : tokS s k = .ok t) : cw t + 4 * k ≤ 4 * t.e := by
  have hin := tok_in hk h
  unfold tokS at h
  split at h
  · cases hx : txS s k (k + 1) [] with
    | bad c a => rw [hx] at h; exact RR.noConfusion h
    | ok l e =>
      rw [hx] at h
      have := RR.ok.inj h
      subst this
      have := txS_wid s k _ (k + 1) [] rfl (by omega) l e hx
      have hf := flat_len l
      show (if (1 : Nat) = 1 then (quoteL (l.toArray.toList)).length else _) + 4 * k ≤ 4 * e
      rw [if_pos rfl]
      unfold quoteL
      simp only [List.length_append, List.length_cons, List.length_nil] at this ⊢
      omega
  · split at h
    · unfold numTok at h
      obtain ⟨b1, b2⟩ := behW_in s _ (k + 1) rfl
      have b3 := b2 (by omega)
      split at h
      · exact RR.noConfusion h
      · rename_i n hn
        have := RR.ok.inj h
        subst this
        have hi := (Zq.numS_itoa hn).1
        have hsz : (s.extract k (behW s (k + 1))).size = behW s (k + 1) - k := by simp; omega
        show (Lib.itoa n).length + 4 * k ≤ 4 * behW s (k + 1)
        rw [hi]
        have : (s.extract k (behW s (k + 1))).data.toList.length = (s.extract k (behW s (k + 1))).size := Array.length_toList
        omega
    · split at h
      · have := RR.ok.inj h
        subst this
        have h3 : k < behW s k ∧ behW s k ≤ s.size := hin.2
        have hsz : (s.extract k (behW s k)).size = behW s k - k := by simp; omega
        show 3 * (s.extract k (behW s k)).size + 4 * k ≤ 4 * behW s k
        omega
      · unfold markS at h
        split at h
        · have := RR.ok.inj h
          subst this
          have hsz : (s.extract k (k + 2)).size ≤ 2 := by simp; omega
          show 3 * (s.extract k (k + 2)).size + 4 * k ≤ 4 * (k + 2)
          omega
        · split at h
          · have := RR.ok.inj h
            subst this
            have hsz : (s.extract k (k + 1)).size ≤ 1 := by simp; omega
            show 3 * (s.extract k (k + 1)).size + 4 * k ≤ 4 * (k + 1)
            omega
          · exact RR.noConfusion h
theorem ws_step (T : List Tok) (i : Nat) : Ws T (i + 1) = Ws T i + cw (tk T i) := by
  unfold Ws
  by_cases h : i < T.length
  · rw [List.take_add_one, List.getElem?_eq_getElem h]
    simp only [Option.toList, List.map_append, List.sum_append, List.map_cons, List.map_nil, List.sum_cons, List.sum_nil]
    have : tk T i = T[i] := by
      unfold tk
      rw [List.getD_eq_getElem?_getD, List.getElem?_eq_getElem h]
      rfl
    rw [this]
    omega
  · rw [List.take_of_length_le (by omega), List.take_of_length_le (by omega)]
    have : tk T i = tok0 := by
      unfold tk
      rw [List.getD_eq_getElem?_getD, List.getElem?_eq_none (by omega)]
      rfl
    rw [this]
    rfl
theorem ws_scan (s : ByteArray) : ∀ (n k : Nat), s.size - k = n → k ≤ s.size → (scanS s k).2 = none → ∀ i, Ws (scanS s k).1 i + 4 * k ≤ 4 * s.size := by
  intro n
  induction n using Nat.strongRecOn with
  | ind n ih =>
    intro k hn hk h i
    have hg := gapS_ge s k
    by_cases hlt : gapS s k < s.size
    · cases ht : tokS s (gapS s k) with
      | bad c a => rw [scan_bad hlt ht] at h; cases h
      | ok t =>
        rw [scan_go hlt ht] at h ⊢
        have hin := tok_in hlt ht
        have hc := tok_cw hlt ht
        have h1 := ih (s.size - t.e) (by omega) t.e rfl hin.2.2 h
        cases i with
        | zero => show 0 + 4 * k ≤ 4 * s.size; omega
        | succ i =>
          have := h1 i
          show ((cw t :: ((scanS s t.e).1.take i).map cw)).sum + 4 * k ≤ 4 * s.size
          rw [List.sum_cons]
          unfold Ws at this
          omega
    · rw [scan_fin hlt]
      cases i with
      | zero => show 0 + 4 * k ≤ 4 * s.size; omega
      | succ i =>
        show ((cw (tokE s.size) :: (([] : List Tok).take i).map cw)).sum + 4 * k ≤ 4 * s.size
        simp only [List.take_nil, List.map_nil, List.sum_cons, List.sum_nil]
        have : cw (tokE s.size) = 0 := rfl
        omega
end Go.Proofs.YtlhlpamciafocaaGreatDoor.L
namespace Go.Proofs.YtlhlpamciafocaaGreatDoor.L
open Go.RowKit Go.Shelf
set_option linter.unusedVariables false
set_option linter.unusedSimpArgs false
/-- How long a part's text is. -/
def tl (P : List Pt) (y : Nat) : Nat := (ptx P (txs P y) (pt P y)).length
/-- A kid's text, with its parentheses. -/
def klen (P : List Pt) (k x : Int) : Nat := tl P x.toNat + (if brB k (pt P x.toNat).kind then 2 else 0)
theorem kidL_len {P : List Pt} {y : Nat} {k x : Int} (h : x.toNat < y) : (kidL P (txs P y) k x).length = klen P k x := by
  unfold kidL klen tl
  rw [getD_txs P h]
  split
  · simp only [List.length_append, List.length_cons, List.length_nil]
    omega
  · omega
theorem txs_ext {A : List Pt} (h : Tb A) (B : List Pt) : ∀ y, y ≤ A.length → txs (A ++ B) y = txs A y
  | 0, _ => rfl
  | y + 1, hy => by
    have ih := txs_ext h B y (by omega)
    have hp : pt (A ++ B) y = pt A y := pt_in (by omega)
    have hk := (h y (by omega)).2.2.2.2
    show txs (A ++ B) y ++ [ptx (A ++ B) (txs (A ++ B) y) (pt (A ++ B) y)] = txs A y ++ [ptx A (txs A y) (pt A y)]
    rw [ih, hp]
    have : ksL (A ++ B) (txs A y) (pt A y) = ksL A (txs A y) (pt A y) := by
      unfold ksL
      refine List.map_congr_left fun x hx => ?_
      obtain ⟨q1, q2, _⟩ := hk x hx
      unfold kidL
      rw [pt_in (show x.toNat < A.length by omega)]
    unfold ptx
    rw [this]
theorem tl_ext {A : List Pt} (h : Tb A) (B : List Pt) {y : Nat} (hy : y < A.length) : tl (A ++ B) y = tl A y := by
  unfold tl
  rw [← getD_txs (A ++ B) (show y < y + 1 by omega), ← getD_txs A (show y < y + 1 by omega), txs_ext h B (y + 1) hy]
theorem klen_ext {A : List Pt} (h : Tb A) (B : List Pt) {k x : Int} (hx : x.toNat < A.length) : klen (A ++ B) k x = klen A k x := by
  unfold klen
  rw [tl_ext h B hx, pt_in hx]
/-- The kids' texts together. -/
def kls (P : List Pt) (k : Int) (ks : List Int) : Nat := (ks.map (klen P k)).sum
theorem kls_nil (P : List Pt) (k : Int) : kls P k [] = 0 := rfl
theorem kls_app (P : List Pt) (k : Int) (a b : List Int) : kls P k (a ++ b) = kls P k a + kls P k b := by
  unfold kls
  rw [List.map_append, List.sum_append]
theorem kls_one (P : List Pt) (k x : Int) : kls P k [x] = klen P k x := by
  unfold kls
  simp
theorem kls_ext {A : List Pt} (h : Tb A) (B : List Pt) {k : Int} : ∀ {ks : List Int}, (∀ x, x ∈ ks → x.toNat < A.length) → kls (A ++ B) k ks = kls A k ks
  | [], _ => rfl
  | x :: r, hx => by
    have h1 := kls_app (A ++ B) k [x] r
    have h2 := kls_app A k [x] r
    rw [kls_one] at h1 h2
    rw [show [x] ++ r = x :: r from rfl] at h1 h2
    rw [h1, h2, klen_ext h B (hx x (by simp)), kls_ext h B (fun z hz => hx z (by simp [hz]))]
/-- The text of a part that is put at the end. -/
theorem tl_put {A : List Pt} (h : Tb A) {p : Pt} (hp : ∀ x, x ∈ p.kids → 0 ≤ x ∧ x < (A.length : Int)) : tl (A ++ [p]) A.length = (txK p.kind (quoteL p.text.data.toList) p.num (ksL A (txs A A.length) p)).length ∧ (ksL A (txs A A.length) p).map List.length = p.kids.map (klen A p.kind) := by
  have e9 := pt_end A p []
  rw [List.append_nil] at e9
  constructor
  · unfold tl
    rw [e9, txs_ext h [p] _ (Nat.le_refl _)]
    unfold ptx
    have : ksL (A ++ [p]) (txs A A.length) p = ksL A (txs A A.length) p := by
      unfold ksL
      refine List.map_congr_left fun x hx => ?_
      obtain ⟨q1, q2⟩ := hp x hx
      unfold kidL
      rw [pt_in (show x.toNat < A.length by omega)]
    rw [this]
  · unfold ksL
    rw [List.map_map]
    refine List.map_congr_left fun x hx => ?_
    obtain ⟨q1, q2⟩ := hp x hx
    exact kidL_len (by omega)
theorem lens_map (l : List (List UInt8)) : Lib.lens l = (l.map List.length).sum := rfl
theorem join_len (l : List (List UInt8)) (sep : List UInt8) : (Lib.join l sep).length + sep.length ≤ Lib.lens l + sep.length * (l.length - 1) + sep.length := by
  cases l with
  | nil => simp [Lib.join_nil]
  | cons x r =>
    rw [Lib.join_length]
    simp
    omega
theorem one_of {l : List (List UInt8)} {a : Nat} (h : l.map List.length = [a]) : ∃ x, l = [x] ∧ x.length = a := by
  match l, h with
  | [x], h => exact ⟨x, rfl, by simpa using h⟩
theorem two_of {l : List (List UInt8)} {a b : Nat} (h : l.map List.length = [a, b]) : ∃ x y, l = [x, y] ∧ x.length = a ∧ y.length = b := by
  match l, h with
  | [x, y], h => exact ⟨x, y, rfl, by simpa using h⟩
end Go.Proofs.YtlhlpamciafocaaGreatDoor.L
