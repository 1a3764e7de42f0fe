import Derived.Test.YtbplmglddinkdaaDoorZA
import Derived.Test.YtbplmglddinkdaaDoorZE
import Derived.Test.YtbplmglddinkdaaDoorXV
import Derived.Test.YtbplmglddinkdaaDoorYU
import Derived.Lib.ItoaMem
import Derived.Sort.Grow
namespace Go.Proofs.YtbplmglddinkdaaDoor.L
open Go.RowKit Go.Shelf
set_option linter.unusedVariables false
theorem dec_small {u : Nat} (h : u < 10) : Lib.decDigits u = [UInt8.ofNat (48 + u)] := by rw [Lib.decDigits, dif_pos h]
theorem dec_big {u : Nat} (h : ¬ u < 10) : Lib.decDigits u = Lib.decDigits (u / 10) ++ [UInt8.ofNat (48 + u % 10)] := by rw [Lib.decDigits, dif_neg h]
theorem valF_ge : ∀ (l : List UInt8) (n : Nat), n ≤ valF n l
  | [], n => Nat.le_refl _
  | c :: r, n => by
    have := valF_ge r (n * 10 + (c.toNat - 48))
    show n ≤ valF (n * 10 + (c.toNat - 48)) r
    omega
theorem byte_back {c : UInt8} (h : digB (iv c) = true) : UInt8.ofNat (48 + (c.toNat - 48)) = c := by
  have := (dig_nat c).1 h
  rw [show 48 + (c.toNat - 48) = c.toNat by omega]
  exact UInt8.ofNat_toNat
theorem dec_val : ∀ (n : Nat) (l : List UInt8), l.length = n → allD l = true → l ≠ [] → l.head? ≠ some 48 → Lib.decDigits (valF 0 l) = l := by
  intro n
  induction n with
  | zero => intro l h _ h2; exact absurd (List.eq_nil_of_length_eq_zero h) h2
  | succ n ih =>
    intro l hl ha hne hh
    obtain ⟨r, c, e⟩ : ∃ r c, l = r ++ [c] := ⟨l.dropLast, l.getLast hne, (List.dropLast_concat_getLast hne).symm⟩
    subst e
    rw [allD_snoc] at ha
    simp only [Bool.and_eq_true] at ha
    have hc := (dig_nat c).1 ha.2
    rw [valF_snoc]
    by_cases hr : r = []
    · subst hr
      have e0 : valF 0 ([] : List UInt8) = 0 := rfl
      rw [e0, Nat.zero_mul, Nat.zero_add, dec_small (by omega), byte_back ha.2]
      rfl
    · obtain ⟨x, r', er⟩ : ∃ x r', r = x :: r' := by cases r with | nil => exact absurd rfl hr | cons x r' => exact ⟨x, r', rfl⟩
      have hx : x ≠ 48 := by
        intro e
        apply hh
        rw [er, e]
        rfl
      have hax : digB (iv x) = true := by
        have := ha.1
        rw [er] at this
        simp [allD] at this
        exact this.1
      have hxn := (dig_nat x).1 hax
      have hx48 : x.toNat ≠ 48 := by
        intro e
        apply hx
        rw [← UInt8.ofNat_toNat (x := x), e]
        rfl
      have hpos : 1 ≤ valF 0 r := by
        rw [er]
        have := valF_ge r' (0 * 10 + (x.toNat - 48))
        show 1 ≤ valF (0 * 10 + (x.toNat - 48)) r'
        omega
      have hd : (valF 0 r * 10 + (c.toNat - 48)) / 10 = valF 0 r := by omega
      have hm : (valF 0 r * 10 + (c.toNat - 48)) % 10 = c.toNat - 48 := by omega
      rw [dec_big (by omega), hd, hm, byte_back ha.2, ih r (by simpa using hl) ha.1 hr (by rw [er] at hh ⊢; exact hh)]
theorem numS_itoa {t : ByteArray} {n : Int} (h : numS t = some n) : Lib.itoa n = t.data.toList ∧ -1000000000000000000 < n ∧ n < 1000000000000000000 := by
  unfold numS at h
  split at h
  · rename_i e
    split at h
    · cases h
    · rename_i c
      have := Option.some.inj h
      subst this
      unfold dgs at e
      rw [if_neg c] at e
      refine ⟨?_, by omega, by omega⟩
      rw [e]
      unfold Lib.itoa
      rw [if_neg (by omega)]
      exact dec_small (u := 0) (by omega)
  · rename_i e48
    split at h
    · cases h
    · rename_i hn
      have hn1 : ¬ 18 < (dgs t).length := fun e => hn (Or.inl e)
      have hn2 : (dgs t).head? ≠ some 48 := fun e => hn (Or.inr (Or.inl e))
      have hn3 : dgs t ≠ [] := fun e => hn (Or.inr (Or.inr (Or.inl e)))
      have hn4 : allD (dgs t) = true := by
        cases c : allD (dgs t)
        · exact absurd (Or.inr (Or.inr (Or.inr c))) hn
        · rfl
      have hv := dec_val _ (dgs t) rfl hn4 hn3 hn2
      have hlt := lt18 hn1 hn4 rfl
      have := Option.some.inj h
      subst this
      by_cases c : bt t 0 = 45
      · rw [if_pos c]
        have hz : 0 < t.size := bt_nz (by rw [c]; decide)
        have hdr := drop_bt t 0 hz
        rw [List.drop_zero, c] at hdr
        have hdg : dgs t = t.data.toList.drop 1 := by unfold dgs; rw [if_pos c]
        have hpos : 1 ≤ valF 0 (dgs t) := by
          apply Classical.byContradiction
          intro hp
          have h0 : valF 0 (dgs t) = 0 := by omega
          rw [h0, dec_small (by omega)] at hv
          apply hn2
          rw [← hv]
          rfl
        refine ⟨?_, by omega, by omega⟩
        unfold Lib.itoa
        rw [if_pos (by omega), show (-(valF 0 (dgs t) : Int)).natAbs = valF 0 (dgs t) by omega, hv, hdg]
        exact hdr.symm
      · rw [if_neg c]
        have hdg : dgs t = t.data.toList := by unfold dgs; rw [if_neg c]
        refine ⟨?_, by omega, by omega⟩
        unfold Lib.itoa
        rw [if_neg (by omega), show ((valF 0 (dgs t) : Nat) : Int).toNat = valF 0 (dgs t) by omega, hv, hdg]
theorem nlAt_is (s : ByteArray) : ∀ (n k : Nat), s.size - k = n → nlAt s k < s.size → bt s (nlAt s k) = 10 := by
  intro n
  induction n using Nat.strongRecOn with
  | ind n ih =>
    intro k hn h
    by_cases hl : k < s.size
    · by_cases c : bt s k = 10
      · rw [nlAt_yes s k hl c]; exact c
      · rw [nlAt_go s k hl c] at h ⊢
        exact ih (s.size - (k + 1)) (by omega) (k + 1) rfl h
    · rw [nlAt_end s k hl] at h
      exact absurd h hl
/-- Going over a gap: whether a remark is on at its end; none where something else stands. -/
def gapR (s : ByteArray) (i e : Nat) (r : Bool) : Option Bool :=
  if h : i < e then
    if r then gapR s (i + 1) e (bt s i != 10)
    else if bt s i = 35 then gapR s (i + 1) e true
    else if blkB (iv (bt s i)) = true then gapR s (i + 1) e false else none
  else some r
termination_by e - i
theorem gapR_end {s : ByteArray} {i e : Nat} (r : Bool) (h : ¬ i < e) : gapR s i e r = some r := by rw [gapR, dif_neg h]
theorem gapR_t {s : ByteArray} {i e : Nat} (h : i < e) : gapR s i e true = gapR s (i + 1) e (bt s i != 10) := by rw [gapR, dif_pos h]; simp
theorem gapR_f {s : ByteArray} {i e : Nat} (h : i < e) : gapR s i e false = if bt s i = 35 then gapR s (i + 1) e true else if blkB (iv (bt s i)) = true then gapR s (i + 1) e false else none := by rw [gapR, dif_pos h]; simp
theorem gapR_nl (s : ByteArray) (e : Nat) : ∀ (n j : Nat), s.size - j = n → nlAt s j ≤ e → gapR s j e true = gapR s (nlAt s j) e true := by
  intro n
  induction n using Nat.strongRecOn with
  | ind n ih =>
    intro j hn he
    by_cases hl : j < s.size
    · by_cases c : bt s j = 10
      · rw [nlAt_yes s j hl c]
      · have hin := nlAt_in s (j + 1) (by omega)
        rw [nlAt_go s j hl c] at he ⊢
        rw [gapR_t (by omega), show (bt s j != 10) = true by simpa using c]
        exact ih (s.size - (j + 1)) (by omega) (j + 1) rfl he
    · rw [nlAt_end s j hl]
theorem gapR_gap (s : ByteArray) : ∀ (n i : Nat), s.size - i = n → i ≤ s.size → ∃ r, gapR s i (gapS s i) false = some r ∧ (gapS s i < s.size → r = false) := by
  intro n
  induction n using Nat.strongRecOn with
  | ind n ih =>
    intro i hn hi
    by_cases hl : i < s.size
    · by_cases c : bt s i = 35
      · have hgt := nlAt_gt s i hl (by rw [c]; decide)
        have hge := gapS_ge s (nlAt s i)
        have hin := nlAt_in s i hi
        rw [gapS_rem s i hl c]
        rw [gapR_f (by omega), if_pos c]
        have hnl : nlAt s (i + 1) = nlAt s i := (nlAt_go s i hl (by rw [c]; decide)).symm
        rw [gapR_nl s _ _ (i + 1) rfl (by rw [hnl]; exact hge), hnl]
        by_cases hm : nlAt s i < s.size
        · have h10 : bt s (nlAt s i) = 10 := nlAt_is s _ i rfl hm
          have hb : gapS s (nlAt s i) = gapS s (nlAt s i + 1) := gapS_blk s _ hm (by rw [h10]; decide)
          rw [hb]
          have hge2 := gapS_ge s (nlAt s i + 1)
          rw [gapR_t (by omega), h10, show ((10 : UInt8) != 10) = false by decide]
          exact ih (s.size - (nlAt s i + 1)) (by omega) _ rfl (by omega)
        · have e : nlAt s i = s.size := by omega
          rw [e, gapS_end s s.size (by omega)]
          exact ⟨true, gapR_end true (by omega), fun h => by omega⟩
      · cases b : blkB (iv (bt s i))
        · rw [gapS_no s i hl c b]
          exact ⟨false, gapR_end false (by omega), fun _ => rfl⟩
        · have hb := gapS_blk s i hl b
          have hge := gapS_ge s (i + 1)
          rw [hb, gapR_f (by omega), if_neg c, if_pos b]
          exact ih (s.size - (i + 1)) (by omega) _ rfl (by omega)
    · rw [gapS_end s i hl]
      exact ⟨false, gapR_end false (by omega), fun _ => rfl⟩
theorem gapR_cut (s : ByteArray) (i e : Nat) (he : e ≤ s.size) : ∀ (n j : Nat) (r : Bool), e - i - j = n → gapR (s.extract i e) j (e - i) r = gapR s (i + j) e r := by
  intro n
  induction n using Nat.strongRecOn with
  | ind n ih =>
    intro j r hn
    by_cases hl : j < e - i
    · have hb := ext_bt s i e j hl he
      cases r
      · rw [gapR_f (s := s.extract i e) hl, gapR_f (s := s) (i := i + j) (by omega), hb, ih (e - i - (j + 1)) (by omega) (j + 1) true rfl, ih (e - i - (j + 1)) (by omega) (j + 1) false rfl]
        rfl
      · rw [gapR_t (s := s.extract i e) hl, gapR_t (s := s) (i := i + j) (by omega), hb, ih (e - i - (j + 1)) (by omega) (j + 1) _ rfl]
        rfl
    · rw [gapR_end r hl, gapR_end r (by omega)]
end Go.Proofs.YtbplmglddinkdaaDoor.L
