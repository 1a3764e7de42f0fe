import Derived.Test.YtnldagpbmphdhaaGreatDoorNums
namespace Go.Proofs.YtnldagpbmphdhaaGreatDoor.L
open Go.RowKit Lib
set_option linter.unusedVariables false
theorem snoc_ind {P : List UInt8 → Prop} (h0 : P []) (hs : ∀ l c, P l → P (l ++ [c])) : ∀ l, P l := by
  intro l
  rw [← List.reverse_reverse l]
  induction l.reverse with
  | nil => exact h0
  | cons c r ih =>
    rw [List.reverse_cons]
    exact hs _ _ ih
/-- What digits are worth. -/
def val (l : List UInt8) : Nat := l.foldl (fun a c => 10 * a + (c.toNat - 48)) 0
theorem val_snoc (l : List UInt8) (c : UInt8) : val (l ++ [c]) = 10 * val l + (c.toNat - 48) := by
  simp [val, List.foldl_append]
theorem val_lt (l : List UInt8) : (∀ c ∈ l, 48 ≤ c.toNat ∧ c.toNat ≤ 57) → val l < 10 ^ l.length := by
  induction l using snoc_ind with
  | h0 => intro _; decide
  | hs l c ih =>
    intro h
    have a := ih (fun x hx => h x (by simp [hx]))
    have b := h c (by simp)
    rw [val_snoc, List.length_append, List.length_singleton, Nat.pow_succ]
    omega
theorem byte_of (c : UInt8) (h : 48 ≤ c.toNat ∧ c.toNat ≤ 57) : UInt8.ofNat (48 + (c.toNat - 48)) = c := by
  apply UInt8.toNat_inj.1
  rw [digit_nat (by omega)]
  omega
theorem val_dec (l : List UInt8) : (∀ c ∈ l, 48 ≤ c.toNat ∧ c.toNat ≤ 57) → l ≠ [] → (l.head? ≠ some 48 → 1 ≤ val l) ∧ ((l.head? ≠ some 48 ∨ l.length = 1) → decDigits (val l) = l) := by
  induction l using snoc_ind with
  | h0 => intro _ h; exact absurd rfl h
  | hs l c ih =>
    intro h _
    have b := h c (by simp)
    rw [val_snoc]
    by_cases hl : l = []
    · subst hl
      show ((some c ≠ some 48 → 1 ≤ 10 * 0 + (c.toNat - 48)) ∧ _)
      refine ⟨fun hc => ?_, fun _ => ?_⟩
      · have : c.toNat ≠ 48 := fun e => hc (by rw [show c = 48 from UInt8.toNat_inj.1 e])
        omega
      · show decDigits (10 * 0 + (c.toNat - 48)) = [c]
        rw [dec_small (by omega)]
        rw [show 10 * 0 + (c.toNat - 48) = c.toNat - 48 by omega, byte_of c b]
    · obtain ⟨i1, i2⟩ := ih (fun x hx => h x (by simp [hx])) hl
      have hh : (l ++ [c]).head? = l.head? := by
        cases l with
        | nil => exact absurd rfl hl
        | cons x l => rfl
      rw [hh]
      refine ⟨fun g => by have := i1 g; omega, fun g => ?_⟩
      have g' : l.head? ≠ some 48 := by
        rcases g with g | g
        · exact g
        · have : 0 < l.length := List.length_pos_iff.2 hl
          rw [List.length_append, List.length_singleton] at g
          omega
      have h1 := i1 g'
      rw [dec_big (by omega), show (10 * val l + (c.toNat - 48)) / 10 = val l by omega, show (10 * val l + (c.toNat - 48)) % 10 = c.toNat - 48 by omega, i2 (Or.inl g'), byte_of c b]
theorem dec_head (u : Nat) (h : u ≠ 0) : (decDigits u).head? ≠ some 48 := by
  induction u using Nat.strongRecOn with
  | _ u ih =>
    by_cases h' : u < 10
    · rw [dec_small h']
      intro e
      have e' : UInt8.ofNat (48 + u) = 48 := by simpa using e
      have := congrArg UInt8.toNat e'
      rw [digit_nat h'] at this
      have c48 : (48 : UInt8).toNat = 48 := by decide
      omega
    · rw [dec_big h']
      have := ih (u / 10) (by omega) (by omega)
      cases e : decDigits (u / 10) with
      | nil => exact absurd e (dec_ne _)
      | cons x r =>
        rw [e] at this
        exact this
/-- A text, its sign taken off. -/
def Sgn (s : ByteArray) (mi : Bool) (T : List UInt8) : Prop := (mi = true ∧ s.data.toList = 45 :: T ∧ T ≠ []) ∨ (mi = false ∧ T = s.data.toList ∧ ∀ r, r ≠ [] → s.data.toList ≠ 45 :: r)
def goodT (T : List UInt8) (mi : Bool) : Prop := T ≠ [] ∧ T.length ≤ 15 ∧ (∀ c ∈ T, 48 ≤ c.toNat ∧ c.toNat ≤ 57) ∧ ¬ (T.head? = some 48 ∧ (1 < T.length ∨ mi = true))
theorem tx_list (n : Int) : (tx n).data.toList = itoa n := by
  unfold tx
  simp
theorem int_good {s : ByteArray} {mi : Bool} {T : List UInt8} (h : Sgn s mi T) (g : goodT T mi) : intOk s (if mi then -(val T : Int) else (val T : Int)) := by
  obtain ⟨g1, g2, g3, g4⟩ := g
  have hv : val T < 10 ^ 15 := Nat.lt_of_lt_of_le (val_lt T g3) (Nat.pow_le_pow_right (by decide) g2)
  have hv' : val T < 1000000000000000 := hv
  obtain ⟨v1, v2⟩ := val_dec T g3 g1
  have hp : 0 < T.length := List.length_pos_iff.2 g1
  have hd : decDigits (val T) = T := by
    apply v2
    by_cases e : T.head? = some 48
    · right
      have : ¬ (1 < T.length) := fun x => g4 ⟨e, Or.inl x⟩
      omega
    · exact Or.inl e
  have done : ∀ n : Int, -999999999999999 ≤ n → n ≤ 999999999999999 → itoa n = s.data.toList → intOk s n := by
    intro n h0 h1 hi
    refine ⟨?_, h0, h1, ?_⟩
    · rw [← hi]
      exact atoi_itoa n (by omega) (by omega)
    · unfold tx
      rw [hi]
  rcases h with ⟨rfl, hs, _⟩ | ⟨rfl, hs, _⟩
  · simp only [if_true]
    have h1 : 1 ≤ val T := v1 (fun e => g4 ⟨e, Or.inr rfl⟩)
    exact done _ (by omega) (by omega) (by rw [itoa_neg _ h1, hd, hs])
  · simp only [Bool.false_eq_true, if_false]
    exact done _ (by omega) (by omega) (by rw [itoa_nonneg, hd, hs])
theorem int_bad {s : ByteArray} {mi : Bool} {T : List UInt8} (h : Sgn s mi T) {n : Int} (k : intOk s n) : goodT T mi := by
  obtain ⟨_, h0, h1, e⟩ := k
  have es : s.data.toList = itoa n := by rw [← e, tx_list]
  have shape : ∃ u, T = decDigits u ∧ u < 1000000000000000 ∧ (mi = true → u ≠ 0) := by
    by_cases hneg : n < 0
    · obtain ⟨u, rfl⟩ : ∃ u : Nat, n = -(u : Int) := ⟨n.natAbs, by omega⟩
      rw [itoa_neg u (by omega)] at es
      rcases h with ⟨rfl, hs, _⟩ | ⟨rfl, hs, hn⟩
      · rw [es] at hs
        exact ⟨u, (List.cons.inj hs).2.symm, by omega, fun _ => by omega⟩
      · exact absurd es (hn _ (dec_ne u))
    · obtain ⟨u, rfl⟩ : ∃ u : Nat, n = u := ⟨n.toNat, by omega⟩
      rw [itoa_nonneg] at es
      rcases h with ⟨rfl, hs, _⟩ | ⟨rfl, hs, hn⟩
      · exfalso
        have := dec_digits u 45 (by rw [← es, hs]; simp)
        have c45 : (45 : UInt8).toNat = 45 := by decide
        omega
      · exact ⟨u, by rw [hs, es], by omega, fun h => by cases h⟩
  obtain ⟨u, rfl, hu, hm⟩ := shape
  refine ⟨dec_ne u, dec_len 14 u hu, dec_digits u, ?_⟩
  rintro ⟨hh, hx⟩
  have hz : u = 0 := Classical.byContradiction fun hz => dec_head u hz hh
  rcases hx with hx | hx
  · rw [hz, dec_small (by decide)] at hx
    simp at hx
  · exact hm hx hz
end Go.Proofs.YtnldagpbmphdhaaGreatDoor.L
