import Derived.Test.YtnclpdgbjefpmaaE5
namespace Go.Proofs.Ytnclpdgbjefpmaa.L
set_option linter.unusedVariables false
set_option linter.unusedSimpArgs false
theorem natC_D (lo hi : Nat) (h : hi < 128 ^ 9) (z : Int) : (natC lo hi h).D z ↔ 0 ≤ z ∧ lo ≤ z ∧ z ≤ hi := by
  show ((lo ≤ z.toNat ∧ z.toNat ≤ hi) ∧ ((z.toNat : Int) = z)) ↔ _
  omega
theorem sgnC_D (z : Int) : sgnC.D z ↔ shI z = true := by
  show ((0 ≤ zz z ∧ zz z ≤ 2000000000000000000) ∧ unz (zz z) = z) ↔ _
  unfold shI inR
  rw [decide_eq_true_eq]
  constructor
  · rintro ⟨⟨_, h⟩, _⟩
    unfold zz at h
    split at h <;> omega
  · intro h
    refine ⟨⟨Nat.zero_le _, ?_⟩, unz_zz z⟩
    unfold zz
    split <;> omega
theorem textC_D (s : ByteArray) : textC.D s ↔ shS s = true := by
  unfold shS
  rw [decide_eq_true_eq]
  constructor
  · rintro ⟨⟨⟨_, h⟩, _⟩, _⟩
    have h : s.size ≤ 127 := h
    omega
  · intro h
    exact ⟨⟨⟨Nat.zero_le _, (show s.size ≤ 127 by omega)⟩, (show s.data.toList.length = s.size from Array.length_toList)⟩, by simp⟩
theorem setC_D (l : List ByteArray) : setC.D l ↔ setB shS ltS l = true := by
  rw [show setC.D l ↔ _ from lst_D textC ltS 1 1000 (by decide) l]
  unfold setB inR
  simp only [Bool.and_eq_true, decide_eq_true_eq, List.all_eq_true, textC_D]
  constructor
  · rintro ⟨a, b, c, d⟩
    exact ⟨by omega, c, d⟩
  · rintro ⟨a, c, d⟩
    exact ⟨by omega, by omega, c, d⟩
theorem nsetC_D (l : List Int) : nsetC.D l ↔ setB shI ltI l = true := by
  rw [show nsetC.D l ↔ _ from lst_D sgnC ltI 1 1000 (by decide) l]
  unfold setB inR
  simp only [Bool.and_eq_true, decide_eq_true_eq, List.all_eq_true, sgnC_D]
  constructor
  · rintro ⟨a, b, c, d⟩
    exact ⟨by omega, c, d⟩
  · rintro ⟨a, c, d⟩
    exact ⟨by omega, by omega, c, d⟩
theorem optC_D (u : Bool) (x : Int) : (optC u).D x ↔ fitB u x = true := by
  unfold optC fitB inR
  cases u with
  | true =>
    rw [if_pos rfl, if_pos rfl, natC_D, decide_eq_true_eq]
    omega
  | false =>
    rw [if_neg (by decide), if_neg (by decide), decide_eq_true_eq]
    exact Iff.rfl
theorem insC_D (i : Ins) : insC.D i ↔ insB i = true := by
  obtain ⟨o, x, y, z⟩ := i
  unfold insB opsB inR
  simp only [Bool.and_eq_true, decide_eq_true_eq, ← optC_D]
  constructor
  · rintro ⟨⟨⟨h1, h2⟩, h3, h4, h5⟩, he⟩
    have he : (⟨((UInt8.ofNat o.toNat).toNat : Int), x, y, z⟩ : Ins) = ⟨o, x, y, z⟩ := he
    injection he with he
    have h1 : 1 ≤ (UInt8.ofNat o.toNat).toNat := h1
    have h2 : (UInt8.ofNat o.toNat).toNat ≤ 36 := h2
    have h3 : (optC (us ((UInt8.ofNat o.toNat).toNat : Int)).1).D x := h3
    have h4 : (optC (us ((UInt8.ofNat o.toNat).toNat : Int)).2.1).D y := h4
    have h5 : (optC (us ((UInt8.ofNat o.toNat).toNat : Int)).2.2).D z := h5
    rw [he] at h3 h4 h5
    exact ⟨by omega, h3, h4, h5⟩
  · rintro ⟨h0, h3, h4, h5⟩
    have e : ((UInt8.ofNat o.toNat).toNat : Int) = o := by rw [u8_nat (by omega)]; omega
    refine ⟨⟨⟨?_, ?_⟩, ?_, ?_, ?_⟩, ?_⟩
    · show 1 ≤ (UInt8.ofNat o.toNat).toNat
      omega
    · show (UInt8.ofNat o.toNat).toNat ≤ 36
      omega
    · show (optC (us ((UInt8.ofNat o.toNat).toNat : Int)).1).D x
      rw [e]; exact h3
    · show (optC (us ((UInt8.ofNat o.toNat).toNat : Int)).2.1).D y
      rw [e]; exact h4
    · show (optC (us ((UInt8.ofNat o.toNat).toNat : Int)).2.2).D z
      rw [e]; exact h5
    · show (⟨((UInt8.ofNat o.toNat).toNat : Int), x, y, z⟩ : Ins) = ⟨o, x, y, z⟩
      rw [e]
theorem risB_true {α : Type} (p : Option α) (l : List α) : risB (fun _ _ => true) p l = true := by
  induction l generalizing p with
  | nil => rfl
  | cons x r ih =>
    unfold risB
    rw [ih, Bool.and_true]
    cases p <;> rfl
theorem form_iff (p : Pg) : formP p ↔ formB p = true := by
  rw [formB_iff]
  constructor
  · rintro ⟨⟨_, h1, h2, h3, h4, h5, h6, h7⟩, _⟩
    rw [show (natC 0 128 _).D _ ↔ _ from natC_D _ _ _ _] at h1
    rw [show (natC 0 1024 _).D _ ↔ _ from natC_D _ _ _ _] at h2
    have h3 := (lst_D textC ltS 0 4096 (by decide) p.tx).1 h3
    have h4 := (lst_D sgnC ltI 0 (4096 - p.tx.length) (pool_lt _) p.nu).1 h4
    have h5 := (lst_D setC (ltL ltS) 0 (4096 - (p.tx.length + p.nu.length)) (pool_lt _) p.st).1 h5
    have h6 := (lst_D nsetC (ltL ltI) 0 (4096 - (p.tx.length + p.nu.length + p.st.length)) (pool_lt _) p.ns).1 h6
    have h7 := (lst_D insC (fun _ _ => true) 0 32768 (by decide) p.cd).1 h7
    have h1 : 0 ≤ p.dep ∧ ((0 : Nat) : Int) ≤ p.dep ∧ p.dep ≤ ((128 : Nat) : Int) := h1
    have h2 : 0 ≤ p.loc ∧ ((0 : Nat) : Int) ≤ p.loc ∧ p.loc ≤ ((1024 : Nat) : Int) := h2
    exact ⟨⟨h1.1, h1.2.2⟩, ⟨h2.1, h2.2.2⟩, by omega, h7.2.1, fun x hx => (textC_D x).1 (h3.2.2.1 x hx), h3.2.2.2, fun x hx => (sgnC_D x).1 (h4.2.2.1 x hx), h4.2.2.2, fun x hx => (setC_D x).1 (h5.2.2.1 x hx), h5.2.2.2, fun x hx => (nsetC_D x).1 (h6.2.2.1 x hx), h6.2.2.2, fun x hx => (insC_D x).1 (h7.2.2.1 x hx)⟩
  · intro h
    have hp := h.pool
    refine ⟨⟨?_, (natC_D _ _ _ _).2 ⟨h.dep.1, h.dep.1, h.dep.2⟩, (natC_D _ _ _ _).2 ⟨h.loc.1, h.loc.1, h.loc.2⟩, (lst_D textC ltS 0 4096 (by decide) p.tx).2 ⟨by omega, by omega, fun x hx => (textC_D x).2 (h.tx x hx), h.txr⟩, (lst_D sgnC ltI 0 (4096 - p.tx.length) (pool_lt _) p.nu).2 ⟨by omega, by omega, fun x hx => (sgnC_D x).2 (h.nu x hx), h.nur⟩, (lst_D setC (ltL ltS) 0 (4096 - (p.tx.length + p.nu.length)) (pool_lt _) p.st).2 ⟨by omega, by omega, fun x hx => (setC_D x).2 (h.st x hx), h.str⟩, (lst_D nsetC (ltL ltI) 0 (4096 - (p.tx.length + p.nu.length + p.st.length)) (pool_lt _) p.ns).2 ⟨by omega, by omega, fun x hx => (nsetC_D x).2 (h.ns x hx), h.nsr⟩, (lst_D insC (fun _ _ => true) 0 32768 (by decide) p.cd).2 ⟨by omega, h.code, fun x hx => (insC_D x).2 (h.cd x hx), risB_true _ _⟩⟩, rfl⟩
    exact ⟨⟨⟨Nat.le_refl _, Nat.le_refl _⟩, ⟨Nat.le_refl _, Nat.le_refl _⟩, ⟨Nat.le_refl _, Nat.le_refl _⟩, Nat.le_refl _, Nat.le_refl _⟩, rfl⟩
end Go.Proofs.Ytnclpdgbjefpmaa.L
namespace Go.Proofs.Ytnclpdgbjefpmaa.L
open Go.RowKit
set_option linter.unusedVariables false
set_option linter.unusedSimpArgs false
/-- Rows of one's own, each in a block of its own. -/
structure Rws {α : Type} (W : World) (base : Nat) (e : TypeId) (inj : α → Value) (l : List (List α)) (vs : List Value) : Prop where
  len : vs.length = l.length
  row : ∀ j, j < l.length → W.ownsRow base e 1 (vs.getD j undef) (l.getD j []).length ((l.getD j []).map inj)
  few : ∀ j, j < l.length → (l.getD j []).length ≤ 1000
  sep : ∀ i j, i < j → j < l.length → ∀ k, (vs.getD i undef).ownBlock = some k → (vs.getD j undef).ownBlock ≠ some k
theorem Rws.nil {α : Type} (W : World) (base : Nat) (e : TypeId) (inj : α → Value) : Rws W base e inj [] [] :=
  ⟨rfl, fun j h => absurd h (Nat.not_lt_zero j), fun j h => absurd h (Nat.not_lt_zero j), fun i j _ h => absurd h (Nat.not_lt_zero j)⟩
theorem Rws.gb {α : Type} {W W' : World} {base g : Nat} {e : TypeId} {inj : α → Value} {l : List (List α)} {vs : List Value} (h : Rws W base e inj l vs) (k : Gb g W W') (hb : g < base) : Rws W' base e inj l vs :=
  ⟨h.len, fun j hj => row_gb (h.row j hj) k hb, h.few, h.sep⟩
theorem Rws.low {α : Type} {W W' : World} {base : Nat} {e : TypeId} {inj : α → Value} {l : List (List α)} {vs : List Value} (h : Rws W base e inj l vs) (k : Below W.heap.size W W') : Rws W' base e inj l vs :=
  ⟨h.len, fun j hj => (h.row j hj).kept (row := none) ⟨k.os, k.tape, k.output, k.size, fun b hb _ => k.block b hb⟩ (by cases hv : (vs.getD j undef).ownBlock <;> simp), h.few, h.sep⟩
theorem row_blk {W : World} {base n size : Nat} {e : TypeId} {v : Value} {xs : List Value} (h : W.ownsRow base e size v n xs) {k : Nat} (hk : v.ownBlock = some k) : ∃ cur, W.heap[k]? = some (.cells cur e (0, 0)) := by
  rcases h.2 with ⟨rfl, _⟩ | ⟨g, cap, cur, rfl, _, hg, _⟩
  · simp [Value.ownBlock] at hk
  · simp [Value.ownBlock] at hk
    subst hk
    exact ⟨cur, hg⟩
theorem row_ne {W : World} {b1 b2 n1 n2 s1 s2 : Nat} {e1 e2 : TypeId} {v1 v2 : Value} {x1 x2 : List Value} (h1 : W.ownsRow b1 e1 s1 v1 n1 x1) (h2 : W.ownsRow b2 e2 s2 v2 n2 x2) (hne : e1 ≠ e2) : v1.ownBlock = none ∨ v1.ownBlock ≠ v2.ownBlock := by
  cases hv : v1.ownBlock with
  | none => exact Or.inl rfl
  | some k =>
    refine Or.inr (fun he => ?_)
    obtain ⟨c1, g1⟩ := row_blk h1 hv
    obtain ⟨c2, g2⟩ := row_blk h2 he.symm
    rw [g1] at g2
    injection g2 with g2
    injection g2 with _ g2
    exact hne g2
theorem Rws.grow {α : Type} {W W' : World} {base b2 n2 s2 : Nat} {e e2 : TypeId} {inj : α → Value} {l : List (List α)} {vs : List Value} {v : Value} {xs : List Value} (h : Rws W base e inj l vs) (hv : W.ownsRow b2 e2 s2 v n2 xs) (hne : e ≠ e2) (k : W.grownBy W' v.ownBlock) : Rws W' base e inj l vs :=
  ⟨h.len, fun j hj => (h.row j hj).kept k (row_ne (h.row j hj) hv hne), h.few, h.sep⟩
theorem getD_snoc_lt {α : Type} (l : List α) (x d : α) {j : Nat} (h : j < l.length) : (l ++ [x]).getD j d = l.getD j d := by
  rw [List.getD_eq_getElem?_getD, List.getD_eq_getElem?_getD, List.getElem?_append_left h]
theorem getD_snoc_eq {α : Type} (l : List α) (x d : α) {j : Nat} (h : j = l.length) : (l ++ [x]).getD j d = x := by
  subst h
  rw [List.getD_eq_getElem?_getD, List.getElem?_append_right (Nat.le_refl _), Nat.sub_self]
  rfl
theorem Rws.snoc {α : Type} {W : World} {base b' : Nat} {e : TypeId} {inj : α → Value} {l : List (List α)} {vs : List Value} {vx : Value} {x : List α} (h : Rws W base e inj l vs) (hx : W.ownsRow b' e 1 vx x.length (x.map inj)) (hb : base ≤ b') (hlt : ∀ j, j < l.length → ∀ k, (vs.getD j undef).ownBlock = some k → k < b') (hf : x.length ≤ 1000) : Rws W base e inj (l ++ [x]) (vs ++ [vx]) := by
  have hlen := h.len
  refine ⟨by simp [hlen], fun j hj => ?_, fun j hj => ?_, fun i j hij hj k hi => ?_⟩
  · by_cases hj' : j < l.length
    · rw [getD_snoc_lt vs vx undef (by omega), getD_snoc_lt l x [] hj']
      exact h.row j hj'
    · have : j = l.length := by simp at hj; omega
      rw [getD_snoc_eq vs vx undef (by omega), getD_snoc_eq l x [] this]
      exact row_base hx hb
  · by_cases hj' : j < l.length
    · rw [getD_snoc_lt l x [] hj']
      exact h.few j hj'
    · have : j = l.length := by simp at hj; omega
      rw [getD_snoc_eq l x [] this]
      exact hf
  · by_cases hj' : j < l.length
    · rw [getD_snoc_lt vs vx undef (by omega)] at hi ⊢
      exact h.sep i j hij hj' k hi
    · have : j = l.length := by simp at hj; omega
      rw [getD_snoc_lt vs vx undef (by omega)] at hi
      rw [getD_snoc_eq vs vx undef (by omega)]
      intro hk
      have h1 := hlt i (by omega) k hi
      have h2 := (hx.lt k hk).1
      omega
theorem own_form {W : World} {base n : Nat} {e : TypeId} {v : Value} {xs : List Value} (h : W.ownsRow base e 1 v n xs) : ∃ a ca, v = .slice a n ca ∧ RdV W a xs := by
  rcases h.2 with ⟨rfl, rfl⟩ | ⟨g, cap, cur, rfl, _, hg, _, _, hc, ht⟩
  · refine ⟨none, 0, rfl, Or.inl ?_⟩
    have := h.1
    omega
  · refine ⟨_, _, rfl, Or.inr ⟨g, 0, rfl, lt_blk hg, fun j hj => ?_⟩⟩
    have hx := h.1
    have h5 := h.cells (g := g) rfl j (xs.getD j undef) (by rw [List.getD_eq_getElem?_getD, List.getElem?_eq_getElem hj]; rfl)
    rw [Go.WideShapes.add_plain] at h5
    simpa using h5
/-- A list of lists in memory of its own. -/
def Rw2 {α : Type} (W : World) (base : Nat) (E e : TypeId) (inj : α → Value) (v : Value) (l : List (List α)) : Prop := ∃ vs, W.ownsRow base E 1 v l.length vs ∧ Rws W base e inj l vs
theorem set_few_s {B : List UInt8} {k k' : Nat} {x : List ByteArray} (hk : k ≤ B.length) (h : setC.P B k = .ok (x, k')) : x.length ≤ 1000 :=
  (((lst_D textC ltS 1 1000 (by decide) x).1 (setC.bwd hk h).1)).2.1
theorem set_few_i {B : List UInt8} {k k' : Nat} {x : List Int} (hk : k ≤ B.length) (h : nsetC.P B k = .ok (x, k')) : x.length ≤ 1000 :=
  (((lst_D sgnC ltI 1 1000 (by decide) x).1 (nsetC.bwd hk h).1)).2.1
end Go.Proofs.Ytnclpdgbjefpmaa.L
