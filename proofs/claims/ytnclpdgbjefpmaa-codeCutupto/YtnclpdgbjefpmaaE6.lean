import Derived.Test.YtnclpdgbjefpmaaE5
namespace Go.Proofs.Ytnclpdgbjefpmaa.L
set_option linter.unusedVariables false
set_option linter.unusedSimpArgs false
theorem natC_D (lo hi : Nat) (h : hi < 128 ^ 9) (z : Int) : (natC lo hi h).D z ↔ 0 ≤ z ∧ lo ≤ z ∧ z ≤ hi := by
  show ((lo ≤ z.toNat ∧ z.toNat ≤ hi) ∧ ((z.toNat : Int) = z)) ↔ _
  omega
theorem sgnC_D (z : Int) : sgnC.D z ↔ shI z = true := by
  show ((0 ≤ zz z ∧ zz z ≤ 2000000000000000000) ∧ unz (zz z) = z) ↔ _
  unfold shI inR
  rw [decide_eq_true_eq]
  constructor
  · rintro ⟨⟨_, h⟩, _⟩
    unfold zz at h
    split at h <;> omega
  · intro h
    refine ⟨⟨Nat.zero_le _, ?_⟩, unz_zz z⟩
    unfold zz
    split <;> omega
theorem textC_D (s : ByteArray) : textC.D s ↔ shS s = true := by
  unfold shS
  rw [decide_eq_true_eq]
  constructor
  · rintro ⟨⟨⟨_, h⟩, _⟩, _⟩
    have h : s.size ≤ 127 := h
    omega
  · intro h
    exact ⟨⟨⟨Nat.zero_le _, (show s.size ≤ 127 by omega)⟩, (show s.data.toList.length = s.size from Array.length_toList)⟩, by simp⟩
theorem setC_D (l : List ByteArray) : setC.D l ↔ setB shS ltS l = true := by
  rw [show setC.D l ↔ _ from lst_D textC ltS 1 1000 (by decide) l]
  unfold setB inR
  simp only [Bool.and_eq_true, decide_eq_true_eq, List.all_eq_true, textC_D]
  constructor
  · rintro ⟨a, b, c, d⟩
    exact ⟨by omega, c, d⟩
  · rintro ⟨a, c, d⟩
    exact ⟨by omega, by omega, c, d⟩
theorem nsetC_D (l : List Int) : nsetC.D l ↔ setB shI ltI l = true := by
  rw [show nsetC.D l ↔ _ from lst_D sgnC ltI 1 1000 (by decide) l]
  unfold setB inR
  simp only [Bool.and_eq_true, decide_eq_true_eq, List.all_eq_true, sgnC_D]
  constructor
  · rintro ⟨a, b, c, d⟩
    exact ⟨by omega, c, d⟩
  · rintro ⟨a, c, d⟩
    exact ⟨by omega, by omega, c, d⟩
theorem optC_D (u : Bool) (x : Int) : (optC u).D x ↔ fitB u x = true := by
  unfold optC fitB inR
  cases u with
  | true =>
    rw [if_pos rfl, if_pos rfl, natC_D, decide_eq_true_eq]
    omega
  | false =>
    rw [if_neg (by decide), if_neg (by decide), decide_eq_true_eq]
    exact Iff.rfl
theorem insC_D (i : Ins) : insC.D i ↔ insB i = true := by
  obtain ⟨o, x, y, z⟩ := i
  unfold insB opsB inR
  simp only [Bool.and_eq_true, decide_eq_true_eq, ← optC_D]
  constructor
  · rintro ⟨⟨⟨h1, h2⟩, h3, h4, h5⟩, he⟩
    have he : (⟨((UInt8.ofNat o.toNat).toNat : Int), x, y, z⟩ : Ins) = ⟨o, x, y, z⟩ := he
    injection he with he
    have h1 : 1 ≤ (UInt8.ofNat o.toNat).toNat := h1
    have h2 : (UInt8.ofNat o.toNat).toNat ≤ 36 := h2
    have h3 : (optC (us ((UInt8.ofNat o.toNat).toNat : Int)).1).D x := h3
    have h4 : (optC (us ((UInt8.ofNat o.toNat).toNat : Int)).2.1).D y := h4
    have h5 : (optC (us ((UInt8.ofNat o.toNat).toNat : Int)).2.2).D z := h5
    rw [he] at h3 h4 h5
    exact ⟨by omega, h3, h4, h5⟩
  · rintro ⟨h0, h3, h4, h5⟩
    have e : ((UInt8.ofNat o.toNat).toNat : Int) = o := by rw [u8_nat (by omega)]; omega
    refine ⟨⟨⟨?_, ?_⟩, ?_, ?_, ?_⟩, ?_⟩
    · show 1 ≤ (UInt8.ofNat o.toNat).toNat
      omega
    · show (UInt8.ofNat o.toNat).toNat ≤ 36
      omega
    · show (optC (us ((UInt8.ofNat o.toNat).toNat : Int)).1).D x
      rw [e]; exact h3
    · show (optC (us ((UInt8.ofNat o.toNat).toNat : Int)).2.1).D y
      rw [e]; exact h4
    · show (optC (us ((UInt8.ofNat o.toNat).toNat : Int)).2.2).D z
      rw [e]; exact h5
    · show (⟨((UInt8.ofNat o.toNat).toNat : Int), x, y, z⟩ : Ins) = ⟨o, x, y, z⟩
      rw [e]
theorem risB_true {α : Type} (p : Option α) (l : List α) : risB (fun _ _ => true) p l = true := by
  induction l generalizing p with
  | nil => rfl
  | cons x r ih =>
    unfold risB
    rw [ih, Bool.and_true]
    cases p <;> rfl
theorem form_iff (p : Pg) : formP p ↔ formB p = true := by
  rw [formB_iff]
  constructor
  · rintro ⟨⟨_, h1, h2, h3, h4, h5, h6, h7⟩, _⟩
    rw [show (natC 0 128 _).D _ ↔ _ from natC_D _ _ _ _] at h1
    rw [show (natC 0 1024 _).D _ ↔ _ from natC_D _ _ _ _] at h2
    have h3 := (lst_D textC ltS 0 4096 (by decide) p.tx).1 h3
    have h4 := (lst_D sgnC ltI 0 (4096 - p.tx.length) (pool_lt _) p.nu).1 h4
    have h5 := (lst_D setC (ltL ltS) 0 (4096 - (p.tx.length + p.nu.length)) (pool_lt _) p.st).1 h5
    have h6 := (lst_D nsetC (ltL ltI) 0 (4096 - (p.tx.length + p.nu.length + p.st.length)) (pool_lt _) p.ns).1 h6
    have h7 := (lst_D insC (fun _ _ => true) 0 32768 (by decide) p.cd).1 h7
    have h1 : 0 ≤ p.dep ∧ ((0 : Nat) : Int) ≤ p.dep ∧ p.dep ≤ ((128 : Nat) : Int) := h1
    have h2 : 0 ≤ p.loc ∧ ((0 : Nat) : Int) ≤ p.loc ∧ p.loc ≤ ((1024 : Nat) : Int) := h2
    exact ⟨⟨h1.1, h1.2.2⟩, ⟨h2.1, h2.2.2⟩, by omega, h7.2.1, fun x hx => (textC_D x).1 (h3.2.2.1 x hx), h3.2.2.2, fun x hx => (sgnC_D x).1 (h4.2.2.1 x hx), h4.2.2.2, fun x hx => (setC_D x).1 (h5.2.2.1 x hx), h5.2.2.2, fun x hx => (nsetC_D x).1 (h6.2.2.1 x hx), h6.2.2.2, fun x hx => (insC_D x).1 (h7.2.2.1 x hx)⟩
  · intro h
    have hp := h.pool
    refine ⟨⟨?_, (natC_D _ _ _ _).2 ⟨h.dep.1, h.dep.1, h.dep.2⟩, (natC_D _ _ _ _).2 ⟨h.loc.1, h.loc.1, h.loc.2⟩, (lst_D textC ltS 0 4096 (by decide) p.tx).2 ⟨by omega, by omega, fun x hx => (textC_D x).2 (h.tx x hx), h.txr⟩, (lst_D sgnC ltI 0 (4096 - p.tx.length) (pool_lt _) p.nu).2 ⟨by omega, by omega, fun x hx => (sgnC_D x).2 (h.nu x hx), h.nur⟩, (lst_D setC (ltL ltS) 0 (4096 - (p.tx.length + p.nu.length)) (pool_lt _) p.st).2 ⟨by omega, by omega, fun x hx => (setC_D x).2 (h.st x hx), h.str⟩, (lst_D nsetC (ltL ltI) 0 (4096 - (p.tx.length + p.nu.length + p.st.length)) (pool_lt _) p.ns).2 ⟨by omega, by omega, fun x hx => (nsetC_D x).2 (h.ns x hx), h.nsr⟩, (lst_D insC (fun _ _ => true) 0 32768 (by decide) p.cd).2 ⟨by omega, h.code, fun x hx => (insC_D x).2 (h.cd x hx), risB_true _ _⟩⟩, rfl⟩
    exact ⟨⟨⟨Nat.le_refl _, Nat.le_refl _⟩, ⟨Nat.le_refl _, Nat.le_refl _⟩, ⟨Nat.le_refl _, Nat.le_refl _⟩, Nat.le_refl _, Nat.le_refl _⟩, rfl⟩
end Go.Proofs.Ytnclpdgbjefpmaa.L
