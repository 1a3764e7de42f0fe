import Derived.Test.YtimmjikpcekffaaGreatDoorMgAF
import Derived.Test.YtimmjikpcekffaaGreatDoorNv7
namespace Go.Proofs.YtimmjikpcekffaaGreatDoor.L
open Go.RowKit
set_option linter.unusedVariables false
set_option linter.unusedSimpArgs false
theorem lg_is (s : ByteArray) : decide ((127 : Int) < (s.size : Int)) = lgB s := decide_eq_decide.2 (by omega)
theorem em_is (s : ByteArray) : (s.toList == []) = decide (s = ByteArray.empty) := by
  by_cases h : s = ByteArray.empty
  · rw [toList_nil.2 h]; simp [h]
  · have : ¬ s.toList = [] := fun h2 => h (toList_nil.1 h2)
    simp [h, this]
theorem lg_empty : lgB ByteArray.empty = false := by decide
def mvO (pods : Bool) : Int := if pods = true then 3 else 2
theorem si_is (pods : Bool) (sd : Int) : siB pods sd = knB (mvO pods) sd := by
  cases pods <;> simp [siB, knB, mvO]
theorem term_text (pods : Bool) (ns tk ts : Int) (ty : ByteArray) (tl : Int) : (rteB pods ns tk ts ty tl = true ∧ rtxB tk = true) ↔ ttB (mvO pods) tk ts ty tl = true := by
  by_cases h2 : tk = 2
  · subst h2
    simp [rteB, rtxB, ttB, lg_is, si_is]
    cases lgB ty <;> simp
  · by_cases h3 : tk = 3
    · subst h3
      simp only [rteB, rtxB, ttB, lg_is, si_is, em_is, emB]
      by_cases he : ty = ByteArray.empty
      · subst he
        simp [lg_empty]
      · simp [he]
    · simp [rtxB, ttB, h2, h3]
theorem term_num (pods : Bool) (ns tk ts : Int) (ty : ByteArray) (tl : Int) : (rteB pods ns tk ts ty tl = true ∧ rnuB tk = true) ↔ tnB (mvO pods) ns tk ts ty tl = true := by
  by_cases h4 : tk = 4
  · subst h4
    simp [rteB, rnuB, tnB, lg_is, si_is]
  · by_cases h5 : tk = 5
    · subst h5
      cases pods <;> simp [rteB, rnuB, tnB, lg_is, si_is, mvO]
    · by_cases h6 : tk = 6
      · subst h6
        cases pods <;> simp [rteB, rnuB, tnB, lg_is, si_is, mvO, hsB]
      · have : rnuB tk = false := by
          unfold rnuB
          simp
          omega
        simp [this, tnB, h4, h5, h6]
theorem term_sought (pods : Bool) (ns tk ts : Int) (ty : ByteArray) (tl : Int) : (rteB pods ns tk ts ty tl = true ∧ ((tk == 1) = true ∨ rtxB tk = true) ∧ rofB tk ts = true) ↔ tsB (mvO pods) tk ts ty tl = true := by
  by_cases h1 : tk = 1
  · subst h1
    simp [rteB, rofB, tsB, lg_is]
    cases lgB ty <;> simp
  · have h := term_text pods ns tk ts ty tl
    unfold tsB rofB
    simp [h1, ← h]
    constructor
    · rintro ⟨a, b, c⟩; exact ⟨c, a, b⟩
    · rintro ⟨c, a, b⟩; exact ⟨a, b, c⟩
theorem not_both (tk : Int) (h : rtxB tk = true) : rnuB tk = false := by
  unfold rtxB at h
  unfold rnuB
  simp at h ⊢
  omega
theorem rt_is (tx : List ByteArray) : RtP tx ↔ (∀ k, 1 ≤ k → k < tx.length → Op.bytesLess (tx.getD (k - 1) ByteArray.empty).toList (tx.getD k ByteArray.empty).toList = true) ∧ (¬ ∃ k, k < tx.length ∧ lgB (tx.getD k ByteArray.empty) = true) := by
  constructor
  · intro h
    refine ⟨fun k h1 h2 => (h k h2).2 h1, ?_⟩
    rintro ⟨k, h1, h2⟩
    have := (h k h1).1
    rw [lg_is, h2] at this
    cases this
  · rintro ⟨h1, h2⟩ k hk
    refine ⟨?_, fun h => h1 k h hk⟩
    rw [lg_is]
    cases e : lgB (tx.getD k ByteArray.empty)
    · rfl
    · exact absurd ⟨k, hk, e⟩ h2
theorem rn_is (nm : List Int) : RnP nm ↔ (∀ k, 1 ≤ k → k < nm.length → nm.getD (k - 1) 0 < nm.getD k 0) ∧ (¬ ∃ k, k < nm.length ∧ farB (nm.getD k 0) = true) := by
  constructor
  · intro h
    refine ⟨fun k h1 h2 => (h k h2).2 h1, ?_⟩
    rintro ⟨k, h1, h2⟩
    have h3 := (h k h1).1
    unfold farB at h2
    simp at h2 h3
    omega
  · rintro ⟨h1, h2⟩ k hk
    refine ⟨?_, fun h => h1 k h hk⟩
    have h3 : ¬ farB (nm.getD k 0) = true := fun e => h2 ⟨k, hk, e⟩
    unfold farB at h3
    simp at h3 ⊢
    omega
theorem rel_is (tk rl nu : Int) : rreB tk rl nu = (rnuB tk && bdB rl nu) := by
  unfold rreB bdB farB
  congr 1
  by_cases h4 : rl = 4
  · subst h4
    simp only [beq_self_eq_true, if_true]
    rw [Bool.eq_iff_iff]
    simp
    omega
  · by_cases h6 : rl = 6
    · subst h6
      simp only [show ((6 : Int) == 4) = false from rfl, beq_self_eq_true, if_true, Bool.false_eq_true, if_false, Bool.true_and]
      rw [Bool.eq_iff_iff]
      simp
      omega
    · simp [h4, h6]
end Go.Proofs.YtimmjikpcekffaaGreatDoor.L
namespace Go.Proofs.YtimmjikpcekffaaGreatDoor.L
open Go.RowKit
set_option linter.unusedVariables false
set_option linter.unusedSimpArgs false
theorem fo {X : Prop} (h : false = true ∨ X) : X := h.elim (fun h => by cases h) id
theorem lit_1 (pods : Bool) (ns : Int) (tk ts : Int) (ty : ByteArray) (tl rl nu : Int) (xa : Option Addr) (xn xc : Nat) (na : Option Addr) (nn nc : Nat) (ok os : Int) (oy : ByteArray) (ol of : Int) (ky : ByteArray) (sl : Int) (tx : List ByteArray) (nm : List Int) : LitP (mvO pods) ns 1 tk ts ty tl rl nu xa xn xc na nn nc ok os oy ol of ky sl tx nm ↔ RLitP pods ns 1 tk ts ty tl rl nu xa xn xc na nn nc ok os oy ol of ky sl tx nm := by
  have e6 : ky = ByteArray.empty → lgB ky = false := fun h => by rw [h]; exact lg_empty
  have hT := term_text pods ns tk ts ty tl
  have hN := term_num pods ns tk ts ty tl
  unfold LitP RLitP
  simp only [show ((1 : Int) == 1) = true from rfl, show ((1 : Int) == 6) = false from rfl, show ((1 : Int) == 7) = false from rfl, if_true, Bool.false_eq_true, if_false, lg_is]
  unfold InP RInP RestP Same
  rw [rt_is, rn_is]
  by_cases hx : rtxB tk = true
  · rw [if_pos hx]
    have hy := not_both tk hx
    have hN2 : tnB (mvO pods) ns tk ts ty tl = false := by
      cases e : tnB (mvO pods) ns tk ts ty tl
      · rfl
      · have := (hN.2 e).2
        rw [hy] at this; cases this
    by_cases ht : ttB (mvO pods) tk ts ty tl = true
    · rw [if_pos ht]
      have hr := (hT.2 ht).1
      constructor
      · rintro ⟨h1, h2, _, hnn, _, _, a1, a2, a3, a4, a5, a6⟩
        rw [if_neg (by rw [e6 a5]; decide)]
        exact ⟨hr, ⟨by simp [hnn], h1, h2⟩, Or.inl rfl, Or.inr a1, Or.inr a2, Or.inr a3, Or.inr a4, Or.inr ⟨a5, a6⟩⟩
      · intro h
        split at h
        · exact h.elim
        · obtain ⟨_, ⟨h1, h2, h3⟩, _, b1, b2, b3, b4, b5⟩ := h
          exact ⟨h2, h3, rfl, by simpa using h1, rfl, ⟨rfl, rfl, rfl, rfl⟩, fo b1, fo b2, fo b3, fo b4, (fo b5).1, (fo b5).2⟩
    · rw [if_neg ht, hN2]
      constructor
      · rintro ⟨h, _⟩; cases h
      · intro h
        split at h
        · exact h.elim
        · exact absurd (hT.1 ⟨h.1, hx⟩) ht
  · rw [if_neg hx]
    have ht : ¬ ttB (mvO pods) tk ts ty tl = true := fun e => hx (hT.2 e).2
    rw [if_neg ht, ← hN]
    constructor
    · rintro ⟨⟨hr, hn⟩, h1, h2, hxx, _, _, _, a1, a2, a3, a4, a5, a6⟩
      rw [if_neg (by rw [e6 a5]; decide)]
      exact ⟨hr, ⟨hn, by simp [hxx], h1, h2⟩, Or.inl rfl, Or.inr a1, Or.inr a2, Or.inr a3, Or.inr a4, Or.inr ⟨a5, a6⟩⟩
    · intro h
      split at h
      · exact h.elim
      · obtain ⟨hr, ⟨hn, h1, h2, h3⟩, _, b1, b2, b3, b4, b5⟩ := h
        exact ⟨⟨hr, hn⟩, h2, h3, by simpa using h1, rfl, rfl, ⟨rfl, rfl, rfl, rfl⟩, fo b1, fo b2, fo b3, fo b4, (fo b5).1, (fo b5).2⟩
theorem lit_2 (pods : Bool) (ns : Int) (tk ts : Int) (ty : ByteArray) (tl rl nu : Int) (xa : Option Addr) (xn xc : Nat) (na : Option Addr) (nn nc : Nat) (ok os : Int) (oy : ByteArray) (ol of : Int) (ky : ByteArray) (sl : Int) (tx : List ByteArray) (nm : List Int) : LitP (mvO pods) ns 2 tk ts ty tl rl nu xa xn xc na nn nc ok os oy ol of ky sl tx nm ↔ RLitP pods ns 2 tk ts ty tl rl nu xa xn xc na nn nc ok os oy ol of ky sl tx nm := by
  have e6 : ky = ByteArray.empty → lgB ky = false := fun h => by rw [h]; exact lg_empty
  have hT := term_text pods ns tk ts ty tl
  have hN := term_num pods ns tk ts ty tl
  have hO := term_text pods ns ok os oy ol
  have hON := term_num pods ns ok os oy ol
  have hS := term_sought pods ns tk ts ty tl
  unfold LitP RLitP
  simp only [show ((2 : Int) == 1) = false from rfl, show ((2 : Int) == 3) = false from rfl, show ((2 : Int) == 4) = false from rfl, show ((2 : Int) == 5) = false from rfl, show ((2 : Int) == 6) = false from rfl, show ((2 : Int) == 7) = false from rfl, show ((2 : Int) == 2) = true from rfl, if_true, Bool.false_eq_true, if_false, lg_is]
  unfold RestP Same
  rw [← hN, rel_is]
  constructor
  · rintro ⟨⟨hr, hn⟩, hb, h3⟩
    have hk := h3.2.2.2.2.2.2.2.2.1
    rw [e6 hk, hn, hb]
    exact by simpa using ⟨hr, ⟨h3.1, h3.2.1⟩, h3.2.2.2.2.2.2.1, h3.2.2.2.2.2.2.2.1, hk, h3.2.2.2.2.2.2.2.2.2⟩
  · intro h
    split at h
    · exact h.elim
    · obtain ⟨hr, hb, h4⟩ := h
      simp at hb h4
      exact ⟨⟨hr, hb.1⟩, hb.2, h4.1.1, h4.1.2, rfl, ⟨rfl, rfl, rfl, rfl⟩, rfl, rfl, h4.2.1, h4.2.2.1, h4.2.2.2.1, h4.2.2.2.2⟩
theorem lit_3 (pods : Bool) (ns : Int) (tk ts : Int) (ty : ByteArray) (tl rl nu : Int) (xa : Option Addr) (xn xc : Nat) (na : Option Addr) (nn nc : Nat) (ok os : Int) (oy : ByteArray) (ol of : Int) (ky : ByteArray) (sl : Int) (tx : List ByteArray) (nm : List Int) : LitP (mvO pods) ns 3 tk ts ty tl rl nu xa xn xc na nn nc ok os oy ol of ky sl tx nm ↔ RLitP pods ns 3 tk ts ty tl rl nu xa xn xc na nn nc ok os oy ol of ky sl tx nm := by
  have e6 : ky = ByteArray.empty → lgB ky = false := fun h => by rw [h]; exact lg_empty
  have hT := term_text pods ns tk ts ty tl
  have hN := term_num pods ns tk ts ty tl
  have hO := term_text pods ns ok os oy ol
  have hON := term_num pods ns ok os oy ol
  have hS := term_sought pods ns tk ts ty tl
  unfold LitP RLitP
  simp only [show ((3 : Int) == 1) = false from rfl, show ((3 : Int) == 2) = false from rfl, show ((3 : Int) == 4) = false from rfl, show ((3 : Int) == 5) = false from rfl, show ((3 : Int) == 6) = false from rfl, show ((3 : Int) == 7) = false from rfl, show ((3 : Int) == 3) = true from rfl, if_true, Bool.false_eq_true, if_false, lg_is]
  unfold RestP Same
  have hpd : pdB (mvO pods) ns 3 tk ts ty tl rl nu xa xn xc na nn nc ok os oy ol of ky sl = true ↔ (rteB pods ns tk ts ty tl = true ∧ rteB pods ns ok os oy ol = true ∧ rpoB tk rl ok os = true) := by
    unfold pdB rpoB
    by_cases ho : os = 1
    · subst ho
      simp only [beq_self_eq_true, if_true]
      by_cases hx : rtxB tk = true
      · have hy := not_both tk hx
        have hN2 : tnB (mvO pods) ns tk ts ty tl = false := by
          cases e : tnB (mvO pods) ns tk ts ty tl
          · rfl
          · have := (hN.2 e).2
            rw [hy] at this; cases this
        rw [hN2]
        simp only [hx, if_true]
        by_cases ht : ttB (mvO pods) tk ts ty tl = true
        · have h1 := (hT.2 ht).1
          simp only [ht, h1, if_true, Bool.and_eq_true, ← hO, true_and]
          constructor
          · rintro ⟨a, b, c⟩; exact ⟨b, a, c⟩
          · rintro ⟨b, a, c⟩; exact ⟨a, b, c⟩
        · have h1 : ¬ rteB pods ns tk ts ty tl = true := fun h => ht (hT.1 ⟨h, hx⟩)
          simp [ht, h1]
      · have ht : ¬ ttB (mvO pods) tk ts ty tl = true := fun h => hx (hT.2 h).2
        simp only [ht, hx, if_false, Bool.and_eq_true, ← hN, ← hON, Bool.false_eq_true]
        by_cases h4 : ok = 4
        · subst h4
          have hr4 : rnuB 4 = true := by decide
          simp [hr4]
          constructor
          · rintro ⟨⟨a, b⟩, c, d⟩; exact ⟨a, d, b, by omega, by omega, by omega⟩
          · rintro ⟨a, d, b, c⟩; exact ⟨⟨a, b⟩, by omega, d⟩
        · simp [h4]
    · simp [ho]
  rw [hpd]
  constructor
  · rintro ⟨⟨hr, hr2, hb⟩, h3⟩
    have hk := h3.2.2.2.2.2.2.2.2.1
    rw [e6 hk, hb]
    exact by simpa using ⟨hr, hr2, ⟨h3.1, h3.2.1⟩, h3.2.2.2.2.2.1, h3.2.2.2.2.2.2.2.1, hk, h3.2.2.2.2.2.2.2.2.2⟩
  · intro h
    split at h
    · exact h.elim
    · obtain ⟨hr, hr2, hb, h4⟩ := h
      simp at h4
      exact ⟨⟨hr, hr2, hb⟩, h4.1.1, h4.1.2, rfl, ⟨rfl, rfl, rfl, rfl⟩, rfl, h4.2.1, ⟨rfl, rfl, rfl, rfl⟩, h4.2.2.1, h4.2.2.2.1, h4.2.2.2.2⟩
theorem lit_4 (pods : Bool) (ns : Int) (tk ts : Int) (ty : ByteArray) (tl rl nu : Int) (xa : Option Addr) (xn xc : Nat) (na : Option Addr) (nn nc : Nat) (ok os : Int) (oy : ByteArray) (ol of : Int) (ky : ByteArray) (sl : Int) (tx : List ByteArray) (nm : List Int) : LitP (mvO pods) ns 4 tk ts ty tl rl nu xa xn xc na nn nc ok os oy ol of ky sl tx nm ↔ RLitP pods ns 4 tk ts ty tl rl nu xa xn xc na nn nc ok os oy ol of ky sl tx nm := by
  have e6 : ky = ByteArray.empty → lgB ky = false := fun h => by rw [h]; exact lg_empty
  have hT := term_text pods ns tk ts ty tl
  have hN := term_num pods ns tk ts ty tl
  have hO := term_text pods ns ok os oy ol
  have hON := term_num pods ns ok os oy ol
  have hS := term_sought pods ns tk ts ty tl
  unfold LitP RLitP
  simp only [show ((4 : Int) == 1) = false from rfl, show ((4 : Int) == 2) = false from rfl, show ((4 : Int) == 3) = false from rfl, show ((4 : Int) == 5) = false from rfl, show ((4 : Int) == 6) = false from rfl, show ((4 : Int) == 7) = false from rfl, show ((4 : Int) == 4) = true from rfl, if_true, Bool.false_eq_true, if_false, lg_is]
  unfold RestP Same
  have hky : kyB (mvO pods) tk ts ty tl of = true ↔ (rteB pods ns tk ts ty tl = true ∧ siB pods of = true ∧ ((tk == 1) = true ∨ rtxB tk = true) ∧ ((of == 1) = true ∨ rofB tk ts = true)) := by
    unfold kyB
    rw [si_is]
    unfold knB
    by_cases ho : of = 1
    · subst ho
      simp only [beq_self_eq_true, if_true, Bool.or_eq_true, ← hS, ← hT, true_or, and_true, true_and]
      constructor
      · rintro (⟨a, b, c⟩ | ⟨a, b⟩)
        · exact ⟨a, b⟩
        · exact ⟨a, Or.inr b⟩
      · rintro ⟨a, b | b⟩
        · exact Or.inl ⟨a, Or.inl b, by unfold rofB; rw [b]; rfl⟩
        · exact Or.inr ⟨a, b⟩
    · have h1 : (of == 1) = false := by simp [ho]
      simp only [h1, Bool.false_eq_true, if_false, Bool.false_or, false_or]
      by_cases hm : (of == mvO pods) = true
      · simp only [hm, if_true, ← hS, true_and]
      · simp only [hm, if_false, Bool.false_eq_true, false_and, and_false]
  rw [hky]
  constructor
  · rintro ⟨⟨hr, h1, h2, h2'⟩, h3⟩
    have hk := h3.2.2.2.2.2.2.2.2.1
    rw [e6 hk]
    exact by simpa using ⟨hr, h1, by simpa using h2, by simpa using h2', ⟨h3.1, h3.2.1⟩, h3.2.2.2.2.1, h3.2.2.2.2.2.1, h3.2.2.2.2.2.2.1, hk, h3.2.2.2.2.2.2.2.2.2⟩
  · intro h
    split at h
    · exact h.elim
    · obtain ⟨hr, h1, h2, h2', h4⟩ := h
      simp at h4
      exact ⟨⟨hr, h1, h2, h2'⟩, h4.1.1, h4.1.2, rfl, ⟨rfl, rfl, rfl, rfl⟩, h4.2.1, h4.2.2.1, h4.2.2.2.1, rfl, h4.2.2.2.2.1, h4.2.2.2.2.2⟩
theorem lit_5 (pods : Bool) (ns : Int) (tk ts : Int) (ty : ByteArray) (tl rl nu : Int) (xa : Option Addr) (xn xc : Nat) (na : Option Addr) (nn nc : Nat) (ok os : Int) (oy : ByteArray) (ol of : Int) (ky : ByteArray) (sl : Int) (tx : List ByteArray) (nm : List Int) : LitP (mvO pods) ns 5 tk ts ty tl rl nu xa xn xc na nn nc ok os oy ol of ky sl tx nm ↔ RLitP pods ns 5 tk ts ty tl rl nu xa xn xc na nn nc ok os oy ol of ky sl tx nm := by
  have e6 : ky = ByteArray.empty → lgB ky = false := fun h => by rw [h]; exact lg_empty
  have hT := term_text pods ns tk ts ty tl
  have hN := term_num pods ns tk ts ty tl
  have hO := term_text pods ns ok os oy ol
  have hON := term_num pods ns ok os oy ol
  have hS := term_sought pods ns tk ts ty tl
  unfold LitP RLitP
  simp only [show ((5 : Int) == 1) = false from rfl, show ((5 : Int) == 2) = false from rfl, show ((5 : Int) == 3) = false from rfl, show ((5 : Int) == 4) = false from rfl, show ((5 : Int) == 6) = false from rfl, show ((5 : Int) == 7) = false from rfl, show ((5 : Int) == 5) = true from rfl, if_true, Bool.false_eq_true, if_false, lg_is]
  unfold RestP Same
  rw [← hS]
  have hm : ((mvO pods == 2) = true) ↔ pods = false := by cases pods <;> simp [mvO]
  rw [hm]
  constructor
  · rintro ⟨hp, ⟨hr, h1, h2⟩, h3⟩
    have hk := h3.2.2.2.2.2.2.2.2.1
    rw [e6 hk]
    exact by simpa using ⟨hr, hp, by simpa using h1, h2, ⟨h3.1, h3.2.1⟩, h3.2.2.2.2.1, h3.2.2.2.2.2.1, h3.2.2.2.2.2.2.1, h3.2.2.2.2.2.2.2.1, hk, h3.2.2.2.2.2.2.2.2.2⟩
  · intro h
    split at h
    · exact h.elim
    · obtain ⟨hr, hp, h1, h2, h4⟩ := h
      simp at h4
      exact ⟨hp, ⟨hr, h1, h2⟩, h4.1.1, h4.1.2, rfl, ⟨rfl, rfl, rfl, rfl⟩, h4.2.1, h4.2.2.1, h4.2.2.2.1, h4.2.2.2.2.1, h4.2.2.2.2.2.1, h4.2.2.2.2.2.2⟩
theorem lit_6 (pods : Bool) (ns : Int) (tk ts : Int) (ty : ByteArray) (tl rl nu : Int) (xa : Option Addr) (xn xc : Nat) (na : Option Addr) (nn nc : Nat) (ok os : Int) (oy : ByteArray) (ol of : Int) (ky : ByteArray) (sl : Int) (tx : List ByteArray) (nm : List Int) : LitP (mvO pods) ns 6 tk ts ty tl rl nu xa xn xc na nn nc ok os oy ol of ky sl tx nm ↔ RLitP pods ns 6 tk ts ty tl rl nu xa xn xc na nn nc ok os oy ol of ky sl tx nm := by
  have e6 : ky = ByteArray.empty → lgB ky = false := fun h => by rw [h]; exact lg_empty
  have hT := term_text pods ns tk ts ty tl
  have hN := term_num pods ns tk ts ty tl
  have hO := term_text pods ns ok os oy ol
  have hON := term_num pods ns ok os oy ol
  have hS := term_sought pods ns tk ts ty tl
  unfold LitP RLitP
  simp only [show ((6 : Int) == 1) = false from rfl, show ((6 : Int) == 2) = false from rfl, show ((6 : Int) == 3) = false from rfl, show ((6 : Int) == 4) = false from rfl, show ((6 : Int) == 5) = false from rfl, show ((6 : Int) == 7) = false from rfl, show ((6 : Int) == 6) = true from rfl, if_true, Bool.false_eq_true, if_false, lg_is]
  unfold RestP Same
  have hm : ((mvO pods == 2) = true) ↔ pods = false := by cases pods <;> simp [mvO]
  rw [hm, em_is]
  skip
  cases hl : lgB ky
  · clear hT hN hO hON hS e6
    simp
    intro _
    constructor
    · intro h
      simp_all
    · intro h
      simp_all
  · simp
theorem lit_7 (pods : Bool) (ns : Int) (tk ts : Int) (ty : ByteArray) (tl rl nu : Int) (xa : Option Addr) (xn xc : Nat) (na : Option Addr) (nn nc : Nat) (ok os : Int) (oy : ByteArray) (ol of : Int) (ky : ByteArray) (sl : Int) (tx : List ByteArray) (nm : List Int) : LitP (mvO pods) ns 7 tk ts ty tl rl nu xa xn xc na nn nc ok os oy ol of ky sl tx nm ↔ RLitP pods ns 7 tk ts ty tl rl nu xa xn xc na nn nc ok os oy ol of ky sl tx nm := by
  have e6 : ky = ByteArray.empty → lgB ky = false := fun h => by rw [h]; exact lg_empty
  have hT := term_text pods ns tk ts ty tl
  have hN := term_num pods ns tk ts ty tl
  have hO := term_text pods ns ok os oy ol
  have hON := term_num pods ns ok os oy ol
  have hS := term_sought pods ns tk ts ty tl
  unfold LitP RLitP
  simp only [show ((7 : Int) == 1) = false from rfl, show ((7 : Int) == 2) = false from rfl, show ((7 : Int) == 3) = false from rfl, show ((7 : Int) == 4) = false from rfl, show ((7 : Int) == 5) = false from rfl, show ((7 : Int) == 6) = false from rfl, show ((7 : Int) == 7) = true from rfl, if_true, Bool.false_eq_true, if_false, lg_is]
  unfold RestP Same
  have hm : ((mvO pods == 2) = true) ↔ pods = false := by cases pods <;> simp [mvO]
  rw [hm, em_is]
  unfold hsB
  cases hl : lgB ky
  · clear hT hN hO hON hS e6
    simp
    intro _
    constructor
    · intro h
      simp_all
    · intro h
      simp_all
  · simp
theorem lit_is (pods : Bool) (ns : Int) (kd tk ts : Int) (ty : ByteArray) (tl rl nu : Int) (xa : Option Addr) (xn xc : Nat) (na : Option Addr) (nn nc : Nat) (ok os : Int) (oy : ByteArray) (ol of : Int) (ky : ByteArray) (sl : Int) (tx : List ByteArray) (nm : List Int) : LitP (mvO pods) ns kd tk ts ty tl rl nu xa xn xc na nn nc ok os oy ol of ky sl tx nm ↔ RLitP pods ns kd tk ts ty tl rl nu xa xn xc na nn nc ok os oy ol of ky sl tx nm := by
  by_cases h1 : kd = 1
  · subst h1; exact lit_1 pods ns tk ts ty tl rl nu xa xn xc na nn nc ok os oy ol of ky sl tx nm
  by_cases h2 : kd = 2
  · subst h2; exact lit_2 pods ns tk ts ty tl rl nu xa xn xc na nn nc ok os oy ol of ky sl tx nm
  by_cases h3 : kd = 3
  · subst h3; exact lit_3 pods ns tk ts ty tl rl nu xa xn xc na nn nc ok os oy ol of ky sl tx nm
  by_cases h4 : kd = 4
  · subst h4; exact lit_4 pods ns tk ts ty tl rl nu xa xn xc na nn nc ok os oy ol of ky sl tx nm
  by_cases h5 : kd = 5
  · subst h5; exact lit_5 pods ns tk ts ty tl rl nu xa xn xc na nn nc ok os oy ol of ky sl tx nm
  by_cases h6 : kd = 6
  · subst h6; exact lit_6 pods ns tk ts ty tl rl nu xa xn xc na nn nc ok os oy ol of ky sl tx nm
  by_cases h7 : kd = 7
  · subst h7; exact lit_7 pods ns tk ts ty tl rl nu xa xn xc na nn nc ok os oy ol of ky sl tx nm
  unfold LitP RLitP
  simp [h1, h2, h3, h4, h5, h6, h7]
end Go.Proofs.YtimmjikpcekffaaGreatDoor.L
