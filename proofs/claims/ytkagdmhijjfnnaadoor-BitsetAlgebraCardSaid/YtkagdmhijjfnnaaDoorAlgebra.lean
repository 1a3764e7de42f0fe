import Derived.Test.YtkagdmhijjfnnaaDoorCted
namespace Go.Proofs.YtkagdmhijjfnnaaDoor
open Go.RowKit Bs
theorem subset_is {p q n p' q' n' : Nat} {S T : Nat → Bool} (b : Bool) (w : World) (h : SetAt w p q n S) (h' : SetAt w p' q' n' T) (hb : b = true ↔ ∀ i, S i = true → T i = true) :
    Calls Tryd.prog 24 #[.pointer (some ⟨p, 0, none⟩), .pointer (some ⟨p', 0, none⟩)] w fun e w' => e = .returned (.bool b) ∧ w' = w := by
  cases b
  · refine subset_no w h h' ?_
    apply Classical.byContradiction
    intro c
    have := hb.2 (fun i hi => by
      cases e : T i
      · exact absurd ⟨i, hi, e⟩ c
      · rfl)
    cases this
  · exact subset_yes w h h' (hb.1 rfl)
theorem equal_is {p q n p' q' n' : Nat} {S T : Nat → Bool} (b : Bool) (w : World) (h : SetAt w p q n S) (h' : SetAt w p' q' n' T) (hb : b = true ↔ ∀ i, S i = T i) :
    Calls Tryd.prog 18 #[.pointer (some ⟨p, 0, none⟩), .pointer (some ⟨p', 0, none⟩)] w fun e w' => e = .returned (.bool b) ∧ w' = w := by
  cases b
  · refine equal_no w h h' ?_
    apply Classical.byContradiction
    intro c
    have := hb.2 (fun i => by
      apply Classical.byContradiction
      intro d
      exact c ⟨i, d⟩)
    cases this
  · exact equal_yes w h h' (hb.1 rfl)
theorem meets_is {p q n p' q' n' : Nat} {S T : Nat → Bool} (b : Bool) (w : World) (h : SetAt w p q n S) (h' : SetAt w p' q' n' T) (hb : b = true ↔ ∃ i, S i = true ∧ T i = true) :
    Calls Tryd.prog 22 #[.pointer (some ⟨p, 0, none⟩), .pointer (some ⟨p', 0, none⟩)] w fun e w' => e = .returned (.bool b) ∧ Below w.heap.size w w' := by
  cases b
  · refine meets_no w h h' ?_
    intro i hi
    cases e : T i
    · rfl
    · cases hb.2 ⟨i, hi, e⟩
  · exact meets_yes w h h' (hb.1 rfl)
theorem count_to {p n N c : Nat} {S : Nat → Bool} {w : World} (hN : N = n)
    (h : Calls Tryd.prog 23 #[.pointer (some ⟨p, 0, none⟩)] w fun e w' => e = .returned (.int .i64 ((card N S : Nat) : Int)) ∧ w' = w) (hc : card n S = c) :
    Calls Tryd.prog 23 #[.pointer (some ⟨p, 0, none⟩)] w fun e w' => e = .returned (.int .i64 (c : Int)) ∧ w' = w := by
  subst hN; rw [← hc]; exact h
theorem bool_of (P : Prop) : ∃ b : Bool, b = true ↔ P := by
  by_cases h : P
  · exact ⟨true, by simp [h]⟩
  · exact ⟨false, by simp [h]⟩
theorem all_three (w : World) (a b c : Addr) : Calls Tryd.prog 15 #[.slice (some ⟨w.heap.size, 0, none⟩) 3 3] (w.alloc (.cells #[.pointer (some a), .pointer (some b), .pointer (some c)] 26)) fun e w' => e = .returned (.bool true) ∧ w' = w.alloc (.cells #[.pointer (some a), .pointer (some b), .pointer (some c)] 26) := by
  refine all_any w.heap.size 3 3 (fun j => match j with | 0 => a | 1 => b | _ => c) _ (by decide) ?_
  intro j hj
  match j, hj with
  | 0, _ => simp
  | 1, _ => simp
  | 2, _ => simp
set_option maxRecDepth 100000 in
set_option maxHeartbeats 4000000 in
theorem counted_nil (n cap p q : Nat) (a : Option Addr) (vB vC : Value) (w : World) (hs : SetAt w p q n (sOf n [])) :
    Calls Tryd.prog 25 #[.agg #[.int .i64 n, .slice a 0 cap, vB, vC], .pointer (some ⟨p, 0, none⟩)] w fun e w' => e = .returned (.bool true) ∧ Below w.heap.size w w' := by
  have hl1 := lowAlloc w (.cells #[.int .i64 n, .slice a 0 cap, vB, vC] 40)
  have HS := hid (count_none _ (hs.low hl1) (fun i => by simp [sOf, inU]))
  have HL1 := hid hl1
  clear hs hl1
  have hx1 : (w.alloc (.cells #[.int .i64 n, .slice a 0 cap, vB, vC] 40)).cell? ⟨w.heap.size, 1, none⟩ = some (.slice a 0 cap) := by simp
  have HX1 := hid hx1
  clear hx1
  go_enter Tryd.func25, Tryd.ntmps25
  go_wp2_with fail
  generalize w.alloc (.cells #[.int .i64 n, .slice a 0 cap, vB, vC] 40) = w1 at HX1 HL1 HS ⊢
  have hx1 := HX1.out
  go_loopw [5, 6] (fun c i wr => i = .int .i64 0 ∧ c = .int .i64 0 ∧ wr = w1) (fun _ _ _ => 0)
  case atStart => exact ⟨rfl, rfl, rfl⟩
  case round =>
    obtain ⟨rfl, rfl, rfl⟩ := hrel
    go_wp2_with (go_at_call 23; refine HS.out.mono ?_; rintro e w9 ⟨rfl, hww⟩; subst hww)
    go_ret
    exact ⟨rfl, HL1.out⟩
theorem counted_any (n p q : Nat) (zs : List Int) (vA vB vC : Value) (w : World) (hn : n ≤ 65536) (hreach : zs.length * 8 ≤ 140737488351232) (hi : Ints w vA zs) (hs : SetAt w p q n (sOf n zs)) :
    Calls Tryd.prog 25 #[.agg #[.int .i64 n, vA, vB, vC], .pointer (some ⟨p, 0, none⟩)] w fun e w' => e = .returned (.bool true) ∧ Below w.heap.size w w' := by
  rcases hi with ⟨a, cap, rfl, rfl⟩ | ⟨b, off, cap, rfl, hb, hc⟩
  · exact counted_nil n cap p q a vB vC w hs
  · exact counted_some n b off cap p q zs vB vC w hn hreach hc hb hs
set_option maxRecDepth 100000 in
set_option maxHeartbeats 1000000 in
theorem algebra_out (N : Int) (vA vB vC : Value) (w : World) (ht : Tab w) (hN : ¬ (0 ≤ N ∧ N ≤ 65536)) :
    Calls Tryd.prog 4 #[.agg #[.int .i64 N, vA, vB, vC]] w fun e w' => e = .returned (.bool true) ∧ Below w.heap.size w w' := by
  have HN := hid hN
  have HT := hid ht
  clear hN ht
  go_enter Tryd.func4, Tryd.ntmps4
  go_wp2_with fail
  refine (begin_all N vA vB vC w HT.out).mono ?_
  rintro e w1 ⟨rfl, hx, hb, _⟩
  have hx0 := hx.c0
  have HB := hid hb
  clear hx hb
  go_wp2_with fail
  refine (sized_no _ _ HN.out).mono ?_
  rintro e w2 ⟨rfl, hww⟩
  subst hww
  go_wp2_with fail
  refine (new_no _ _ HN.out).mono ?_
  rintro e w3 ⟨rfl, hww⟩
  subst hww
  go_wp2_with fail
  refine (num_any _ _).mono ?_
  rintro e w4 ⟨rfl, hww⟩
  subst hww
  go_wp2_with fail
  go_ret
  exact ⟨rfl, HB.out⟩
set_option maxRecDepth 100000 in
set_option maxHeartbeats 8000000 in
theorem algebra_in (n : Nat) (vA vB vC : Value) (zA zB zC : List Int) (w : World) (ht : Tab w) (hn : n ≤ 65536) (iA : Ints w vA zA) (iB : Ints w vB zB) (iC : Ints w vC zC)
    (rA : zA.length * 8 ≤ 140737488351232) (rB : zB.length * 8 ≤ 140737488351232) (rC : zC.length * 8 ≤ 140737488351232) :
    Calls Tryd.prog 4 #[.agg #[.int .i64 n, vA, vB, vC]] w fun e w' => e = .returned (.bool true) ∧ Below w.heap.size w w' := by
  have HT := hid ht
  have HA := hid iA
  have HB := hid iB
  have HC := hid iC
  have hn0 : 0 ≤ (n : Int) := by omega
  have hn1 : (n : Int) ≤ 65536 := by omega
  have HRA := hid rA
  have HRB := hid rB
  have HRC := hid rC
  clear ht iA iB iC rA rB rC
  obtain ⟨b1, hb1⟩ := bool_of (∀ i, sOf n zA i = true → sOf n zB i = true)
  have HB1 := hid hb1
  have HB2 := hid (show b1 = true ↔ ∀ i, (sOf n zA i && sOf n zB i) = sOf n zA i from hb1.trans ⟨fun h i => by
    have := h i
    cases e : sOf n zA i <;> simp_all, fun h i hi => by
    have := h i
    rw [hi] at this
    simpa using this⟩)
  obtain ⟨b2, hb2⟩ := bool_of (∃ i, sOf n zA i = true ∧ sOf n zB i = true)
  have HB3 := hid hb2
  obtain ⟨b4, hb4⟩ := bool_of (∀ i, sOf n zB i = true → sOf n zA i = true)
  have HB4 := hid hb4
  obtain ⟨b3, hb3⟩ := bool_of (∀ i, sOf n zA i = sOf n zB i)
  have HB5 := hid hb3
  have H34 := hid (show b3 = (b1 && b4) from by
    rw [Bool.eq_iff_iff, Bool.and_eq_true, hb3, hb1, hb4]
    constructor
    · intro h
      exact ⟨fun i hi => by rw [← h i]; exact hi, fun i hi => by rw [h i]; exact hi⟩
    · rintro ⟨h, k⟩ i
      have a := h i
      have b := k i
      cases e1 : sOf n zA i <;> cases e2 : sOf n zB i <;> simp_all)
  obtain ⟨k1, hk1⟩ : ∃ c, card n (fun i => sOf n zA i || sOf n zB i) = c := ⟨_, rfl⟩
  obtain ⟨k2, hk2⟩ : ∃ c, card n (fun i => sOf n zA i && sOf n zB i) = c := ⟨_, rfl⟩
  obtain ⟨k3, hk3⟩ : ∃ c, card n (sOf n zA) = c := ⟨_, rfl⟩
  obtain ⟨k4, hk4⟩ : ∃ c, card n (sOf n zB) = c := ⟨_, rfl⟩
  have l1 : k1 ≤ 65536 := by rw [← hk1]; exact Nat.le_trans (card_le _ _) hn
  have l2 : k2 ≤ 65536 := by rw [← hk2]; exact Nat.le_trans (card_le _ _) hn
  have l3 : k3 ≤ 65536 := by rw [← hk3]; exact Nat.le_trans (card_le _ _) hn
  have l4 : k4 ≤ 65536 := by rw [← hk4]; exact Nat.le_trans (card_le _ _) hn
  have hsum : ((k1 : Int) + (k2 : Int) != (k3 : Int) + (k4 : Int)) = false := by
    have := card_or_and (sOf n zA) (sOf n zB) n
    rw [hk1, hk2, hk3, hk4] at this
    simp only [bne_eq_false_iff_eq]
    omega
  have HPOS := hid (show (∃ i, sOf n zA i = true ∧ sOf n zB i = true) → 0 < k2 from by
    rintro ⟨i, a, b⟩
    apply Classical.byContradiction
    intro c
    have hz : card n (fun i => sOf n zA i && sOf n zB i) = 0 := by omega
    have hi : i < n := by
      have := inU_mem n zA zA.length i (by simpa [sOf] using a)
      omega
    have := (card_zero_iff _ n).1 hz i hi
    rw [a, b] at this
    cases this)
  have HPOS2 := hid (show 0 < k2 → ∃ i, sOf n zA i = true ∧ sOf n zB i = true from by
    intro h
    apply Classical.byContradiction
    intro c
    have : card n (fun i => sOf n zA i && sOf n zB i) = 0 := (card_zero_iff _ n).2 (fun i _ => by
      cases e1 : sOf n zA i
      · rfl
      · cases e2 : sOf n zB i
        · rfl
        · exact absurd ⟨i, e1, e2⟩ c)
    omega)
  have hdec : decide ((0 : Int) < (k2 : Int)) = b2 := by
    rw [Bool.eq_iff_iff, hb2, decide_eq_true_iff]
    exact ⟨fun h => HPOS2.out (by omega), fun h => by have := HPOS.out h; omega⟩
  have hdec2 : decide (0 < k2) = b2 := by
    rw [Bool.eq_iff_iff, hb2, decide_eq_true_iff]
    exact ⟨HPOS2.out, HPOS.out⟩
  have HC1 := hid hk1
  have HC2 := hid hk2
  have HC3 := hid hk3
  have HC4 := hid hk4
  have HC5 := hid hk2
  clear hb1 hb2 hb3 hb4 hk1 hk2 hk3 hk4 HPOS HPOS2
  go_enter Tryd.func4, Tryd.ntmps4
  go_wp2_with fail
  refine (begin_all n vA vB vC w HT.out).mono ?_
  rintro e w1 ⟨rfl, hx, hb1, hs1⟩
  have hx0 := hx.c0
  have hx1 := hx.c1
  have hx2 := hx.c2
  have hx3 := hx.c3
  have X1 := hid hx
  have B1 := hid hb1
  clear hx hb1 hs1
  go_wp2_with fail
  refine (sized_yes _ _ hn0 hn1).mono ?_
  rintro e w2 ⟨rfl, hww⟩
  subst hww
  go_wp2_with fail
  go_region_held3 (fun W => W.cell? ⟨w.heap.size, 0, none⟩ = some (.int .i64 n) ∧ W.cell? ⟨w.heap.size, 1, none⟩ = some vA ∧ W.cell? ⟨w.heap.size, 2, none⟩ = some vB ∧ W.cell? ⟨w.heap.size, 3, none⟩ = some vC)
    (first | exact ⟨hx0, hx1, hx2, hx3⟩ | exact ⟨xC.c0, xC.c1, xC.c2, xC.c3⟩ | exact ⟨xB.c0, xB.c1, xB.c2, xB.c3⟩ | exact ⟨xA.c0, xA.c1, xA.c2, xA.c3⟩)
    (first
      | (go_at_call_of 14 vA; refine (of_new n vA zA _ hn HRA.out ?_).mono ?_; exact HA.out.low B1.out.drew; rintro e w3 ⟨pa, qa, rfl, fA⟩; have xA := X1.out.drew.low fA.low)
      | (go_at_call_of 14 vB; refine (of_new n vB zB _ hn HRB.out ?_).mono ?_; exact (HB.out.low B1.out.drew).low fA.low; rintro e w4 ⟨pb, qb, rfl, fB⟩; have xB := xA.low fB.low)
      | (go_at_call_of 14 vC; refine (of_new n vC zC _ hn HRC.out ?_).mono ?_; exact ((HC.out.low B1.out.drew).low fA.low).low fB.low; rintro e w5 ⟨pc, qc, rfl, fC⟩; have xC := xB.low fC.low))
  have sA : SetAt w5 pa qa n (sOf n zA) := (fA.at'.low fB.low).low fC.low
  have sB : SetAt w5 pb qb n (sOf n zB) := fB.at'.low fC.low
  have b5 : Below w.heap.size w w5 := belowT (belowT (belowT B1.out.drew fA.low) fB.low) fC.low
  have TA := hid sA
  have TB := hid sB
  have TC := hid fC.at'
  have X5 := hid xC
  have B5 := hid b5
  clear sA sB b5 xC xB xA fA fB fC X1 hx0 hx1 hx2 hx3 B1
  go_wp2_with fail
  refine (all_three w5 _ _ _).mono ?_
  rintro e w7 ⟨rfl, hw7⟩
  have b67 : Below w5.heap.size w5 w7 := by rw [hw7]; exact lowAlloc _ _
  have SA := hid (TA.out.low b67)
  have SB := hid (TB.out.low b67)
  have SC := hid (TC.out.low b67)
  have X7 := hid (X5.out.low b67)
  have B7 := hid (belowT B5.out b67)
  clear hw7 b67 TA TB TC X5 B5
  go_wp2_with fail
  refine (or_new _ SA.out SB.out).mono ?_
  rintro e v1 ⟨p1, q1, rfl, f1⟩
  have F1 := hid f1
  clear f1
  go_wp2_with fail
  refine (not_new _ F1.out.at' (SC.out.low F1.out.low)).mono ?_
  rintro e v2 ⟨p2, q2, rfl, f2⟩
  have F2 := hid f2
  clear f2
  go_wp2_with fail
  refine (not_new _ ((SA.out.low F1.out.low).low F2.out.low) ((SC.out.low F1.out.low).low F2.out.low)).mono ?_
  rintro e v3 ⟨p3, q3, rfl, f3⟩
  have F3 := hid f3
  clear f3
  go_wp2_with fail
  refine (not_new _ (((SB.out.low F1.out.low).low F2.out.low).low F3.out.low) (((SC.out.low F1.out.low).low F2.out.low).low F3.out.low)).mono ?_
  rintro e v4 ⟨p4, q4, rfl, f4⟩
  have F4 := hid f4
  clear f4
  go_wp2_with fail
  refine (and_new _ (F3.out.at'.low F4.out.low) F4.out.at').mono ?_
  rintro e v5 ⟨p5, q5, rfl, f5⟩
  have F5 := hid f5
  clear f5
  go_wp2_with fail
  refine (equal_yes _ (((F2.out.at'.low F3.out.low).low F4.out.low).low F5.out.low) F5.out.at' (fun i => by cases sOf n zA i <;> cases sOf n zB i <;> cases sOf n zC i <;> rfl)).mono ?_
  rintro e vv ⟨rfl, hww⟩
  subst hww
  go_wp2_with fail
  refine (and_new _ (((((SA.out.low F1.out.low).low F2.out.low).low F3.out.low).low F4.out.low).low F5.out.low) (((((SB.out.low F1.out.low).low F2.out.low).low F3.out.low).low F4.out.low).low F5.out.low)).mono ?_
  rintro e v6 ⟨p6, q6, rfl, f6⟩
  have F6 := hid f6
  clear f6
  go_wp2_with fail
  refine (not_new _ F6.out.at' ((((((SC.out.low F1.out.low).low F2.out.low).low F3.out.low).low F4.out.low).low F5.out.low).low F6.out.low)).mono ?_
  rintro e v7 ⟨p7, q7, rfl, f7⟩
  have F7 := hid f7
  clear f7
  go_wp2_with fail
  refine (not_new _ (((((((SA.out.low F1.out.low).low F2.out.low).low F3.out.low).low F4.out.low).low F5.out.low).low F6.out.low).low F7.out.low) (((((((SC.out.low F1.out.low).low F2.out.low).low F3.out.low).low F4.out.low).low F5.out.low).low F6.out.low).low F7.out.low)).mono ?_
  rintro e v8 ⟨p8, q8, rfl, f8⟩
  have F8 := hid f8
  clear f8
  go_wp2_with fail
  refine (not_new _ ((((((((SB.out.low F1.out.low).low F2.out.low).low F3.out.low).low F4.out.low).low F5.out.low).low F6.out.low).low F7.out.low).low F8.out.low) ((((((((SC.out.low F1.out.low).low F2.out.low).low F3.out.low).low F4.out.low).low F5.out.low).low F6.out.low).low F7.out.low).low F8.out.low)).mono ?_
  rintro e v9 ⟨p9, q9, rfl, f9⟩
  have F9 := hid f9
  clear f9
  go_wp2_with fail
  refine (or_new _ (F8.out.at'.low F9.out.low) F9.out.at').mono ?_
  rintro e v10 ⟨p10, q10, rfl, f10⟩
  have F10 := hid f10
  clear f10
  go_wp2_with fail
  refine (equal_yes _ (((F7.out.at'.low F8.out.low).low F9.out.low).low F10.out.low) F10.out.at' (fun i => by cases sOf n zA i <;> cases sOf n zB i <;> cases sOf n zC i <;> rfl)).mono ?_
  rintro e vv ⟨rfl, hww⟩
  subst hww
  go_wp2_with fail
  refine (or_new _ ((((((((((SB.out.low F1.out.low).low F2.out.low).low F3.out.low).low F4.out.low).low F5.out.low).low F6.out.low).low F7.out.low).low F8.out.low).low F9.out.low).low F10.out.low) ((((((((((SC.out.low F1.out.low).low F2.out.low).low F3.out.low).low F4.out.low).low F5.out.low).low F6.out.low).low F7.out.low).low F8.out.low).low F9.out.low).low F10.out.low)).mono ?_
  rintro e v11 ⟨p11, q11, rfl, f11⟩
  have F11 := hid f11
  clear f11
  go_wp2_with fail
  refine (and_new _ (((((((((((SA.out.low F1.out.low).low F2.out.low).low F3.out.low).low F4.out.low).low F5.out.low).low F6.out.low).low F7.out.low).low F8.out.low).low F9.out.low).low F10.out.low).low F11.out.low) F11.out.at').mono ?_
  rintro e v12 ⟨p12, q12, rfl, f12⟩
  have F12 := hid f12
  clear f12
  go_wp2_with fail
  refine (and_new _ ((((((((((((SA.out.low F1.out.low).low F2.out.low).low F3.out.low).low F4.out.low).low F5.out.low).low F6.out.low).low F7.out.low).low F8.out.low).low F9.out.low).low F10.out.low).low F11.out.low).low F12.out.low) ((((((((((((SB.out.low F1.out.low).low F2.out.low).low F3.out.low).low F4.out.low).low F5.out.low).low F6.out.low).low F7.out.low).low F8.out.low).low F9.out.low).low F10.out.low).low F11.out.low).low F12.out.low)).mono ?_
  rintro e v13 ⟨p13, q13, rfl, f13⟩
  have F13 := hid f13
  clear f13
  go_wp2_with fail
  refine (and_new _ (((((((((((((SA.out.low F1.out.low).low F2.out.low).low F3.out.low).low F4.out.low).low F5.out.low).low F6.out.low).low F7.out.low).low F8.out.low).low F9.out.low).low F10.out.low).low F11.out.low).low F12.out.low).low F13.out.low) (((((((((((((SC.out.low F1.out.low).low F2.out.low).low F3.out.low).low F4.out.low).low F5.out.low).low F6.out.low).low F7.out.low).low F8.out.low).low F9.out.low).low F10.out.low).low F11.out.low).low F12.out.low).low F13.out.low)).mono ?_
  rintro e v14 ⟨p14, q14, rfl, f14⟩
  have F14 := hid f14
  clear f14
  go_wp2_with fail
  refine (or_new _ (F13.out.at'.low F14.out.low) F14.out.at').mono ?_
  rintro e v15 ⟨p15, q15, rfl, f15⟩
  have F15 := hid f15
  clear f15
  go_wp2_with fail
  refine (equal_yes _ (((F12.out.at'.low F13.out.low).low F14.out.low).low F15.out.low) F15.out.at' (fun i => by cases sOf n zA i <;> cases sOf n zB i <;> cases sOf n zC i <;> rfl)).mono ?_
  rintro e vv ⟨rfl, hww⟩
  subst hww
  go_wp2_with fail
  refine (xor_new _ (((((((((((((((SA.out.low F1.out.low).low F2.out.low).low F3.out.low).low F4.out.low).low F5.out.low).low F6.out.low).low F7.out.low).low F8.out.low).low F9.out.low).low F10.out.low).low F11.out.low).low F12.out.low).low F13.out.low).low F14.out.low).low F15.out.low) (((((((((((((((SB.out.low F1.out.low).low F2.out.low).low F3.out.low).low F4.out.low).low F5.out.low).low F6.out.low).low F7.out.low).low F8.out.low).low F9.out.low).low F10.out.low).low F11.out.low).low F12.out.low).low F13.out.low).low F14.out.low).low F15.out.low)).mono ?_
  rintro e v16 ⟨p16, q16, rfl, f16⟩
  have F16 := hid f16
  clear f16
  go_wp2_with fail
  refine (or_new _ ((((((((((((((((SA.out.low F1.out.low).low F2.out.low).low F3.out.low).low F4.out.low).low F5.out.low).low F6.out.low).low F7.out.low).low F8.out.low).low F9.out.low).low F10.out.low).low F11.out.low).low F12.out.low).low F13.out.low).low F14.out.low).low F15.out.low).low F16.out.low) ((((((((((((((((SB.out.low F1.out.low).low F2.out.low).low F3.out.low).low F4.out.low).low F5.out.low).low F6.out.low).low F7.out.low).low F8.out.low).low F9.out.low).low F10.out.low).low F11.out.low).low F12.out.low).low F13.out.low).low F14.out.low).low F15.out.low).low F16.out.low)).mono ?_
  rintro e v17 ⟨p17, q17, rfl, f17⟩
  have F17 := hid f17
  clear f17
  go_wp2_with fail
  refine (and_new _ (((((((((((((((((SA.out.low F1.out.low).low F2.out.low).low F3.out.low).low F4.out.low).low F5.out.low).low F6.out.low).low F7.out.low).low F8.out.low).low F9.out.low).low F10.out.low).low F11.out.low).low F12.out.low).low F13.out.low).low F14.out.low).low F15.out.low).low F16.out.low).low F17.out.low) (((((((((((((((((SB.out.low F1.out.low).low F2.out.low).low F3.out.low).low F4.out.low).low F5.out.low).low F6.out.low).low F7.out.low).low F8.out.low).low F9.out.low).low F10.out.low).low F11.out.low).low F12.out.low).low F13.out.low).low F14.out.low).low F15.out.low).low F16.out.low).low F17.out.low)).mono ?_
  rintro e v18 ⟨p18, q18, rfl, f18⟩
  have F18 := hid f18
  clear f18
  go_wp2_with fail
  refine (andnot_new _ (F17.out.at'.low F18.out.low) F18.out.at').mono ?_
  rintro e v19 ⟨p19, q19, rfl, f19⟩
  have F19 := hid f19
  clear f19
  go_wp2_with fail
  refine (equal_yes _ (((F16.out.at'.low F17.out.low).low F18.out.low).low F19.out.low) F19.out.at' (fun i => by cases sOf n zA i <;> cases sOf n zB i <;> cases sOf n zC i <;> rfl)).mono ?_
  rintro e vv ⟨rfl, hww⟩
  subst hww
  go_wp2_with fail
  refine (not_new _ (((((((((((((((((((SA.out.low F1.out.low).low F2.out.low).low F3.out.low).low F4.out.low).low F5.out.low).low F6.out.low).low F7.out.low).low F8.out.low).low F9.out.low).low F10.out.low).low F11.out.low).low F12.out.low).low F13.out.low).low F14.out.low).low F15.out.low).low F16.out.low).low F17.out.low).low F18.out.low).low F19.out.low) (((((((((((((((((((SC.out.low F1.out.low).low F2.out.low).low F3.out.low).low F4.out.low).low F5.out.low).low F6.out.low).low F7.out.low).low F8.out.low).low F9.out.low).low F10.out.low).low F11.out.low).low F12.out.low).low F13.out.low).low F14.out.low).low F15.out.low).low F16.out.low).low F17.out.low).low F18.out.low).low F19.out.low)).mono ?_
  rintro e v20 ⟨p20, q20, rfl, f20⟩
  have F20 := hid f20
  clear f20
  go_wp2_with fail
  refine (not_new _ F20.out.at' ((((((((((((((((((((SC.out.low F1.out.low).low F2.out.low).low F3.out.low).low F4.out.low).low F5.out.low).low F6.out.low).low F7.out.low).low F8.out.low).low F9.out.low).low F10.out.low).low F11.out.low).low F12.out.low).low F13.out.low).low F14.out.low).low F15.out.low).low F16.out.low).low F17.out.low).low F18.out.low).low F19.out.low).low F20.out.low)).mono ?_
  rintro e v21 ⟨p21, q21, rfl, f21⟩
  have F21 := hid f21
  clear f21
  go_wp2_with fail
  refine (and_new _ (((((((((((((((((((((SA.out.low F1.out.low).low F2.out.low).low F3.out.low).low F4.out.low).low F5.out.low).low F6.out.low).low F7.out.low).low F8.out.low).low F9.out.low).low F10.out.low).low F11.out.low).low F12.out.low).low F13.out.low).low F14.out.low).low F15.out.low).low F16.out.low).low F17.out.low).low F18.out.low).low F19.out.low).low F20.out.low).low F21.out.low) (((((((((((((((((((((SC.out.low F1.out.low).low F2.out.low).low F3.out.low).low F4.out.low).low F5.out.low).low F6.out.low).low F7.out.low).low F8.out.low).low F9.out.low).low F10.out.low).low F11.out.low).low F12.out.low).low F13.out.low).low F14.out.low).low F15.out.low).low F16.out.low).low F17.out.low).low F18.out.low).low F19.out.low).low F20.out.low).low F21.out.low)).mono ?_
  rintro e v22 ⟨p22, q22, rfl, f22⟩
  have F22 := hid f22
  clear f22
  go_wp2_with fail
  refine (equal_yes _ (F21.out.at'.low F22.out.low) F22.out.at' (fun i => by cases sOf n zA i <;> cases sOf n zB i <;> cases sOf n zC i <;> rfl)).mono ?_
  rintro e vv ⟨rfl, hww⟩
  subst hww
  go_wp2_with fail
  refine (andnot_new _ ((((((((((((((((((((((SA.out.low F1.out.low).low F2.out.low).low F3.out.low).low F4.out.low).low F5.out.low).low F6.out.low).low F7.out.low).low F8.out.low).low F9.out.low).low F10.out.low).low F11.out.low).low F12.out.low).low F13.out.low).low F14.out.low).low F15.out.low).low F16.out.low).low F17.out.low).low F18.out.low).low F19.out.low).low F20.out.low).low F21.out.low).low F22.out.low) ((((((((((((((((((((((SB.out.low F1.out.low).low F2.out.low).low F3.out.low).low F4.out.low).low F5.out.low).low F6.out.low).low F7.out.low).low F8.out.low).low F9.out.low).low F10.out.low).low F11.out.low).low F12.out.low).low F13.out.low).low F14.out.low).low F15.out.low).low F16.out.low).low F17.out.low).low F18.out.low).low F19.out.low).low F20.out.low).low F21.out.low).low F22.out.low)).mono ?_
  rintro e v23 ⟨p23, q23, rfl, f23⟩
  have F23 := hid f23
  clear f23
  go_wp2_with fail
  refine (meets_no _ F23.out.at' (((((((((((((((((((((((SB.out.low F1.out.low).low F2.out.low).low F3.out.low).low F4.out.low).low F5.out.low).low F6.out.low).low F7.out.low).low F8.out.low).low F9.out.low).low F10.out.low).low F11.out.low).low F12.out.low).low F13.out.low).low F14.out.low).low F15.out.low).low F16.out.low).low F17.out.low).low F18.out.low).low F19.out.low).low F20.out.low).low F21.out.low).low F22.out.low).low F23.out.low) (fun i => by cases sOf n zA i <;> cases sOf n zB i <;> simp)).mono ?_
  rintro e vm ⟨rfl, lm⟩
  have LM := hid lm
  clear lm
  go_wp2_with fail
  refine (or_new _ ((((((((((((((((((((((((SA.out.low F1.out.low).low F2.out.low).low F3.out.low).low F4.out.low).low F5.out.low).low F6.out.low).low F7.out.low).low F8.out.low).low F9.out.low).low F10.out.low).low F11.out.low).low F12.out.low).low F13.out.low).low F14.out.low).low F15.out.low).low F16.out.low).low F17.out.low).low F18.out.low).low F19.out.low).low F20.out.low).low F21.out.low).low F22.out.low).low F23.out.low).low LM.out) ((((((((((((((((((((((((SB.out.low F1.out.low).low F2.out.low).low F3.out.low).low F4.out.low).low F5.out.low).low F6.out.low).low F7.out.low).low F8.out.low).low F9.out.low).low F10.out.low).low F11.out.low).low F12.out.low).low F13.out.low).low F14.out.low).low F15.out.low).low F16.out.low).low F17.out.low).low F18.out.low).low F19.out.low).low F20.out.low).low F21.out.low).low F22.out.low).low F23.out.low).low LM.out)).mono ?_
  rintro e v24 ⟨p24, q24, rfl, f24⟩
  have F24 := hid f24
  clear f24
  go_wp2_with fail
  have c1 := count_set _ F24.out.at'
  have C1 := hid (count_to (Nat.max_self n) c1 HC1.out)
  clear c1
  refine C1.out.mono ?_
  rintro e vv ⟨rfl, hww⟩
  subst hww
  go_wp2_with fail
  refine (and_new _ (((((((((((((((((((((((((SA.out.low F1.out.low).low F2.out.low).low F3.out.low).low F4.out.low).low F5.out.low).low F6.out.low).low F7.out.low).low F8.out.low).low F9.out.low).low F10.out.low).low F11.out.low).low F12.out.low).low F13.out.low).low F14.out.low).low F15.out.low).low F16.out.low).low F17.out.low).low F18.out.low).low F19.out.low).low F20.out.low).low F21.out.low).low F22.out.low).low F23.out.low).low LM.out).low F24.out.low) (((((((((((((((((((((((((SB.out.low F1.out.low).low F2.out.low).low F3.out.low).low F4.out.low).low F5.out.low).low F6.out.low).low F7.out.low).low F8.out.low).low F9.out.low).low F10.out.low).low F11.out.low).low F12.out.low).low F13.out.low).low F14.out.low).low F15.out.low).low F16.out.low).low F17.out.low).low F18.out.low).low F19.out.low).low F20.out.low).low F21.out.low).low F22.out.low).low F23.out.low).low LM.out).low F24.out.low)).mono ?_
  rintro e v25 ⟨p25, q25, rfl, f25⟩
  have F25 := hid f25
  clear f25
  go_wp2_with fail
  have c2 := count_set _ F25.out.at'
  have C2 := hid (count_to (Nat.max_self n) c2 HC2.out)
  clear c2
  refine C2.out.mono ?_
  rintro e vv ⟨rfl, hww⟩
  subst hww
  go_wp2_with fail
  have c3 := count_set _ ((((((((((((((((((((((((((SA.out.low F1.out.low).low F2.out.low).low F3.out.low).low F4.out.low).low F5.out.low).low F6.out.low).low F7.out.low).low F8.out.low).low F9.out.low).low F10.out.low).low F11.out.low).low F12.out.low).low F13.out.low).low F14.out.low).low F15.out.low).low F16.out.low).low F17.out.low).low F18.out.low).low F19.out.low).low F20.out.low).low F21.out.low).low F22.out.low).low F23.out.low).low LM.out).low F24.out.low).low F25.out.low)
  have C3 := hid (count_to (rfl) c3 HC3.out)
  clear c3
  refine C3.out.mono ?_
  rintro e vv ⟨rfl, hww⟩
  subst hww
  go_wp2_with fail
  have c4 := count_set _ ((((((((((((((((((((((((((SB.out.low F1.out.low).low F2.out.low).low F3.out.low).low F4.out.low).low F5.out.low).low F6.out.low).low F7.out.low).low F8.out.low).low F9.out.low).low F10.out.low).low F11.out.low).low F12.out.low).low F13.out.low).low F14.out.low).low F15.out.low).low F16.out.low).low F17.out.low).low F18.out.low).low F19.out.low).low F20.out.low).low F21.out.low).low F22.out.low).low F23.out.low).low LM.out).low F24.out.low).low F25.out.low)
  have C4 := hid (count_to (rfl) c4 HC4.out)
  clear c4
  refine C4.out.mono ?_
  rintro e vv ⟨rfl, hww⟩
  subst hww
  go_wp2_with fail
  refine (subset_is b1 _ ((((((((((((((((((((((((((SA.out.low F1.out.low).low F2.out.low).low F3.out.low).low F4.out.low).low F5.out.low).low F6.out.low).low F7.out.low).low F8.out.low).low F9.out.low).low F10.out.low).low F11.out.low).low F12.out.low).low F13.out.low).low F14.out.low).low F15.out.low).low F16.out.low).low F17.out.low).low F18.out.low).low F19.out.low).low F20.out.low).low F21.out.low).low F22.out.low).low F23.out.low).low LM.out).low F24.out.low).low F25.out.low) ((((((((((((((((((((((((((SB.out.low F1.out.low).low F2.out.low).low F3.out.low).low F4.out.low).low F5.out.low).low F6.out.low).low F7.out.low).low F8.out.low).low F9.out.low).low F10.out.low).low F11.out.low).low F12.out.low).low F13.out.low).low F14.out.low).low F15.out.low).low F16.out.low).low F17.out.low).low F18.out.low).low F19.out.low).low F20.out.low).low F21.out.low).low F22.out.low).low F23.out.low).low LM.out).low F24.out.low).low F25.out.low) HB1.out).mono ?_
  rintro e vv ⟨rfl, hww⟩
  subst hww
  go_wp2_with fail
  refine (and_new _ ((((((((((((((((((((((((((SA.out.low F1.out.low).low F2.out.low).low F3.out.low).low F4.out.low).low F5.out.low).low F6.out.low).low F7.out.low).low F8.out.low).low F9.out.low).low F10.out.low).low F11.out.low).low F12.out.low).low F13.out.low).low F14.out.low).low F15.out.low).low F16.out.low).low F17.out.low).low F18.out.low).low F19.out.low).low F20.out.low).low F21.out.low).low F22.out.low).low F23.out.low).low LM.out).low F24.out.low).low F25.out.low) ((((((((((((((((((((((((((SB.out.low F1.out.low).low F2.out.low).low F3.out.low).low F4.out.low).low F5.out.low).low F6.out.low).low F7.out.low).low F8.out.low).low F9.out.low).low F10.out.low).low F11.out.low).low F12.out.low).low F13.out.low).low F14.out.low).low F15.out.low).low F16.out.low).low F17.out.low).low F18.out.low).low F19.out.low).low F20.out.low).low F21.out.low).low F22.out.low).low F23.out.low).low LM.out).low F24.out.low).low F25.out.low)).mono ?_
  rintro e v26 ⟨p26, q26, rfl, f26⟩
  have F26 := hid f26
  clear f26
  go_wp2_with fail
  refine (equal_is b1 _ F26.out.at' (((((((((((((((((((((((((((SA.out.low F1.out.low).low F2.out.low).low F3.out.low).low F4.out.low).low F5.out.low).low F6.out.low).low F7.out.low).low F8.out.low).low F9.out.low).low F10.out.low).low F11.out.low).low F12.out.low).low F13.out.low).low F14.out.low).low F15.out.low).low F16.out.low).low F17.out.low).low F18.out.low).low F19.out.low).low F20.out.low).low F21.out.low).low F22.out.low).low F23.out.low).low LM.out).low F24.out.low).low F25.out.low).low F26.out.low) HB2.out).mono ?_
  rintro e vv ⟨rfl, hww⟩
  subst hww
  go_wp2_with fail
  refine (meets_is b2 _ (((((((((((((((((((((((((((SA.out.low F1.out.low).low F2.out.low).low F3.out.low).low F4.out.low).low F5.out.low).low F6.out.low).low F7.out.low).low F8.out.low).low F9.out.low).low F10.out.low).low F11.out.low).low F12.out.low).low F13.out.low).low F14.out.low).low F15.out.low).low F16.out.low).low F17.out.low).low F18.out.low).low F19.out.low).low F20.out.low).low F21.out.low).low F22.out.low).low F23.out.low).low LM.out).low F24.out.low).low F25.out.low).low F26.out.low) (((((((((((((((((((((((((((SB.out.low F1.out.low).low F2.out.low).low F3.out.low).low F4.out.low).low F5.out.low).low F6.out.low).low F7.out.low).low F8.out.low).low F9.out.low).low F10.out.low).low F11.out.low).low F12.out.low).low F13.out.low).low F14.out.low).low F15.out.low).low F16.out.low).low F17.out.low).low F18.out.low).low F19.out.low).low F20.out.low).low F21.out.low).low F22.out.low).low F23.out.low).low LM.out).low F24.out.low).low F25.out.low).low F26.out.low) HB3.out).mono ?_
  rintro e vm2 ⟨rfl, lm2⟩
  have LM2 := hid lm2
  clear lm2
  go_wp2_with fail
  refine (and_new _ ((((((((((((((((((((((((((((SA.out.low F1.out.low).low F2.out.low).low F3.out.low).low F4.out.low).low F5.out.low).low F6.out.low).low F7.out.low).low F8.out.low).low F9.out.low).low F10.out.low).low F11.out.low).low F12.out.low).low F13.out.low).low F14.out.low).low F15.out.low).low F16.out.low).low F17.out.low).low F18.out.low).low F19.out.low).low F20.out.low).low F21.out.low).low F22.out.low).low F23.out.low).low LM.out).low F24.out.low).low F25.out.low).low F26.out.low).low LM2.out) ((((((((((((((((((((((((((((SB.out.low F1.out.low).low F2.out.low).low F3.out.low).low F4.out.low).low F5.out.low).low F6.out.low).low F7.out.low).low F8.out.low).low F9.out.low).low F10.out.low).low F11.out.low).low F12.out.low).low F13.out.low).low F14.out.low).low F15.out.low).low F16.out.low).low F17.out.low).low F18.out.low).low F19.out.low).low F20.out.low).low F21.out.low).low F22.out.low).low F23.out.low).low LM.out).low F24.out.low).low F25.out.low).low F26.out.low).low LM2.out)).mono ?_
  rintro e v27 ⟨p27, q27, rfl, f27⟩
  have F27 := hid f27
  clear f27
  go_wp2_with fail
  have c5 := count_set _ F27.out.at'
  have C5 := hid (count_to (Nat.max_self n) c5 HC5.out)
  clear c5
  refine C5.out.mono ?_
  rintro e vv ⟨rfl, hww⟩
  subst hww
  have LL := hid (belowT (belowT (belowT (belowT (belowT (belowT (belowT (belowT (belowT (belowT (belowT (belowT (belowT (belowT (belowT (belowT (belowT (belowT (belowT (belowT (belowT (belowT (belowT (belowT (belowT (belowT (belowT (belowT (F1.out.low) F2.out.low) F3.out.low) F4.out.low) F5.out.low) F6.out.low) F7.out.low) F8.out.low) F9.out.low) F10.out.low) F11.out.low) F12.out.low) F13.out.low) F14.out.low) F15.out.low) F16.out.low) F17.out.low) F18.out.low) F19.out.low) F20.out.low) F21.out.low) F22.out.low) F23.out.low) LM.out) F24.out.low) F25.out.low) F26.out.low) LM2.out) F27.out.low)
  have ZA := hid (SA.out.low LL.out)
  have ZB := hid (SB.out.low LL.out)
  have X9 := hid (X7.out.low LL.out)
  have B9 := hid (belowT B7.out LL.out)
  have iA9 := hid (HA.out.low B9.out)
  have x0 := X9.out.c0
  have x1 := X9.out.c1
  have x2 := X9.out.c2
  have x3 := X9.out.c3
  cases b1
  · have e3 : b3 = false := by rw [H34.out]; rfl
    subst e3
    go_wp2_with fail
    refine (equal_is false _ ZA.out ZB.out HB5.out).mono ?_
    rintro e vv ⟨rfl, hww⟩
    subst hww
    go_wp2_with fail
    refine (subset_is false _ ZA.out ZB.out HB1.out).mono ?_
    rintro e vv ⟨rfl, hww⟩
    subst hww
    go_wp2_with fail
    refine (counted_any n _ _ zA vA vB vC _ hn HRA.out iA9.out ZA.out).mono ?_
    rintro e vz ⟨rfl, hlz⟩
    go_wp2_with fail
    go_ret
    exact ⟨rfl, belowT B9.out hlz⟩
  · have e3 : b3 = b4 := by rw [H34.out]; simp
    subst e3
    go_wp2_with fail
    refine (equal_is b3 _ ZA.out ZB.out HB5.out).mono ?_
    rintro e vv ⟨rfl, hww⟩
    subst hww
    go_wp2_with fail
    refine (subset_yes _ ZA.out ZB.out (by simpa using HB1.out)).mono ?_
    rintro e vv ⟨rfl, hww⟩
    subst hww
    go_wp2_with fail
    refine (subset_is b3 _ ZB.out ZA.out HB4.out).mono ?_
    rintro e vv ⟨rfl, hww⟩
    subst hww
    go_wp2_with fail
    refine (counted_any n _ _ zA vA vB vC _ hn HRA.out iA9.out ZA.out).mono ?_
    rintro e vz ⟨rfl, hlz⟩
    go_wp2_with fail
    go_ret
    exact ⟨rfl, belowT B9.out hlz⟩
/-- BitsetAlgebra: the law answers true, whatever x. -/
theorem algebra_all (N : Int) (vA vB vC : Value) (zA zB zC : List Int) (w : World) (ht : Tab w) (iA : Ints w vA zA) (iB : Ints w vB zB) (iC : Ints w vC zC) (rA : zA.length * 8 ≤ 140737488351232) (rB : zB.length * 8 ≤ 140737488351232) (rC : zC.length * 8 ≤ 140737488351232) :
    Calls Tryd.prog 4 #[.agg #[.int .i64 N, vA, vB, vC]] w fun e w' => e = .returned (.bool true) ∧ Below w.heap.size w w' := by
  by_cases hN : 0 ≤ N ∧ N ≤ 65536
  · obtain ⟨n, rfl⟩ := Int.eq_ofNat_of_zero_le hN.1
    exact algebra_in n vA vB vC zA zB zC w ht (by omega) iA iB iC rA rB rC
  · exact algebra_out N vA vB vC w ht hN
end Go.Proofs.YtkagdmhijjfnnaaDoor
