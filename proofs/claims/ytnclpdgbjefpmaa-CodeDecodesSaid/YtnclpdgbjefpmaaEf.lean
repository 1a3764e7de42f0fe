import Derived.Test.YtnclpdgbjefpmaaEe
namespace Go.Proofs.Ytnclpdgbjefpmaa.L
open Go.RowKit
set_option linter.unusedVariables false
set_option linter.unusedSimpArgs false
/-- No difference in the first ones. -/
def alikeT {α : Type} (lt : α → α → Bool) (A B : List α) (d : α) (k : Nat) : Prop := ∀ j, j < k → lt (A.getD j d) (B.getD j d) = false ∧ lt (B.getD j d) (A.getD j d) = false
theorem ltL_drop {α : Type} (lt : α → α → Bool) (d : α) : ∀ (k : Nat) (A B : List α), k ≤ A.length → k ≤ B.length → alikeT lt A B d k → ltL lt A B = ltL lt (A.drop k) (B.drop k)
  | 0, A, B, _, _, _ => rfl
  | k + 1, [], B, h, _, _ => by cases h
  | k + 1, x :: A, [], _, h, _ => by cases h
  | k + 1, x :: A, y :: B, h1, h2, h => by
    have h0 : lt x y = false ∧ lt y x = false := h 0 (by omega)
    rw [List.drop_succ_cons, List.drop_succ_cons, ← ltL_drop lt d k A B (by simpa using h1) (by simpa using h2) (fun j hj => h (j + 1) (by omega))]
    rw [ltL, h0.1, h0.2]
    rfl
theorem drop_at {α : Type} (A : List α) (d : α) (k : Nat) (h : k < A.length) : A.drop k = A.getD k d :: A.drop (k + 1) := by
  rw [List.drop_eq_getElem_cons h, List.getD_eq_getElem?_getD, List.getElem?_eq_getElem h]
  rfl
theorem ltL_yes {α : Type} {lt : α → α → Bool} {d : α} {k : Nat} {A B : List α} (h1 : k < A.length) (h2 : k < B.length) (h : alikeT lt A B d k) (hl : lt (A.getD k d) (B.getD k d) = true) : ltL lt A B = true := by
  rw [ltL_drop lt d k A B (by omega) (by omega) h, drop_at A d k h1, drop_at B d k h2, ltL, hl]
  rfl
theorem ltL_no {α : Type} {lt : α → α → Bool} {d : α} {k : Nat} {A B : List α} (h1 : k < A.length) (h2 : k < B.length) (h : alikeT lt A B d k) (hl : lt (A.getD k d) (B.getD k d) = false) (hr : lt (B.getD k d) (A.getD k d) = true) : ltL lt A B = false := by
  rw [ltL_drop lt d k A B (by omega) (by omega) h, drop_at A d k h1, drop_at B d k h2, ltL, hl, hr]
  rfl
theorem ltL_end {α : Type} {lt : α → α → Bool} {d : α} {k : Nat} {A B : List α} (h1 : k ≤ A.length) (h2 : k ≤ B.length) (h : alikeT lt A B d k) (he : k = A.length ∨ k = B.length) : ltL lt A B = decide (A.length < B.length) := by
  rw [ltL_drop lt d k A B h1 h2 h]
  rcases he with rfl | rfl
  · rw [List.drop_length]
    by_cases hl : A.length < B.length
    · rw [drop_at B d _ hl, ltL]
      simpa using hl
    · rw [show B.drop A.length = [] from List.drop_eq_nil_of_le (by omega), ltL]
      simpa using hl
  · rw [List.drop_length]
    rw [show decide (A.length < B.length) = false by simp; omega]
    cases hA : A.drop B.length with
    | nil => rfl
    | cons x r => rfl
set_option maxHeartbeats 4000000 in
theorem slcmp_s {α : Type} (inj : α → Value) (d : α) (lt : α → α → Bool) (A B : List α) (a b : Option Addr) (ca cb : Nat) (w : World) (hA : A.length ≤ 140737488355328) (hB : B.length ≤ 140737488355328) (hRA : RdV w a (A.map inj)) (hRB : RdV w b (B.map inj))
    (hC : ∀ x y, Calls Try.prog 43 #[inj x, inj y] w fun e w' => e = .returned (.int .i64 (cmpV lt x y)) ∧ w' = w) :
    Calls Try.prog 49 #[.slice a A.length ca, .slice b B.length cb] w fun e w' => ∃ z, e = .returned (.int .i64 z) ∧ (z < 0 ↔ ltL lt A B = true) ∧ w' = w := by
  obtain ⟨L, hL⟩ : ∃ L, L = A.length := ⟨_, rfl⟩
  obtain ⟨M, hM⟩ : ∃ M, M = B.length := ⟨_, rfl⟩
  have HCmp := hid hC
  have HRA := hid (show L = 0 ∨ ∃ b off, a = some ⟨b, off, none⟩ ∧ ∀ j, j < L → w.cell? ⟨b, off + j, none⟩ = some (inj (A.getD j d)) from by
    rcases hRA with h | ⟨g, off, e, _, h⟩
    · exact Or.inl (by simpa [hL] using h)
    · exact Or.inr ⟨g, off, e, fun j hj => by rw [h j (by simpa [hL] using hj), getD_map inj A d j (by omega)]⟩)
  have HRB := hid (show M = 0 ∨ ∃ g off, b = some ⟨g, off, none⟩ ∧ ∀ j, j < M → w.cell? ⟨g, off + j, none⟩ = some (inj (B.getD j d)) from by
    rcases hRB with h | ⟨g, off, e, _, h⟩
    · exact Or.inl (by simpa [hM] using h)
    · exact Or.inr ⟨g, off, e, fun j hj => by rw [h j (by simpa [hM] using hj), getD_map inj B d j (by omega)]⟩)
  clear hC hRA hRB
  rw [← hL] at hA ⊢
  rw [← hM] at hB ⊢
  have HL := hid hL
  have HM := hid hM
  clear hL hM
  have hLm : L ≤ maxLen := by unfold maxLen; omega
  have hMm : M ≤ maxLen := by unfold maxLen; omega
  go_enter Try.func49, Try.ntmps49
  go_wp2_with fail
  go_loopw [11] (fun i wr => ∃ k : Nat, k ≤ L ∧ i = .int .i64 k ∧ Hid (wr = w) ∧ Hid (k ≤ M ∧ alikeT lt A B d k)) (fun i _ => L - (intOf i).toNat)
  case atStart => exact ⟨0, Nat.zero_le _, rfl, hid (by first | rfl | trivial), hid ⟨Nat.zero_le _, fun j hj => absurd hj (Nat.not_lt_zero j)⟩⟩
  case round =>
    obtain ⟨k, hk, rfl, HW, HK⟩ := hrel
    obtain rfl := HW.out
    by_cases hlt : k < L
    · rcases HRA.out with h0 | ⟨g, off, rfl, hc⟩
      · omega
      have p0 := hc k hlt
      have g1 : (k : Int) < (L : Int) := by omega
      have g2 : (0 : Int) ≤ (k : Int) := by omega
      by_cases hkM : k < M
      · rcases HRB.out with h0 | ⟨g', off', rfl, hc'⟩
        · omega
        have p1 := hc' k hkM
        have g3 : (k : Int) < (M : Int) := by omega
        have g4 : decide ((M : Int) ≤ (k : Int)) = false := by simp; omega
        have HCk := hid (HCmp.out (A.getD k d) (B.getD k d))
        obtain ⟨x, hx⟩ : ∃ x, x = A.getD k d := ⟨_, rfl⟩
        obtain ⟨y, hy⟩ : ∃ y, y = B.getD k d := ⟨_, rfl⟩
        rw [← hx] at p0 HCk
        rw [← hy] at p1 HCk
        have HX := hid hx
        have HY := hid hy
        clear hx hy hc hc'
        generalize hvx : inj x = vx at *
        generalize hvy : inj y = vy at *
        clear hvx hvy
        go_wp2_with fail
        refine HCk.out.mono ?_
        rintro e w1 ⟨rfl, rfl⟩
        unfold cmpV
        cases h1 : lt x y with
        | true =>
          have HF := hid (show ltL lt A B = true from ltL_yes (by rw [← HL.out]; exact hlt) (by rw [← HM.out]; exact hkM) HK.out.2 (by rw [← HX.out, ← HY.out]; exact h1))
          clear h1
          simp only [if_true]
          go_wp2_with fail
          go_ret
          exact ⟨-1, rfl, ⟨fun _ => HF.out, fun _ => by omega⟩, rfl⟩
        | false =>
          cases h2 : lt y x with
          | true =>
            have HF := hid (show ltL lt A B = false from ltL_no (by rw [← HL.out]; exact hlt) (by rw [← HM.out]; exact hkM) HK.out.2 (by rw [← HX.out, ← HY.out]; exact h1) (by rw [← HX.out, ← HY.out]; exact h2))
            clear h1 h2
            simp only [if_true, if_false, Bool.false_eq_true]
            go_wp2_with fail
            go_ret
            exact ⟨1, rfl, ⟨fun h => absurd h (by omega), fun h => by rw [HF.out] at h; cases h⟩, rfl⟩
          | false =>
            have HB := hid (And.intro h1 h2)
            clear h1 h2
            simp only [if_false, Bool.false_eq_true]
            go_wp2_with fail
            refine ⟨⟨k + 1, by omega, by go_num, hid (by first | rfl | trivial), hid ⟨by omega, fun j hj => ?_⟩⟩, by simp [intOf]; omega⟩
            by_cases hj2 : j < k
            · exact HK.out.2 j hj2
            · obtain rfl : j = k := by omega
              rw [← HX.out, ← HY.out]
              exact HB.out
      · have hkM2 : k = M := by have := HK.out.1; omega
        have g4 : decide ((M : Int) ≤ (k : Int)) = true := by simp; omega
        have g5 : (M : Int) ≤ (k : Int) := by omega
        have HF := hid (show ltL lt A B = false from by
          rw [ltL_end (d := d) (k := k) (by rw [← HL.out]; omega) (by rw [← HM.out]; omega) HK.out.2 (Or.inr (by rw [← HM.out]; exact hkM2)), ← HL.out, ← HM.out]
          simp; omega)
        generalize inj (A.getD k d) = vx at *
        clear hc hkM2
        go_wp2_with fail
        go_ret
        exact ⟨1, rfl, ⟨fun h => absurd h (by omega), fun h => by rw [HF.out] at h; cases h⟩, rfl⟩
    · obtain rfl : k = L := by omega
      have HE := hid (show ltL lt A B = decide (k < M) from by
        rw [ltL_end (d := d) (k := k) (by rw [← HL.out]; omega) (by rw [← HM.out]; exact HK.out.1) HK.out.2 (Or.inl HL.out), ← HL.out, ← HM.out])
      by_cases hkM : k < M
      · have g4 : decide ((k : Int) < (M : Int)) = true := by simp; omega
        have g5 : (k : Int) < (M : Int) := by omega
        go_wp2_with fail
        go_ret
        exact ⟨-1, rfl, ⟨fun _ => by rw [HE.out]; simpa using hkM, fun _ => by omega⟩, rfl⟩
      · have g4 : decide ((k : Int) < (M : Int)) = false := by simp; omega
        have g5 : ¬ (k : Int) < (M : Int) := by omega
        go_wp2_with fail
        go_ret
        exact ⟨0, rfl, ⟨fun h => absurd h (by omega), fun h => by rw [HE.out] at h; simp at h; omega⟩, rfl⟩
set_option maxHeartbeats 4000000 in
theorem slcmp_i {α : Type} (inj : α → Value) (d : α) (lt : α → α → Bool) (A B : List α) (a b : Option Addr) (ca cb : Nat) (w : World) (hA : A.length ≤ 140737488355328) (hB : B.length ≤ 140737488355328) (hRA : RdV w a (A.map inj)) (hRB : RdV w b (B.map inj))
    (hC : ∀ x y, Calls Try.prog 46 #[inj x, inj y] w fun e w' => e = .returned (.int .i64 (cmpV lt x y)) ∧ w' = w) :
    Calls Try.prog 52 #[.slice a A.length ca, .slice b B.length cb] w fun e w' => ∃ z, e = .returned (.int .i64 z) ∧ (z < 0 ↔ ltL lt A B = true) ∧ w' = w := by
  obtain ⟨L, hL⟩ : ∃ L, L = A.length := ⟨_, rfl⟩
  obtain ⟨M, hM⟩ : ∃ M, M = B.length := ⟨_, rfl⟩
  have HCmp := hid hC
  have HRA := hid (show L = 0 ∨ ∃ b off, a = some ⟨b, off, none⟩ ∧ ∀ j, j < L → w.cell? ⟨b, off + j, none⟩ = some (inj (A.getD j d)) from by
    rcases hRA with h | ⟨g, off, e, _, h⟩
    · exact Or.inl (by simpa [hL] using h)
    · exact Or.inr ⟨g, off, e, fun j hj => by rw [h j (by simpa [hL] using hj), getD_map inj A d j (by omega)]⟩)
  have HRB := hid (show M = 0 ∨ ∃ g off, b = some ⟨g, off, none⟩ ∧ ∀ j, j < M → w.cell? ⟨g, off + j, none⟩ = some (inj (B.getD j d)) from by
    rcases hRB with h | ⟨g, off, e, _, h⟩
    · exact Or.inl (by simpa [hM] using h)
    · exact Or.inr ⟨g, off, e, fun j hj => by rw [h j (by simpa [hM] using hj), getD_map inj B d j (by omega)]⟩)
  clear hC hRA hRB
  rw [← hL] at hA ⊢
  rw [← hM] at hB ⊢
  have HL := hid hL
  have HM := hid hM
  clear hL hM
  have hLm : L ≤ maxLen := by unfold maxLen; omega
  have hMm : M ≤ maxLen := by unfold maxLen; omega
  go_enter Try.func52, Try.ntmps52
  go_wp2_with fail
  go_loopw [11] (fun i wr => ∃ k : Nat, k ≤ L ∧ i = .int .i64 k ∧ Hid (wr = w) ∧ Hid (k ≤ M ∧ alikeT lt A B d k)) (fun i _ => L - (intOf i).toNat)
  case atStart => exact ⟨0, Nat.zero_le _, rfl, hid (by first | rfl | trivial), hid ⟨Nat.zero_le _, fun j hj => absurd hj (Nat.not_lt_zero j)⟩⟩
  case round =>
    obtain ⟨k, hk, rfl, HW, HK⟩ := hrel
    obtain rfl := HW.out
    by_cases hlt : k < L
    · rcases HRA.out with h0 | ⟨g, off, rfl, hc⟩
      · omega
      have p0 := hc k hlt
      have g1 : (k : Int) < (L : Int) := by omega
      have g2 : (0 : Int) ≤ (k : Int) := by omega
      by_cases hkM : k < M
      · rcases HRB.out with h0 | ⟨g', off', rfl, hc'⟩
        · omega
        have p1 := hc' k hkM
        have g3 : (k : Int) < (M : Int) := by omega
        have g4 : decide ((M : Int) ≤ (k : Int)) = false := by simp; omega
        have HCk := hid (HCmp.out (A.getD k d) (B.getD k d))
        obtain ⟨x, hx⟩ : ∃ x, x = A.getD k d := ⟨_, rfl⟩
        obtain ⟨y, hy⟩ : ∃ y, y = B.getD k d := ⟨_, rfl⟩
        rw [← hx] at p0 HCk
        rw [← hy] at p1 HCk
        have HX := hid hx
        have HY := hid hy
        clear hx hy hc hc'
        generalize hvx : inj x = vx at *
        generalize hvy : inj y = vy at *
        clear hvx hvy
        go_wp2_with fail
        refine HCk.out.mono ?_
        rintro e w1 ⟨rfl, rfl⟩
        unfold cmpV
        cases h1 : lt x y with
        | true =>
          have HF := hid (show ltL lt A B = true from ltL_yes (by rw [← HL.out]; exact hlt) (by rw [← HM.out]; exact hkM) HK.out.2 (by rw [← HX.out, ← HY.out]; exact h1))
          clear h1
          simp only [if_true]
          go_wp2_with fail
          go_ret
          exact ⟨-1, rfl, ⟨fun _ => HF.out, fun _ => by omega⟩, rfl⟩
        | false =>
          cases h2 : lt y x with
          | true =>
            have HF := hid (show ltL lt A B = false from ltL_no (by rw [← HL.out]; exact hlt) (by rw [← HM.out]; exact hkM) HK.out.2 (by rw [← HX.out, ← HY.out]; exact h1) (by rw [← HX.out, ← HY.out]; exact h2))
            clear h1 h2
            simp only [if_true, if_false, Bool.false_eq_true]
            go_wp2_with fail
            go_ret
            exact ⟨1, rfl, ⟨fun h => absurd h (by omega), fun h => by rw [HF.out] at h; cases h⟩, rfl⟩
          | false =>
            have HB := hid (And.intro h1 h2)
            clear h1 h2
            simp only [if_false, Bool.false_eq_true]
            go_wp2_with fail
            refine ⟨⟨k + 1, by omega, by go_num, hid (by first | rfl | trivial), hid ⟨by omega, fun j hj => ?_⟩⟩, by simp [intOf]; omega⟩
            by_cases hj2 : j < k
            · exact HK.out.2 j hj2
            · obtain rfl : j = k := by omega
              rw [← HX.out, ← HY.out]
              exact HB.out
      · have hkM2 : k = M := by have := HK.out.1; omega
        have g4 : decide ((M : Int) ≤ (k : Int)) = true := by simp; omega
        have g5 : (M : Int) ≤ (k : Int) := by omega
        have HF := hid (show ltL lt A B = false from by
          rw [ltL_end (d := d) (k := k) (by rw [← HL.out]; omega) (by rw [← HM.out]; omega) HK.out.2 (Or.inr (by rw [← HM.out]; exact hkM2)), ← HL.out, ← HM.out]
          simp; omega)
        generalize inj (A.getD k d) = vx at *
        clear hc hkM2
        go_wp2_with fail
        go_ret
        exact ⟨1, rfl, ⟨fun h => absurd h (by omega), fun h => by rw [HF.out] at h; cases h⟩, rfl⟩
    · obtain rfl : k = L := by omega
      have HE := hid (show ltL lt A B = decide (k < M) from by
        rw [ltL_end (d := d) (k := k) (by rw [← HL.out]; omega) (by rw [← HM.out]; exact HK.out.1) HK.out.2 (Or.inl HL.out), ← HL.out, ← HM.out])
      by_cases hkM : k < M
      · have g4 : decide ((k : Int) < (M : Int)) = true := by simp; omega
        have g5 : (k : Int) < (M : Int) := by omega
        go_wp2_with fail
        go_ret
        exact ⟨-1, rfl, ⟨fun _ => by rw [HE.out]; simpa using hkM, fun _ => by omega⟩, rfl⟩
      · have g4 : decide ((k : Int) < (M : Int)) = false := by simp; omega
        have g5 : ¬ (k : Int) < (M : Int) := by omega
        go_wp2_with fail
        go_ret
        exact ⟨0, rfl, ⟨fun h => absurd h (by omega), fun h => by rw [HE.out] at h; simp at h; omega⟩, rfl⟩
end Go.Proofs.Ytnclpdgbjefpmaa.L
