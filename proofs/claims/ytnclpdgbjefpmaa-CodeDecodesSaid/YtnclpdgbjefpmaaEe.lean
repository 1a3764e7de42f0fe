import Derived.Test.YtnclpdgbjefpmaaMgAA
namespace Go.Proofs.Ytnclpdgbjefpmaa.L
open Go.RowKit
set_option linter.unusedVariables false
set_option linter.unusedSimpArgs false
theorem getD_map {α : Type} (f : α → Value) (l : List α) (d : α) (j : Nat) (h : j < l.length) : (l.map f).getD j undef = f (l.getD j d) := by
  rw [List.getD_eq_getElem?_getD, List.getD_eq_getElem?_getD, List.getElem?_map, List.getElem?_eq_getElem h]
  rfl
theorem RdV.at {W : World} {a : Option Addr} {vs : List Value} (h : RdV W a vs) {j : Nat} (hj : j < vs.length) : ∃ b off, a = some ⟨b, off, none⟩ ∧ b < W.heap.size ∧ ∀ j, j < vs.length → W.cell? ⟨b, off + j, none⟩ = some (vs.getD j undef) := by
  rcases h with h | h
  · omega
  · exact h
/-- rises over a list, as a question of the list. -/
theorem risV_list {α : Type} (l : List α) (d : α) (m : α → Bool) (lt : α → α → Bool) : risV l.length (fun j => m (l.getD j d)) (fun j => lt (l.getD (j - 1) d) (l.getD j d)) = (l.all m && risB lt .none l) := by
  have key : ∀ (r : List α) (p : α), risB lt (some p) r = true ↔ ∀ j, j < r.length → lt ((p :: r).getD j d) (r.getD j d) = true := by
    intro r
    induction r with
    | nil => intro p; exact ⟨fun _ j hj => absurd hj (Nat.not_lt_zero j), fun _ => rfl⟩
    | cons x r ih =>
      intro p
      simp only [risB, Bool.and_eq_true, ih x]
      constructor
      · rintro ⟨h1, h2⟩ j hj
        cases j with
        | zero => exact h1
        | succ j => exact h2 j (by simpa using hj)
      · intro h
        exact ⟨h 0 (by simp), fun j hj => h (j + 1) (by simpa using hj)⟩
  rw [Bool.eq_iff_iff, risV_iff, Bool.and_eq_true, List.all_eq_true]
  cases l with
  | nil => exact ⟨fun _ => ⟨(fun x hx => by cases hx), rfl⟩, fun _ j hj => absurd hj (Nat.not_lt_zero j)⟩
  | cons x r =>
    constructor
    · intro h
      refine ⟨fun y hy => ?_, ?_⟩
      · obtain ⟨j, hj, e⟩ := List.getElem_of_mem hy
        have := (h j hj).1
        rw [List.getD_eq_getElem?_getD, List.getElem?_eq_getElem hj] at this
        rw [← e]
        exact this
      · show (okB lt .none x && risB lt (some x) r) = true
        rw [Bool.and_eq_true, key]
        refine ⟨rfl, fun j hj => ?_⟩
        exact (h (j + 1) (by simpa using hj)).2 (by omega)
    · rintro ⟨h1, h2⟩ j hj
      refine ⟨?_, fun h0 => ?_⟩
      · rw [List.getD_eq_getElem?_getD, List.getElem?_eq_getElem hj]
        exact h1 _ (List.getElem_mem hj)
      · have h3 : (okB lt .none x && risB lt (some x) r) = true := h2
        rw [Bool.and_eq_true, key] at h3
        cases j with
        | zero => omega
        | succ j => exact h3.2 j (by simpa using hj)
set_option maxHeartbeats 4000000 in
theorem rises_s (ev : Nat → Value) (L : Nat) (m lt : Nat → Bool) (a : Option Addr) (cap : Nat) (w : World) (hL : L ≤ 140737488355328) (hR : L = 0 ∨ ∃ b off, a = some ⟨b, off, none⟩ ∧ ∀ j, j < L → w.cell? ⟨b, off + j, none⟩ = some (ev j))
    (hM : ∀ j, j < L → Calls Try.prog 42 #[ev j] w fun e w' => e = .returned (.bool (m j)) ∧ w' = w) (hC : ∀ j, j + 1 < L → Calls Try.prog 43 #[ev j, ev (j + 1)] w fun e w' => ∃ z, e = .returned (.int .i64 z) ∧ (z < 0 ↔ lt (j + 1) = true) ∧ w' = w) :
    Calls Try.prog 41 #[.slice a L cap, .func (.func 42) #[] #[], .func (.func 43) #[] #[]] w fun e w' => e = .returned (.bool (risV L m lt)) ∧ w' = w := by
  have HMay := hid hM
  have HCmp := hid hC
  have HR := hid hR
  clear hM hC hR
  have hLm : L ≤ maxLen := by unfold maxLen; omega
  go_enter Try.func41, Try.ntmps41
  go_wp2_with fail
  go_loopw [11] (fun i wr => ∃ k : Nat, k ≤ L ∧ i = .int .i64 k ∧ Hid (wr = w) ∧ Hid (∀ j, j < k → m j = true ∧ (0 < j → lt j = true))) (fun i _ => L - (intOf i).toNat)
  case atStart => exact ⟨0, Nat.zero_le _, rfl, hid (by first | rfl | trivial), hid (fun j hj => absurd hj (Nat.not_lt_zero j))⟩
  case round =>
    obtain ⟨k, hk, rfl, HW, HK⟩ := hrel
    obtain rfl := HW.out
    by_cases hlt : k < L
    · rcases HR.out with h0 | ⟨b, off, rfl, hc⟩
      · omega
      have p0 := hc k hlt
      have HMk := hid (HMay.out k hlt)
      have g1 : (k : Int) < (L : Int) := by omega
      have g2 : (0 : Int) ≤ (k : Int) := by omega
      cases hmk : m k with
      | false =>
        rw [hmk] at HMk
        have HF := hid (show risV L m lt = false from by
          cases hr : risV L m lt with
          | false => rfl
          | true => rw [(risV_iff.1 hr k hlt).1] at hmk; cases hmk)
        clear hmk
        go_wp2_with fail
        refine HMk.out.mono ?_
        rintro e w1 ⟨rfl, rfl⟩
        go_wp2_with fail
        go_ret
        exact ⟨by rw [HF.out]; rfl, rfl⟩
      | true =>
        rw [hmk] at HMk
        have HMT := hid hmk
        clear hmk
        by_cases hk0 : k = 0
        · subst hk0
          rw [Nat.add_zero] at p0
          go_wp2_with fail
          refine HMk.out.mono ?_
          rintro e w1 ⟨rfl, rfl⟩
          go_wp2_with fail
          refine ⟨⟨1, by omega, by go_num, hid (by first | rfl | trivial), hid fun j hj => ?_⟩, by simp [intOf]; omega⟩
          obtain rfl : j = 0 := by omega
          exact ⟨HMT.out, fun h => absurd h (Nat.lt_irrefl 0)⟩
        · obtain ⟨q, rfl⟩ : ∃ q, k = q + 1 := ⟨k - 1, by omega⟩
          have p1 := hc q (by omega)
          have HCk := hid (HCmp.out q hlt)
          clear hc
          have g3 : (0 : Int) < ((q + 1 : Nat) : Int) := by omega
          go_wp2_with fail
          refine HMk.out.mono ?_
          rintro e w1 ⟨rfl, rfl⟩
          go_wp2_with fail
          refine HCk.out.mono ?_
          rintro e w2 ⟨z, rfl, hz, rfl⟩
          cases hlq : lt (q + 1) with
          | true =>
            have hz2 : z < 0 := hz.2 hlq
            have HLQ := hid hlq
            clear hz hlq
            have hz3 : decide ((0 : Int) ≤ z) = false := by simpa using hz2
            have hz4 : ¬ (0 : Int) ≤ z := by omega
            go_wp2_with fail
            refine ⟨⟨q + 1 + 1, by omega, by go_num, hid (by first | rfl | trivial), hid fun j hj => ?_⟩, by simp [intOf]; omega⟩
            by_cases hj2 : j < q + 1
            · exact HK.out j hj2
            · obtain rfl : j = q + 1 := by omega
              exact ⟨HMT.out, fun _ => HLQ.out⟩
          | false =>
            have hz2 : ¬ z < 0 := fun h => by rw [hz.1 h] at hlq; cases hlq
            have HF := hid (show risV L m lt = false from by
              cases hr : risV L m lt with
              | false => rfl
              | true => rw [(risV_iff.1 hr (q + 1) hlt).2 (by omega)] at hlq; cases hlq)
            clear hz hlq
            have hz3 : decide ((0 : Int) ≤ z) = true := by simpa using hz2
            have hz4 : (0 : Int) ≤ z := by omega
            go_wp2_with fail
            go_ret
            exact ⟨by rw [HF.out]; rfl, rfl⟩
    · obtain rfl : k = L := by omega
      have HF := hid (show risV k m lt = true from risV_iff.2 HK.out)
      go_wp2_with fail
      go_ret
      exact ⟨by rw [HF.out]; rfl, rfl⟩
set_option maxHeartbeats 4000000 in
theorem rises_i (ev : Nat → Value) (L : Nat) (m lt : Nat → Bool) (a : Option Addr) (cap : Nat) (w : World) (hL : L ≤ 140737488355328) (hR : L = 0 ∨ ∃ b off, a = some ⟨b, off, none⟩ ∧ ∀ j, j < L → w.cell? ⟨b, off + j, none⟩ = some (ev j))
    (hM : ∀ j, j < L → Calls Try.prog 45 #[ev j] w fun e w' => e = .returned (.bool (m j)) ∧ w' = w) (hC : ∀ j, j + 1 < L → Calls Try.prog 46 #[ev j, ev (j + 1)] w fun e w' => ∃ z, e = .returned (.int .i64 z) ∧ (z < 0 ↔ lt (j + 1) = true) ∧ w' = w) :
    Calls Try.prog 44 #[.slice a L cap, .func (.func 45) #[] #[], .func (.func 46) #[] #[]] w fun e w' => e = .returned (.bool (risV L m lt)) ∧ w' = w := by
  have HMay := hid hM
  have HCmp := hid hC
  have HR := hid hR
  clear hM hC hR
  have hLm : L ≤ maxLen := by unfold maxLen; omega
  go_enter Try.func44, Try.ntmps44
  go_wp2_with fail
  go_loopw [11] (fun i wr => ∃ k : Nat, k ≤ L ∧ i = .int .i64 k ∧ Hid (wr = w) ∧ Hid (∀ j, j < k → m j = true ∧ (0 < j → lt j = true))) (fun i _ => L - (intOf i).toNat)
  case atStart => exact ⟨0, Nat.zero_le _, rfl, hid (by first | rfl | trivial), hid (fun j hj => absurd hj (Nat.not_lt_zero j))⟩
  case round =>
    obtain ⟨k, hk, rfl, HW, HK⟩ := hrel
    obtain rfl := HW.out
    by_cases hlt : k < L
    · rcases HR.out with h0 | ⟨b, off, rfl, hc⟩
      · omega
      have p0 := hc k hlt
      have HMk := hid (HMay.out k hlt)
      have g1 : (k : Int) < (L : Int) := by omega
      have g2 : (0 : Int) ≤ (k : Int) := by omega
      cases hmk : m k with
      | false =>
        rw [hmk] at HMk
        have HF := hid (show risV L m lt = false from by
          cases hr : risV L m lt with
          | false => rfl
          | true => rw [(risV_iff.1 hr k hlt).1] at hmk; cases hmk)
        clear hmk
        go_wp2_with fail
        refine HMk.out.mono ?_
        rintro e w1 ⟨rfl, rfl⟩
        go_wp2_with fail
        go_ret
        exact ⟨by rw [HF.out]; rfl, rfl⟩
      | true =>
        rw [hmk] at HMk
        have HMT := hid hmk
        clear hmk
        by_cases hk0 : k = 0
        · subst hk0
          rw [Nat.add_zero] at p0
          go_wp2_with fail
          refine HMk.out.mono ?_
          rintro e w1 ⟨rfl, rfl⟩
          go_wp2_with fail
          refine ⟨⟨1, by omega, by go_num, hid (by first | rfl | trivial), hid fun j hj => ?_⟩, by simp [intOf]; omega⟩
          obtain rfl : j = 0 := by omega
          exact ⟨HMT.out, fun h => absurd h (Nat.lt_irrefl 0)⟩
        · obtain ⟨q, rfl⟩ : ∃ q, k = q + 1 := ⟨k - 1, by omega⟩
          have p1 := hc q (by omega)
          have HCk := hid (HCmp.out q hlt)
          clear hc
          have g3 : (0 : Int) < ((q + 1 : Nat) : Int) := by omega
          go_wp2_with fail
          refine HMk.out.mono ?_
          rintro e w1 ⟨rfl, rfl⟩
          go_wp2_with fail
          refine HCk.out.mono ?_
          rintro e w2 ⟨z, rfl, hz, rfl⟩
          cases hlq : lt (q + 1) with
          | true =>
            have hz2 : z < 0 := hz.2 hlq
            have HLQ := hid hlq
            clear hz hlq
            have hz3 : decide ((0 : Int) ≤ z) = false := by simpa using hz2
            have hz4 : ¬ (0 : Int) ≤ z := by omega
            go_wp2_with fail
            refine ⟨⟨q + 1 + 1, by omega, by go_num, hid (by first | rfl | trivial), hid fun j hj => ?_⟩, by simp [intOf]; omega⟩
            by_cases hj2 : j < q + 1
            · exact HK.out j hj2
            · obtain rfl : j = q + 1 := by omega
              exact ⟨HMT.out, fun _ => HLQ.out⟩
          | false =>
            have hz2 : ¬ z < 0 := fun h => by rw [hz.1 h] at hlq; cases hlq
            have HF := hid (show risV L m lt = false from by
              cases hr : risV L m lt with
              | false => rfl
              | true => rw [(risV_iff.1 hr (q + 1) hlt).2 (by omega)] at hlq; cases hlq)
            clear hz hlq
            have hz3 : decide ((0 : Int) ≤ z) = true := by simpa using hz2
            have hz4 : (0 : Int) ≤ z := by omega
            go_wp2_with fail
            go_ret
            exact ⟨by rw [HF.out]; rfl, rfl⟩
    · obtain rfl : k = L := by omega
      have HF := hid (show risV k m lt = true from risV_iff.2 HK.out)
      go_wp2_with fail
      go_ret
      exact ⟨by rw [HF.out]; rfl, rfl⟩
end Go.Proofs.Ytnclpdgbjefpmaa.L
