import Derived.Test.YtnclpdgbjefpmaaEi
namespace Go.Proofs.Ytnclpdgbjefpmaa.L
open Go.RowKit
set_option linter.unusedVariables false
set_option linter.unusedSimpArgs false
/-- A row of lists that can be read. -/
def RdL {α : Type} (inj : α → Value) (W : World) (a : Option Addr) (ls : List (List α)) : Prop := ∃ vs : List Value, vs.length = ls.length ∧ RdV W a vs ∧ ∀ j, j < ls.length → ∃ ea ec, vs.getD j undef = .slice ea (ls.getD j []).length ec ∧ RdV W ea ((ls.getD j []).map inj)
theorem RdL.low {α : Type} {inj : α → Value} {W W' : World} {a : Option Addr} {ls : List (List α)} (h : RdL inj W a ls) (k : Below W.heap.size W W') : RdL inj W' a ls := by
  obtain ⟨vs, h1, h2, h3⟩ := h
  exact ⟨vs, h1, h2.low k, fun j hj => by obtain ⟨ea, ec, e, r⟩ := h3 j hj; exact ⟨ea, ec, e, r.low k⟩⟩
def shS (s : ByteArray) : Bool := decide ((s.size : Int) ≤ 127)
def shI (n : Int) : Bool := inR n (-1000000000000000000) 1000000000000000000
def setB {α : Type} (m : α → Bool) (lt : α → α → Bool) (l : List α) : Bool := inR l.length 1 1000 && (l.all m && risB lt .none l)
theorem RdV.row {α : Type} {inj : α → Value} {W : World} {a : Option Addr} {l : List α} (d : α) (h : RdV W a (l.map inj)) : l.length = 0 ∨ ∃ b off, a = some ⟨b, off, none⟩ ∧ ∀ j, j < l.length → W.cell? ⟨b, off + j, none⟩ = some (inj (l.getD j d)) := by
  rcases h with h | ⟨b, off, e, _, h⟩
  · exact Or.inl (by simpa using h)
  · exact Or.inr ⟨b, off, e, fun j hj => by rw [h j (by simpa using hj), getD_map inj l d j hj]⟩
theorem rises_texts (a : Option Addr) (l : List ByteArray) (cap : Nat) (w : World) (hl : l.length ≤ 140737488355328) (h : RdV w a (l.map Value.string)) : Calls Try.prog 41 #[.slice a l.length cap, .func (.func 42) #[] #[], .func (.func 43) #[] #[]] w fun e w' => e = .returned (.bool (l.all shS && risB ltS .none l)) ∧ w' = w := by
  rw [← risV_list l ⟨#[]⟩ shS ltS]
  exact rises_s (fun j => .string (l.getD j ⟨#[]⟩)) l.length _ _ a cap w hl (RdV.row ⟨#[]⟩ h) (fun j _ => isshort_any _ w) (fun j _ => (cmp_s _ _ w).mono fun e w' h => ⟨_, h.1, cmpV_neg _ _ _, h.2⟩)
theorem rises_nums (a : Option Addr) (l : List Int) (cap : Nat) (w : World) (hl : l.length ≤ 140737488355328) (h : RdV w a (l.map (Value.int .i64))) : Calls Try.prog 44 #[.slice a l.length cap, .func (.func 45) #[] #[], .func (.func 46) #[] #[]] w fun e w' => e = .returned (.bool (l.all shI && risB ltI .none l)) ∧ w' = w := by
  rw [← risV_list l 0 shI ltI]
  exact rises_i (fun j => .int .i64 (l.getD j 0)) l.length _ _ a cap w hl (RdV.row 0 h) (fun j _ => isnum_any _ w) (fun j _ => (cmp_i _ _ w).mono fun e w' h => ⟨_, h.1, cmpV_neg _ _ _, h.2⟩)
theorem istextset (a : Option Addr) (l : List ByteArray) (cap : Nat) (w : World) (hl : l.length ≤ 140737488355328) (h : RdV w a (l.map Value.string)) : Calls Try.prog 48 #[.slice a l.length cap] w fun e w' => e = .returned (.bool (setB shS ltS l)) ∧ w' = w := by
  have HW := hid (within_any (l.length : Int) 1 1000 w)
  have HR := hid (rises_texts a l cap w hl h)
  unfold setB
  clear h
  have hLm : l.length ≤ maxLen := by unfold maxLen; omega
  generalize (l.all shS && risB ltS .none l) = r at *
  generalize l.length = L at *
  cases h1 : inR (L : Int) 1 1000 with
  | false =>
    rw [h1] at HW
    go_enter Try.func48, Try.ntmps48
    go_wp2_with fail
    refine HW.out.mono ?_
    rintro e w1 ⟨rfl, rfl⟩
    go_wp2_with fail
    go_ret
    exact ⟨rfl, rfl⟩
  | true =>
    rw [h1] at HW
    go_enter Try.func48, Try.ntmps48
    go_wp2_with fail
    refine HW.out.mono ?_
    rintro e w1 ⟨rfl, rfl⟩
    go_wp2_with fail
    refine HR.out.mono ?_
    rintro e w2 ⟨rfl, rfl⟩
    go_wp2_with fail
    go_ret
    exact ⟨rfl, rfl⟩
theorem isnumset (a : Option Addr) (l : List Int) (cap : Nat) (w : World) (hl : l.length ≤ 140737488355328) (h : RdV w a (l.map (Value.int .i64))) : Calls Try.prog 51 #[.slice a l.length cap] w fun e w' => e = .returned (.bool (setB shI ltI l)) ∧ w' = w := by
  have HW := hid (within_any (l.length : Int) 1 1000 w)
  have HR := hid (rises_nums a l cap w hl h)
  unfold setB
  clear h
  have hLm : l.length ≤ maxLen := by unfold maxLen; omega
  generalize (l.all shI && risB ltI .none l) = r at *
  generalize l.length = L at *
  cases h1 : inR (L : Int) 1 1000 with
  | false =>
    rw [h1] at HW
    go_enter Try.func51, Try.ntmps51
    go_wp2_with fail
    refine HW.out.mono ?_
    rintro e w1 ⟨rfl, rfl⟩
    go_wp2_with fail
    go_ret
    exact ⟨rfl, rfl⟩
  | true =>
    rw [h1] at HW
    go_enter Try.func51, Try.ntmps51
    go_wp2_with fail
    refine HW.out.mono ?_
    rintro e w1 ⟨rfl, rfl⟩
    go_wp2_with fail
    refine HR.out.mono ?_
    rintro e w2 ⟨rfl, rfl⟩
    go_wp2_with fail
    go_ret
    exact ⟨rfl, rfl⟩
set_option maxHeartbeats 4000000 in
theorem rises_ss (ev : Nat → Value) (L : Nat) (m lt : Nat → Bool) (a : Option Addr) (cap : Nat) (w : World) (hL : L ≤ 140737488355328) (hR : L = 0 ∨ ∃ b off, a = some ⟨b, off, none⟩ ∧ ∀ j, j < L → w.cell? ⟨b, off + j, none⟩ = some (ev j))
    (hM : ∀ j, j < L → Calls Try.prog 48 #[ev j] w fun e w' => e = .returned (.bool (m j)) ∧ w' = w) (hC : ∀ j, j + 1 < L → Calls Try.prog 49 #[ev j, ev (j + 1)] w fun e w' => ∃ z, e = .returned (.int .i64 z) ∧ (z < 0 ↔ lt (j + 1) = true) ∧ w' = w) :
    Calls Try.prog 47 #[.slice a L cap, .func (.func 48) #[] #[], .func (.func 49) #[] #[]] w fun e w' => e = .returned (.bool (risV L m lt)) ∧ w' = w := by
  have HMay := hid hM
  have HCmp := hid hC
  have HR := hid hR
  clear hM hC hR
  have hLm : L ≤ maxLen := by unfold maxLen; omega
  go_enter Try.func47, Try.ntmps47
  go_wp2_with fail
  go_loopw [11] (fun i wr => ∃ k : Nat, k ≤ L ∧ i = .int .i64 k ∧ Hid (wr = w) ∧ Hid (∀ j, j < k → m j = true ∧ (0 < j → lt j = true))) (fun i _ => L - (intOf i).toNat)
  case atStart => exact ⟨0, Nat.zero_le _, rfl, hid (by first | rfl | trivial), hid (fun j hj => absurd hj (Nat.not_lt_zero j))⟩
  case round =>
    obtain ⟨k, hk, rfl, HW, HK⟩ := hrel
    obtain rfl := HW.out
    by_cases hlt : k < L
    · rcases HR.out with h0 | ⟨b, off, rfl, hc⟩
      · omega
      have p0 := hc k hlt
      have HMk := hid (HMay.out k hlt)
      have g1 : (k : Int) < (L : Int) := by omega
      have g2 : (0 : Int) ≤ (k : Int) := by omega
      cases hmk : m k with
      | false =>
        rw [hmk] at HMk
        have HF := hid (show risV L m lt = false from by
          cases hr : risV L m lt with
          | false => rfl
          | true => rw [(risV_iff.1 hr k hlt).1] at hmk; cases hmk)
        clear hmk
        go_wp2_with fail
        refine HMk.out.mono ?_
        rintro e w1 ⟨rfl, rfl⟩
        go_wp2_with fail
        go_ret
        exact ⟨by rw [HF.out]; rfl, rfl⟩
      | true =>
        rw [hmk] at HMk
        have HMT := hid hmk
        clear hmk
        by_cases hk0 : k = 0
        · subst hk0
          rw [Nat.add_zero] at p0
          go_wp2_with fail
          refine HMk.out.mono ?_
          rintro e w1 ⟨rfl, rfl⟩
          go_wp2_with fail
          refine ⟨⟨1, by omega, by go_num, hid (by first | rfl | trivial), hid fun j hj => ?_⟩, by simp [intOf]; omega⟩
          obtain rfl : j = 0 := by omega
          exact ⟨HMT.out, fun h => absurd h (Nat.lt_irrefl 0)⟩
        · obtain ⟨q, rfl⟩ : ∃ q, k = q + 1 := ⟨k - 1, by omega⟩
          have p1 := hc q (by omega)
          have HCk := hid (HCmp.out q hlt)
          clear hc
          have g3 : (0 : Int) < ((q + 1 : Nat) : Int) := by omega
          go_wp2_with fail
          refine HMk.out.mono ?_
          rintro e w1 ⟨rfl, rfl⟩
          go_wp2_with fail
          refine HCk.out.mono ?_
          rintro e w2 ⟨z, rfl, hz, rfl⟩
          cases hlq : lt (q + 1) with
          | true =>
            have hz2 : z < 0 := hz.2 hlq
            have HLQ := hid hlq
            clear hz hlq
            have hz3 : decide ((0 : Int) ≤ z) = false := by simpa using hz2
            have hz4 : ¬ (0 : Int) ≤ z := by omega
            go_wp2_with fail
            refine ⟨⟨q + 1 + 1, by omega, by go_num, hid (by first | rfl | trivial), hid fun j hj => ?_⟩, by simp [intOf]; omega⟩
            by_cases hj2 : j < q + 1
            · exact HK.out j hj2
            · obtain rfl : j = q + 1 := by omega
              exact ⟨HMT.out, fun _ => HLQ.out⟩
          | false =>
            have hz2 : ¬ z < 0 := fun h => by rw [hz.1 h] at hlq; cases hlq
            have HF := hid (show risV L m lt = false from by
              cases hr : risV L m lt with
              | false => rfl
              | true => rw [(risV_iff.1 hr (q + 1) hlt).2 (by omega)] at hlq; cases hlq)
            clear hz hlq
            have hz3 : decide ((0 : Int) ≤ z) = true := by simpa using hz2
            have hz4 : (0 : Int) ≤ z := by omega
            go_wp2_with fail
            go_ret
            exact ⟨by rw [HF.out]; rfl, rfl⟩
    · obtain rfl : k = L := by omega
      have HF := hid (show risV k m lt = true from risV_iff.2 HK.out)
      go_wp2_with fail
      go_ret
      exact ⟨by rw [HF.out]; rfl, rfl⟩
set_option maxHeartbeats 4000000 in
theorem rises_is (ev : Nat → Value) (L : Nat) (m lt : Nat → Bool) (a : Option Addr) (cap : Nat) (w : World) (hL : L ≤ 140737488355328) (hR : L = 0 ∨ ∃ b off, a = some ⟨b, off, none⟩ ∧ ∀ j, j < L → w.cell? ⟨b, off + j, none⟩ = some (ev j))
    (hM : ∀ j, j < L → Calls Try.prog 51 #[ev j] w fun e w' => e = .returned (.bool (m j)) ∧ w' = w) (hC : ∀ j, j + 1 < L → Calls Try.prog 52 #[ev j, ev (j + 1)] w fun e w' => ∃ z, e = .returned (.int .i64 z) ∧ (z < 0 ↔ lt (j + 1) = true) ∧ w' = w) :
    Calls Try.prog 50 #[.slice a L cap, .func (.func 51) #[] #[], .func (.func 52) #[] #[]] w fun e w' => e = .returned (.bool (risV L m lt)) ∧ w' = w := by
  have HMay := hid hM
  have HCmp := hid hC
  have HR := hid hR
  clear hM hC hR
  have hLm : L ≤ maxLen := by unfold maxLen; omega
  go_enter Try.func50, Try.ntmps50
  go_wp2_with fail
  go_loopw [11] (fun i wr => ∃ k : Nat, k ≤ L ∧ i = .int .i64 k ∧ Hid (wr = w) ∧ Hid (∀ j, j < k → m j = true ∧ (0 < j → lt j = true))) (fun i _ => L - (intOf i).toNat)
  case atStart => exact ⟨0, Nat.zero_le _, rfl, hid (by first | rfl | trivial), hid (fun j hj => absurd hj (Nat.not_lt_zero j))⟩
  case round =>
    obtain ⟨k, hk, rfl, HW, HK⟩ := hrel
    obtain rfl := HW.out
    by_cases hlt : k < L
    · rcases HR.out with h0 | ⟨b, off, rfl, hc⟩
      · omega
      have p0 := hc k hlt
      have HMk := hid (HMay.out k hlt)
      have g1 : (k : Int) < (L : Int) := by omega
      have g2 : (0 : Int) ≤ (k : Int) := by omega
      cases hmk : m k with
      | false =>
        rw [hmk] at HMk
        have HF := hid (show risV L m lt = false from by
          cases hr : risV L m lt with
          | false => rfl
          | true => rw [(risV_iff.1 hr k hlt).1] at hmk; cases hmk)
        clear hmk
        go_wp2_with fail
        refine HMk.out.mono ?_
        rintro e w1 ⟨rfl, rfl⟩
        go_wp2_with fail
        go_ret
        exact ⟨by rw [HF.out]; rfl, rfl⟩
      | true =>
        rw [hmk] at HMk
        have HMT := hid hmk
        clear hmk
        by_cases hk0 : k = 0
        · subst hk0
          rw [Nat.add_zero] at p0
          go_wp2_with fail
          refine HMk.out.mono ?_
          rintro e w1 ⟨rfl, rfl⟩
          go_wp2_with fail
          refine ⟨⟨1, by omega, by go_num, hid (by first | rfl | trivial), hid fun j hj => ?_⟩, by simp [intOf]; omega⟩
          obtain rfl : j = 0 := by omega
          exact ⟨HMT.out, fun h => absurd h (Nat.lt_irrefl 0)⟩
        · obtain ⟨q, rfl⟩ : ∃ q, k = q + 1 := ⟨k - 1, by omega⟩
          have p1 := hc q (by omega)
          have HCk := hid (HCmp.out q hlt)
          clear hc
          have g3 : (0 : Int) < ((q + 1 : Nat) : Int) := by omega
          go_wp2_with fail
          refine HMk.out.mono ?_
          rintro e w1 ⟨rfl, rfl⟩
          go_wp2_with fail
          refine HCk.out.mono ?_
          rintro e w2 ⟨z, rfl, hz, rfl⟩
          cases hlq : lt (q + 1) with
          | true =>
            have hz2 : z < 0 := hz.2 hlq
            have HLQ := hid hlq
            clear hz hlq
            have hz3 : decide ((0 : Int) ≤ z) = false := by simpa using hz2
            have hz4 : ¬ (0 : Int) ≤ z := by omega
            go_wp2_with fail
            refine ⟨⟨q + 1 + 1, by omega, by go_num, hid (by first | rfl | trivial), hid fun j hj => ?_⟩, by simp [intOf]; omega⟩
            by_cases hj2 : j < q + 1
            · exact HK.out j hj2
            · obtain rfl : j = q + 1 := by omega
              exact ⟨HMT.out, fun _ => HLQ.out⟩
          | false =>
            have hz2 : ¬ z < 0 := fun h => by rw [hz.1 h] at hlq; cases hlq
            have HF := hid (show risV L m lt = false from by
              cases hr : risV L m lt with
              | false => rfl
              | true => rw [(risV_iff.1 hr (q + 1) hlt).2 (by omega)] at hlq; cases hlq)
            clear hz hlq
            have hz3 : decide ((0 : Int) ≤ z) = true := by simpa using hz2
            have hz4 : (0 : Int) ≤ z := by omega
            go_wp2_with fail
            go_ret
            exact ⟨by rw [HF.out]; rfl, rfl⟩
    · obtain rfl : k = L := by omega
      have HF := hid (show risV k m lt = true from risV_iff.2 HK.out)
      go_wp2_with fail
      go_ret
      exact ⟨by rw [HF.out]; rfl, rfl⟩
theorem rises_tsets (a : Option Addr) (l : List (List ByteArray)) (cap : Nat) (w : World) (hl : l.length ≤ 140737488355328) (hk : ∀ x, x ∈ l → x.length ≤ 140737488355328) (h : RdL Value.string w a l) : Calls Try.prog 47 #[.slice a l.length cap, .func (.func 48) #[] #[], .func (.func 49) #[] #[]] w fun e w' => e = .returned (.bool (l.all (setB shS ltS) && risB (ltL ltS) .none l)) ∧ w' = w := by
  rw [← risV_list l [] (setB shS ltS) (ltL ltS)]
  obtain ⟨vs, h1, h2, h3⟩ := h
  have hkj : ∀ j, j < l.length → (l.getD j []).length ≤ 140737488355328 := fun j hj => hk _ (by rw [List.getD_eq_getElem?_getD, List.getElem?_eq_getElem hj]; exact List.getElem_mem hj)
  refine rises_ss (fun j => vs.getD j undef) l.length _ _ a cap w hl ?_ (fun j hj => ?_) (fun j hj => ?_)
  · rcases h2 with h | ⟨b, off, e, _, h⟩
    · exact Or.inl (by omega)
    · exact Or.inr ⟨b, off, e, fun j hj => h j (by omega)⟩
  · obtain ⟨ea, ec, e, r⟩ := h3 j hj
    show Calls Try.prog _ #[vs.getD j undef] w _
    rw [e]
    exact istextset ea _ ec w (hkj j hj) r
  · obtain ⟨ea, ec, e, r⟩ := h3 j (by omega)
    obtain ⟨ea', ec', e', r'⟩ := h3 (j + 1) hj
    show Calls Try.prog _ #[vs.getD j undef, vs.getD (j + 1) undef] w _
    rw [e, e']
    exact slcmp_s Value.string ⟨#[]⟩ ltS _ _ ea ea' ec ec' w (hkj j (by omega)) (hkj (j + 1) hj) r r' (fun x y => cmp_s x y w)
theorem rises_nsets (a : Option Addr) (l : List (List Int)) (cap : Nat) (w : World) (hl : l.length ≤ 140737488355328) (hk : ∀ x, x ∈ l → x.length ≤ 140737488355328) (h : RdL (Value.int .i64) w a l) : Calls Try.prog 50 #[.slice a l.length cap, .func (.func 51) #[] #[], .func (.func 52) #[] #[]] w fun e w' => e = .returned (.bool (l.all (setB shI ltI) && risB (ltL ltI) .none l)) ∧ w' = w := by
  rw [← risV_list l [] (setB shI ltI) (ltL ltI)]
  obtain ⟨vs, h1, h2, h3⟩ := h
  have hkj : ∀ j, j < l.length → (l.getD j []).length ≤ 140737488355328 := fun j hj => hk _ (by rw [List.getD_eq_getElem?_getD, List.getElem?_eq_getElem hj]; exact List.getElem_mem hj)
  refine rises_is (fun j => vs.getD j undef) l.length _ _ a cap w hl ?_ (fun j hj => ?_) (fun j hj => ?_)
  · rcases h2 with h | ⟨b, off, e, _, h⟩
    · exact Or.inl (by omega)
    · exact Or.inr ⟨b, off, e, fun j hj => h j (by omega)⟩
  · obtain ⟨ea, ec, e, r⟩ := h3 j hj
    show Calls Try.prog _ #[vs.getD j undef] w _
    rw [e]
    exact isnumset ea _ ec w (hkj j hj) r
  · obtain ⟨ea, ec, e, r⟩ := h3 j (by omega)
    obtain ⟨ea', ec', e', r'⟩ := h3 (j + 1) hj
    show Calls Try.prog _ #[vs.getD j undef, vs.getD (j + 1) undef] w _
    rw [e, e']
    exact slcmp_i (Value.int .i64) 0 ltI _ _ ea ea' ec ec' w (hkj j (by omega)) (hkj (j + 1) hj) r r' (fun x y => cmp_i x y w)
end Go.Proofs.Ytnclpdgbjefpmaa.L
