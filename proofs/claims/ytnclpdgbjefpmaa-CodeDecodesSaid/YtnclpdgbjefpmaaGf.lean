import Derived.Test.YtnclpdgbjefpmaaGe
namespace Go.Proofs.Ytnclpdgbjefpmaa.L
open Go.RowKit
set_option linter.unusedVariables false
set_option linter.unusedSimpArgs false
theorem ltS_irr (x : ByteArray) : ltS x x = false := less_irrefl _
theorem ltS_tri (x y : ByteArray) (h1 : ltS x y = false) (h2 : ltS y x = false) : x = y := by
  rcases less_total x.toList y.toList with h | h | h
  · unfold ltS at h1; rw [h] at h1; cases h1
  · exact bytes_inj h
  · unfold ltS at h2; rw [h] at h2; cases h2
theorem ltI_irr (x : Int) : ltI x x = false := by unfold ltI; simp
theorem ltI_tri (x y : Int) (h1 : ltI x y = false) (h2 : ltI y x = false) : x = y := by
  unfold ltI at h1 h2
  simp only [decide_eq_false_iff_not] at h1 h2
  omega
theorem ltL_irr {α : Type} {lt : α → α → Bool} (hi : ∀ x, lt x x = false) : ∀ l : List α, ltL lt l l = false
  | [] => rfl
  | x :: r => by rw [ltL, hi x]; exact ltL_irr hi r
theorem ltL_tri {α : Type} {lt : α → α → Bool} (ht : ∀ x y, lt x y = false → lt y x = false → x = y) : ∀ a b : List α, ltL lt a b = false → ltL lt b a = false → a = b
  | [], [], _, _ => rfl
  | [], _ :: _, h, _ => by cases h
  | _ :: _, [], _, h => by cases h
  | x :: r, y :: s, h1, h2 => by
    rw [ltL] at h1 h2
    cases hxy : lt x y with
    | true => rw [hxy] at h1; cases h1
    | false =>
      cases hyx : lt y x with
      | true => rw [hxy, hyx] at h2; cases h2
      | false =>
        rw [hxy, hyx] at h1 h2
        rw [ht x y hxy hyx, ltL_tri ht r s h1 h2]
/-- Two lists of which neither is ahead of the other are one. -/
def smB {α : Type} (lt : α → α → Bool) (a b : List α) : Bool := !ltL lt a b && !ltL lt b a
theorem smS_iff (a b : List ByteArray) : smB ltS a b = true ↔ a = b := by
  unfold smB
  simp only [Bool.and_eq_true, Bool.not_eq_true']
  exact ⟨fun h => ltL_tri ltS_tri a b h.1 h.2, fun h => by subst h; exact ⟨ltL_irr ltS_irr _, ltL_irr ltS_irr _⟩⟩
theorem smI_iff (a b : List Int) : smB ltI a b = true ↔ a = b := by
  unfold smB
  simp only [Bool.and_eq_true, Bool.not_eq_true']
  exact ⟨fun h => ltL_tri ltI_tri a b h.1 h.2, fun h => by subst h; exact ⟨ltL_irr ltI_irr _, ltL_irr ltI_irr _⟩⟩
set_option maxHeartbeats 4000000 in
set_option maxRecDepth 100000 in
theorem less_s (A B : List ByteArray) (a b : Option Addr) (ca cb : Nat) (w : World) (hA : A.length ≤ 140737488355328) (hB : B.length ≤ 140737488355328) (hRA : RdV w a (A.map Value.string)) (hRB : RdV w b (B.map Value.string)) :
    Calls Try.prog 67 #[.slice a A.length ca, .slice b B.length cb] w fun e w' => e = .returned (.bool (ltL ltS A B)) ∧ Below w.heap.size w w' := by
  obtain ⟨res, hres⟩ : ∃ r, r = ltL ltS A B := ⟨_, rfl⟩
  rw [← hres]
  have HRES := hid hres
  obtain ⟨L, hL⟩ : ∃ L, L = A.length := ⟨_, rfl⟩
  obtain ⟨M, hM⟩ : ∃ M, M = B.length := ⟨_, rfl⟩
  have HRA := hid hRA
  have HRB := hid hRB
  clear hRA hRB hres
  rw [← hL] at hA ⊢
  rw [← hM] at hB ⊢
  have HL := hid hL
  have HM := hid hM
  clear hL hM
  have hLm : L ≤ maxLen := by unfold maxLen; omega
  have hMm : M ≤ maxLen := by unfold maxLen; omega
  go_enter Try.func67, Try.ntmps67
  go_wp2_with fail
  go_loopw [5] (fun i wr => ∃ k : Nat, k ≤ L ∧ i = .int .i64 k ∧ Hid (Below w.heap.size w wr) ∧ Hid (k ≤ M ∧ alikeT ltS A B ⟨#[]⟩ k)) (fun i _ => L - (intOf i).toNat)
  case atStart => exact ⟨0, Nat.zero_le _, rfl, hid (Below.refl _ _), hid ⟨Nat.zero_le _, fun j hj => absurd hj (Nat.not_lt_zero j)⟩⟩
  case round =>
    obtain ⟨k, hk, rfl, HB, HK⟩ := hrel
    by_cases hlt : k < L
    · have g1 : (k : Int) < (L : Int) := by omega
      have g2 : (0 : Int) ≤ (k : Int) := by omega
      by_cases hkM : k < M
      · have g3 : (k : Int) < (M : Int) := by omega
        obtain ⟨x, hx⟩ : ∃ x, x = A.getD k ⟨#[]⟩ := ⟨_, rfl⟩
        obtain ⟨y, hy⟩ : ∃ y, y = B.getD k ⟨#[]⟩ := ⟨_, rfl⟩
        have HX := hid hx
        have HY := hid hy
        have HRJ := hid (fun (Y : World) (hY : Below w.heap.size w Y) => (HRA.out.low hY).row ⟨#[]⟩)
        have HRK := hid (fun (Y : World) (hY : Below w.heap.size w Y) => (HRB.out.low hY).row ⟨#[]⟩)
        obtain ⟨g, off, rfl, hc⟩ : ∃ g off, a = some ⟨g, off, none⟩ ∧ ∀ Y, Below w.heap.size w Y → Y.cell? ⟨g, off + k, none⟩ = some (Value.string x) := by
          rcases HRJ.out w (Below.refl _ _) with h0 | ⟨g, off, e, h⟩
          · have := HL.out; omega
          · refine ⟨g, off, e, fun Y hY => ?_⟩
            rcases HRJ.out Y hY with h0 | ⟨g', off', e', h'⟩
            · have := HL.out; omega
            · rw [e] at e'
              injection e' with e'
              injection e' with e1 e2 _
              subst e1 e2
              rw [hx]
              exact h' k (by rw [← HL.out]; exact hlt)
        obtain ⟨g', off', rfl, hc'⟩ : ∃ g off, b = some ⟨g, off, none⟩ ∧ ∀ Y, Below w.heap.size w Y → Y.cell? ⟨g, off + k, none⟩ = some (Value.string y) := by
          rcases HRK.out w (Below.refl _ _) with h0 | ⟨g, off, e, h⟩
          · have := HM.out; omega
          · refine ⟨g, off, e, fun Y hY => ?_⟩
            rcases HRK.out Y hY with h0 | ⟨g', off', e', h'⟩
            · have := HM.out; omega
            · rw [e] at e'
              injection e' with e'
              injection e' with e1 e2 _
              subst e1 e2
              rw [hy]
              exact h' k (by rw [← HM.out]; exact hkM)
        have HC := hid hc
        have HC' := hid hc'
        clear hc hc' hx hy HRJ HRK
        have p0 := HC.out wr HB.out
        have p1 := HC'.out wr HB.out
        cases h1 : ltS x y with
        | true =>
          have HF := hid (show ltL ltS A B = true from ltL_yes (by rw [← HL.out]; exact hlt) (by rw [← HM.out]; exact hkM) HK.out.2 (by rw [← HX.out, ← HY.out]; exact h1))
          have h3 : (x.toList == y.toList) = false := by
            simp only [beq_eq_false_iff_ne, ne_eq]
            intro h
            unfold ltS at h1
            rw [h, less_irrefl] at h1
            cases h1
          have h4 : (x.toList != y.toList) = true := by rw [bne, h3]; rfl
          have h5 : Op.bytesLess x.toList y.toList = true := h1
          clear h1
          go_upto_region 4 with fail
          go_quiet (fail)
          have HD1 := hid (HB.out.trans ((drew_below wr nq).mono HB.out.size))
          generalize wr.drewN nq = V at *
          clear p0 p1
          have p0 := HC.out V HD1.out
          have p1 := HC'.out V HD1.out
          go_upto_region 5 with fail
          go_quiet (fail)
          have HD2 := hid (HD1.out.trans ((drew_below V nq).mono HD1.out.size))
          generalize V.drewN nq = U at *
          go_wp2_with fail
          go_ret
          exact ⟨by rw [HRES.out, HF.out]; first | rfl | simp, HD2.out⟩
        | false =>
          cases h2 : ltS y x with
          | true =>
            have HF := hid (show ltL ltS A B = false from ltL_no (by rw [← HL.out]; exact hlt) (by rw [← HM.out]; exact hkM) HK.out.2 (by rw [← HX.out, ← HY.out]; exact h1) (by rw [← HX.out, ← HY.out]; exact h2))
            have h3 : (x.toList == y.toList) = false := by
              simp only [beq_eq_false_iff_ne, ne_eq]
              intro h
              unfold ltS at h2
              rw [h, less_irrefl] at h2
              cases h2
            have h4 : (x.toList != y.toList) = true := by rw [bne, h3]; rfl
            have h5 : Op.bytesLess x.toList y.toList = false := h1
            clear h1 h2
            go_upto_region 4 with fail
            go_quiet (fail)
            have HD1 := hid (HB.out.trans ((drew_below wr nq).mono HB.out.size))
            generalize wr.drewN nq = V at *
            clear p0 p1
            have p0 := HC.out V HD1.out
            have p1 := HC'.out V HD1.out
            go_upto_region 5 with fail
            go_quiet (fail)
            have HD2 := hid (HD1.out.trans ((drew_below V nq).mono HD1.out.size))
            generalize V.drewN nq = U at *
            go_wp2_with fail
            go_ret
            exact ⟨by rw [HRES.out, HF.out]; first | rfl | simp, HD2.out⟩
          | false =>
            have HBB := hid (And.intro h1 h2)
            have hxy := ltS_tri x y h1 h2
            have h3 : (x.toList == y.toList) = true := by rw [hxy]; simp
            have h4 : (x.toList != y.toList) = false := by rw [bne, h3]; rfl
            clear h1 h2 hxy
            go_upto_region 4 with fail
            go_quiet (fail)
            have HD1 := hid (HB.out.trans ((drew_below wr nq).mono HB.out.size))
            generalize wr.drewN nq = V at *
            clear p0 p1
            go_wp2_with fail
            refine ⟨⟨k + 1, by omega, by go_num, HD1, hid ⟨by omega, fun j hj => ?_⟩⟩, by simp [intOf]; omega⟩
            by_cases hj2 : j < k
            · exact HK.out.2 j hj2
            · obtain rfl : j = k := by omega
              rw [← HX.out, ← HY.out]
              exact HBB.out
      · have HF := hid (ltL_end (lt := ltS) (by rw [← HL.out]; exact hk) (by rw [← HM.out]; exact HK.out.1) HK.out.2 (Or.inr (by rw [← HM.out]; have := HK.out.1; omega)))
        rw [← HL.out, ← HM.out] at HF
        have g3 : ¬ (k : Int) < (M : Int) := by omega
        have g4 : (M : Int) ≤ (k : Int) := by omega
        have g5 : ¬ (L : Int) < (M : Int) := by omega
        have g6 : (M : Int) ≤ (L : Int) := by omega
        have HZ := hid (show res = false from by rw [HRES.out, HF.out]; simp; omega)
        clear HF
        go_wp2_with fail
        go_ret
        exact ⟨by rw [HZ.out]; first | rfl | simp | (simp; omega), HB.out⟩
    · obtain rfl : k = L := by omega
      have HF := hid (ltL_end (lt := ltS) (by rw [← HL.out]; exact Nat.le_refl _) (by rw [← HM.out]; exact HK.out.1) HK.out.2 (Or.inl HL.out))
      rw [← HL.out, ← HM.out] at HF
      have g1 : ¬ (k : Int) < (k : Int) := by omega
      by_cases hkM : k < M
      · have g3 : (k : Int) < (M : Int) := by omega
        have HZ := hid (show res = true from by rw [HRES.out, HF.out]; simp; omega)
        clear HF
        go_wp2_with fail
        go_ret
        exact ⟨by rw [HZ.out]; first | rfl | simp | (simp; omega), HB.out⟩
      · have g3 : ¬ (k : Int) < (M : Int) := by omega
        have g4 : (M : Int) ≤ (k : Int) := by omega
        have HZ := hid (show res = false from by rw [HRES.out, HF.out]; simp; omega)
        clear HF
        go_wp2_with fail
        go_ret
        exact ⟨by rw [HZ.out]; first | rfl | simp | (simp; omega), HB.out⟩
set_option maxHeartbeats 4000000 in
set_option maxRecDepth 100000 in
theorem less_i (A B : List Int) (a b : Option Addr) (ca cb : Nat) (w : World) (hA : A.length ≤ 140737488355328) (hB : B.length ≤ 140737488355328) (hRA : RdV w a (A.map (Value.int .i64))) (hRB : RdV w b (B.map (Value.int .i64))) :
    Calls Try.prog 68 #[.slice a A.length ca, .slice b B.length cb] w fun e w' => e = .returned (.bool (ltL ltI A B)) ∧ Below w.heap.size w w' := by
  obtain ⟨res, hres⟩ : ∃ r, r = ltL ltI A B := ⟨_, rfl⟩
  rw [← hres]
  have HRES := hid hres
  obtain ⟨L, hL⟩ : ∃ L, L = A.length := ⟨_, rfl⟩
  obtain ⟨M, hM⟩ : ∃ M, M = B.length := ⟨_, rfl⟩
  have HRA := hid hRA
  have HRB := hid hRB
  clear hRA hRB hres
  rw [← hL] at hA ⊢
  rw [← hM] at hB ⊢
  have HL := hid hL
  have HM := hid hM
  clear hL hM
  have hLm : L ≤ maxLen := by unfold maxLen; omega
  have hMm : M ≤ maxLen := by unfold maxLen; omega
  go_enter Try.func68, Try.ntmps68
  go_wp2_with fail
  go_loopw [5] (fun i wr => ∃ k : Nat, k ≤ L ∧ i = .int .i64 k ∧ Hid (Below w.heap.size w wr) ∧ Hid (k ≤ M ∧ alikeT ltI A B 0 k)) (fun i _ => L - (intOf i).toNat)
  case atStart => exact ⟨0, Nat.zero_le _, rfl, hid (Below.refl _ _), hid ⟨Nat.zero_le _, fun j hj => absurd hj (Nat.not_lt_zero j)⟩⟩
  case round =>
    obtain ⟨k, hk, rfl, HB, HK⟩ := hrel
    by_cases hlt : k < L
    · have g1 : (k : Int) < (L : Int) := by omega
      have g2 : (0 : Int) ≤ (k : Int) := by omega
      by_cases hkM : k < M
      · have g3 : (k : Int) < (M : Int) := by omega
        obtain ⟨x, hx⟩ : ∃ x, x = A.getD k 0 := ⟨_, rfl⟩
        obtain ⟨y, hy⟩ : ∃ y, y = B.getD k 0 := ⟨_, rfl⟩
        have HX := hid hx
        have HY := hid hy
        have HRJ := hid (fun (Y : World) (hY : Below w.heap.size w Y) => (HRA.out.low hY).row 0)
        have HRK := hid (fun (Y : World) (hY : Below w.heap.size w Y) => (HRB.out.low hY).row 0)
        obtain ⟨g, off, rfl, hc⟩ : ∃ g off, a = some ⟨g, off, none⟩ ∧ ∀ Y, Below w.heap.size w Y → Y.cell? ⟨g, off + k, none⟩ = some ((Value.int .i64) x) := by
          rcases HRJ.out w (Below.refl _ _) with h0 | ⟨g, off, e, h⟩
          · have := HL.out; omega
          · refine ⟨g, off, e, fun Y hY => ?_⟩
            rcases HRJ.out Y hY with h0 | ⟨g', off', e', h'⟩
            · have := HL.out; omega
            · rw [e] at e'
              injection e' with e'
              injection e' with e1 e2 _
              subst e1 e2
              rw [hx]
              exact h' k (by rw [← HL.out]; exact hlt)
        obtain ⟨g', off', rfl, hc'⟩ : ∃ g off, b = some ⟨g, off, none⟩ ∧ ∀ Y, Below w.heap.size w Y → Y.cell? ⟨g, off + k, none⟩ = some ((Value.int .i64) y) := by
          rcases HRK.out w (Below.refl _ _) with h0 | ⟨g, off, e, h⟩
          · have := HM.out; omega
          · refine ⟨g, off, e, fun Y hY => ?_⟩
            rcases HRK.out Y hY with h0 | ⟨g', off', e', h'⟩
            · have := HM.out; omega
            · rw [e] at e'
              injection e' with e'
              injection e' with e1 e2 _
              subst e1 e2
              rw [hy]
              exact h' k (by rw [← HM.out]; exact hkM)
        have HC := hid hc
        have HC' := hid hc'
        clear hc hc' hx hy HRJ HRK
        have p0 := HC.out wr HB.out
        have p1 := HC'.out wr HB.out
        cases h1 : ltI x y with
        | true =>
          have HF := hid (show ltL ltI A B = true from ltL_yes (by rw [← HL.out]; exact hlt) (by rw [← HM.out]; exact hkM) HK.out.2 (by rw [← HX.out, ← HY.out]; exact h1))
          have h5 : x < y := by simpa [ltI] using h1
          have h3 : (x == y) = false := by simp; omega
          have h4 : (x != y) = true := by simp; omega
          have h6 : x ≠ y := by omega
          clear h1
          go_upto_region 4 with fail
          go_quiet (fail)
          have HD1 := hid (HB.out.trans ((drew_below wr nq).mono HB.out.size))
          generalize wr.drewN nq = V at *
          clear p0 p1
          have p0 := HC.out V HD1.out
          have p1 := HC'.out V HD1.out
          go_upto_region 5 with fail
          go_quiet (fail)
          have HD2 := hid (HD1.out.trans ((drew_below V nq).mono HD1.out.size))
          generalize V.drewN nq = U at *
          go_wp2_with fail
          go_ret
          exact ⟨by rw [HRES.out, HF.out]; first | rfl | simp, HD2.out⟩
        | false =>
          cases h2 : ltI y x with
          | true =>
            have HF := hid (show ltL ltI A B = false from ltL_no (by rw [← HL.out]; exact hlt) (by rw [← HM.out]; exact hkM) HK.out.2 (by rw [← HX.out, ← HY.out]; exact h1) (by rw [← HX.out, ← HY.out]; exact h2))
            have h5' : y < x := by simpa [ltI] using h2
            have h5 : ¬ x < y := by omega
            have h7 : y ≤ x := by omega
            have h3 : (x == y) = false := by simp; omega
            have h4 : (x != y) = true := by simp; omega
            have h6 : x ≠ y := by omega
            clear h1 h2
            go_upto_region 4 with fail
            go_quiet (fail)
            have HD1 := hid (HB.out.trans ((drew_below wr nq).mono HB.out.size))
            generalize wr.drewN nq = V at *
            clear p0 p1
            have p0 := HC.out V HD1.out
            have p1 := HC'.out V HD1.out
            go_upto_region 5 with fail
            go_quiet (fail)
            have HD2 := hid (HD1.out.trans ((drew_below V nq).mono HD1.out.size))
            generalize V.drewN nq = U at *
            go_wp2_with fail
            go_ret
            exact ⟨by rw [HRES.out, HF.out]; first | rfl | simp, HD2.out⟩
          | false =>
            have HBB := hid (And.intro h1 h2)
            have hxy := ltI_tri x y h1 h2
            have h3 : (x == y) = true := by simp; omega
            have h4 : (x != y) = false := by simp; omega
            clear h1 h2 hxy
            go_upto_region 4 with fail
            go_quiet (fail)
            have HD1 := hid (HB.out.trans ((drew_below wr nq).mono HB.out.size))
            generalize wr.drewN nq = V at *
            clear p0 p1
            go_wp2_with fail
            refine ⟨⟨k + 1, by omega, by go_num, HD1, hid ⟨by omega, fun j hj => ?_⟩⟩, by simp [intOf]; omega⟩
            by_cases hj2 : j < k
            · exact HK.out.2 j hj2
            · obtain rfl : j = k := by omega
              rw [← HX.out, ← HY.out]
              exact HBB.out
      · have HF := hid (ltL_end (lt := ltI) (by rw [← HL.out]; exact hk) (by rw [← HM.out]; exact HK.out.1) HK.out.2 (Or.inr (by rw [← HM.out]; have := HK.out.1; omega)))
        rw [← HL.out, ← HM.out] at HF
        have g3 : ¬ (k : Int) < (M : Int) := by omega
        have g4 : (M : Int) ≤ (k : Int) := by omega
        have g5 : ¬ (L : Int) < (M : Int) := by omega
        have g6 : (M : Int) ≤ (L : Int) := by omega
        have HZ := hid (show res = false from by rw [HRES.out, HF.out]; simp; omega)
        clear HF
        go_wp2_with fail
        go_ret
        exact ⟨by rw [HZ.out]; first | rfl | simp | (simp; omega), HB.out⟩
    · obtain rfl : k = L := by omega
      have HF := hid (ltL_end (lt := ltI) (by rw [← HL.out]; exact Nat.le_refl _) (by rw [← HM.out]; exact HK.out.1) HK.out.2 (Or.inl HL.out))
      rw [← HL.out, ← HM.out] at HF
      have g1 : ¬ (k : Int) < (k : Int) := by omega
      by_cases hkM : k < M
      · have g3 : (k : Int) < (M : Int) := by omega
        have HZ := hid (show res = true from by rw [HRES.out, HF.out]; simp; omega)
        clear HF
        go_wp2_with fail
        go_ret
        exact ⟨by rw [HZ.out]; first | rfl | simp | (simp; omega), HB.out⟩
      · have g3 : ¬ (k : Int) < (M : Int) := by omega
        have g4 : (M : Int) ≤ (k : Int) := by omega
        have HZ := hid (show res = false from by rw [HRES.out, HF.out]; simp; omega)
        clear HF
        go_wp2_with fail
        go_ret
        exact ⟨by rw [HZ.out]; first | rfl | simp | (simp; omega), HB.out⟩
set_option maxHeartbeats 1000000 in
theorem same_s (A B : List ByteArray) (a b : Option Addr) (ca cb : Nat) (w : World) (hA : A.length ≤ 140737488355328) (hB : B.length ≤ 140737488355328) (hRA : RdV w a (A.map Value.string)) (hRB : RdV w b (B.map Value.string)) :
    Calls Try.prog 38 #[.slice a A.length ca, .slice b B.length cb] w fun e w' => e = .returned (.bool (smB ltS A B)) ∧ Below w.heap.size w w' := by
  have H1 := hid (less_s A B a b ca cb w hA hB hRA hRB)
  have H2 := hid (fun (w1 : World) (h : Below w.heap.size w w1) => less_s B A b a cb ca w1 hB hA (hRB.low h) (hRA.low h))
  unfold smB
  clear hRA hRB
  generalize A.length = L at *
  generalize B.length = M at *
  cases h1 : ltL ltS A B with
  | true =>
    rw [h1] at H1
    clear h1
    go_enter Try.func38, Try.ntmps38
    go_wp2_with fail
    refine H1.out.mono ?_
    rintro e w1 ⟨rfl, l1⟩
    have HL1 := hid l1
    clear l1
    go_wp2_with fail
    go_ret
    exact ⟨by simp, HL1.out⟩
  | false =>
    rw [h1] at H1
    clear h1
    generalize ltL ltS B A = z at *
    go_enter Try.func38, Try.ntmps38
    go_wp2_with fail
    refine H1.out.mono ?_
    rintro e w1 ⟨rfl, l1⟩
    have HL1 := hid l1
    clear l1
    go_wp2_with fail
    refine (H2.out w1 HL1.out).mono ?_
    rintro e w2 ⟨rfl, l2⟩
    have HL2 := hid (bch HL1.out l2)
    clear l2
    go_wp2_with fail
    go_ret
    exact ⟨by simp, HL2.out⟩
set_option maxHeartbeats 1000000 in
theorem same_i (A B : List Int) (a b : Option Addr) (ca cb : Nat) (w : World) (hA : A.length ≤ 140737488355328) (hB : B.length ≤ 140737488355328) (hRA : RdV w a (A.map (Value.int .i64))) (hRB : RdV w b (B.map (Value.int .i64))) :
    Calls Try.prog 39 #[.slice a A.length ca, .slice b B.length cb] w fun e w' => e = .returned (.bool (smB ltI A B)) ∧ Below w.heap.size w w' := by
  have H1 := hid (less_i A B a b ca cb w hA hB hRA hRB)
  have H2 := hid (fun (w1 : World) (h : Below w.heap.size w w1) => less_i B A b a cb ca w1 hB hA (hRB.low h) (hRA.low h))
  unfold smB
  clear hRA hRB
  generalize A.length = L at *
  generalize B.length = M at *
  cases h1 : ltL ltI A B with
  | true =>
    rw [h1] at H1
    clear h1
    go_enter Try.func39, Try.ntmps39
    go_wp2_with fail
    refine H1.out.mono ?_
    rintro e w1 ⟨rfl, l1⟩
    have HL1 := hid l1
    clear l1
    go_wp2_with fail
    go_ret
    exact ⟨by simp, HL1.out⟩
  | false =>
    rw [h1] at H1
    clear h1
    generalize ltL ltI B A = z at *
    go_enter Try.func39, Try.ntmps39
    go_wp2_with fail
    refine H1.out.mono ?_
    rintro e w1 ⟨rfl, l1⟩
    have HL1 := hid l1
    clear l1
    go_wp2_with fail
    refine (H2.out w1 HL1.out).mono ?_
    rintro e w2 ⟨rfl, l2⟩
    have HL2 := hid (bch HL1.out l2)
    clear l2
    go_wp2_with fail
    go_ret
    exact ⟨by simp, HL2.out⟩
end Go.Proofs.Ytnclpdgbjefpmaa.L
