import Derived.Test.YtnclpdgbjefpmaaGw
import Derived.Test.YtnclpdgbjefpmaaGm
namespace Go.Proofs.Ytnclpdgbjefpmaa.L
open Go.RowKit
set_option linter.unusedVariables false
set_option linter.unusedSimpArgs false
def SmE2 (p : Pg) (e : Ending) : Prop := ∃ z, e = .returned (.bool z) ∧ (z = true → SmN p) ∧ (z = false → formB p = false)
theorem set_cnt {α : Type} {sh : α → Bool} {lt : α → α → Bool} {x : List α} (h : setB sh lt x = true) : x.length ≤ 1000 := by
  unfold setB inR at h
  simp only [Bool.and_eq_true, decide_eq_true_eq] at h
  omega
set_option maxHeartbeats 4000000 in
set_option maxRecDepth 100000 in
theorem small2_any (pv : Array Value) (p : Pg) (w : World) (hp : PgR w pv p) (gp : GdP p) : Calls Try.prog 10 #[.agg pv] w fun e w' => SmE2 p e ∧ Below w.heap.size w w' := by
  obtain ⟨a0, c0, a1, c1, a2, c2, a3, c3, a4, c4, rfl, r0, r1, r2, r3, r4⟩ := hp.ex
  have R2 := hid r2
  have R3 := hid r3
  have HGP := hid gp
  clear hp gp r0 r1 r2 r3 r4
  obtain ⟨L0, hL0⟩ : ∃ L, L = p.tx.length := ⟨_, rfl⟩
  obtain ⟨L1, hL1⟩ : ∃ L, L = p.nu.length := ⟨_, rfl⟩
  obtain ⟨L2, hL2⟩ : ∃ L, L = p.st.length := ⟨_, rfl⟩
  obtain ⟨L3, hL3⟩ : ∃ L, L = p.ns.length := ⟨_, rfl⟩
  obtain ⟨L4, hL4⟩ : ∃ L, L = p.cd.length := ⟨_, rfl⟩
  rw [← hL0, ← hL1, ← hL2, ← hL3, ← hL4]
  have HL0 := hid hL0
  have eL0 : L0 ≤ 140737488355328 := by rw [hL0]; exact HGP.out.tx
  have mL0 : L0 ≤ maxLen := by unfold maxLen; omega
  have HL1 := hid hL1
  have eL1 : L1 ≤ 140737488355328 := by rw [hL1]; exact HGP.out.nu
  have mL1 : L1 ≤ maxLen := by unfold maxLen; omega
  have HL2 := hid hL2
  have eL2 : L2 ≤ 140737488355328 := by rw [hL2]; exact HGP.out.st
  have mL2 : L2 ≤ maxLen := by unfold maxLen; omega
  have HL3 := hid hL3
  have eL3 : L3 ≤ 140737488355328 := by rw [hL3]; exact HGP.out.ns
  have mL3 : L3 ≤ maxLen := by unfold maxLen; omega
  have HL4 := hid hL4
  have eL4 : L4 ≤ 140737488355328 := by rw [hL4]; exact HGP.out.cd
  have mL4 : L4 ≤ maxLen := by unfold maxLen; omega
  clear hL0 hL1 hL2 hL3 hL4
  have HB1 := hid (belowA w (.cells #[.slice a0 L0 c0, .slice a1 L1 c1, .slice a2 L2 c2, .slice a3 L3 c3, .slice a4 L4 c4, .int .i64 p.dep, .int .i64 p.loc] 30))
  have HX1 := hid (heap_alloc_new w (.cells #[.slice a0 L0 c0, .slice a1 L1 c1, .slice a2 L2 c2, .slice a3 L3 c3, .slice a4 L4 c4, .int .i64 p.dep, .int .i64 p.loc] 30))
  go_enter Try.func10, Try.ntmps10
  go_upto_region 1 with fail
  generalize w.alloc (.cells #[.slice a0 L0 c0, .slice a1 L1 c1, .slice a2 L2 c2, .slice a3 L3 c3, .slice a4 L4 c4, .int .i64 p.dep, .int .i64 p.loc] 30) = W1 at *
  obtain ⟨pb, hpb⟩ : ∃ b, b = w.heap.size := ⟨_, rfl⟩
  rw [← hpb] at HX1 ⊢
  clear hpb
  have x0 : W1.cell? ⟨pb, 0, none⟩ = some (.slice a0 L0 c0) := cell_of_row _ _ 0 _ _ _ HX1.out
  have x1 : W1.cell? ⟨pb, 1, none⟩ = some (.slice a1 L1 c1) := cell_of_row _ _ 1 _ _ _ HX1.out
  have x2 : W1.cell? ⟨pb, 2, none⟩ = some (.slice a2 L2 c2) := cell_of_row _ _ 2 _ _ _ HX1.out
  have x3 : W1.cell? ⟨pb, 3, none⟩ = some (.slice a3 L3 c3) := cell_of_row _ _ 3 _ _ _ HX1.out
  have x4 : W1.cell? ⟨pb, 4, none⟩ = some (.slice a4 L4 c4) := cell_of_row _ _ 4 _ _ _ HX1.out
  have w1 : IntKind.i64.wrap ((L0 : Int) + (L1 : Int)) = ((L0 + L1 : Nat) : Int) := by rw [IntKind.wrap_i64]; omega
  have w2 : IntKind.i64.wrap ((((L0 + L1 : Nat) : Int)) + (L2 : Int)) = ((L0 + L1 + L2 : Nat) : Int) := by rw [IntKind.wrap_i64]; omega
  have w3 : IntKind.i64.wrap ((((L0 + L1 + L2 : Nat) : Int)) + (L3 : Int)) = ((L0 + L1 + L2 + L3 : Nat) : Int) := by rw [IntKind.wrap_i64]; omega
  have w4 : IntKind.i64.wrap ((((L0 + L1 + L2 + L3 : Nat) : Int)) + (L4 : Int)) = ((L0 + L1 + L2 + L3 + L4 : Nat) : Int) := by rw [IntKind.wrap_i64]; omega
  go_wp2_with fail
  go_loopw [3, 4] (fun nn i wr => ∃ (N k : Nat), k ≤ L2 ∧ nn = .int .i64 (N : Int) ∧ i = .int .i64 (k : Int) ∧ L0 + L1 + L2 + L3 + L4 ≤ N ∧ N ≤ 1125899906842624 ∧ Hid (Fm p → N ≤ 36864 + 1000 * k) ∧ Hid (wr = W1) ∧ Hid (∀ j, j < k → (p.st.getD j []).length ≤ N)) (fun _ i _ => L2 - (intOf i).toNat)
  case atStart => exact ⟨L0 + L1 + L2 + L3 + L4, 0, Nat.zero_le _, by go_num, rfl, Nat.le_refl _, by omega, hid (fun h => by have h1 := h.pool; have h2 := h.code; rw [← HL0.out, ← HL1.out, ← HL2.out, ← HL3.out] at h1; rw [← HL4.out] at h2; omega), hid (by first | rfl | trivial), hid (fun j hj => absurd hj (Nat.not_lt_zero j))⟩
  case round =>
    obtain ⟨N, k, hk, rfl, rfl, hN, hM, HFM, HW, HK⟩ := hrel
    have hW := HW.out.symm
    subst hW
    clear HW
    by_cases hlt : k < L2
    · have g1 : (k : Int) < (L2 : Int) := by omega
      have g2 : (0 : Int) ≤ (k : Int) := by omega
      by_cases hs : N < 8388608
      · have g3 : (N : Int) < 8388608 := by omega
        obtain ⟨b, off, ea, ec, hae, hbb, hcc, hrr⟩ := rdl_at (R2.out.low HB1.out) (show k < p.st.length from by rw [← HL2.out]; exact hlt)
        subst hae
        have hn := HGP.out.sk (p.st.getD k []) (by rw [List.getD_eq_getElem?_getD, List.getElem?_eq_getElem (by rw [← HL2.out]; exact hlt)]; exact List.getElem_mem _)
        obtain ⟨n, hne⟩ : ∃ n, n = (p.st.getD k []).length := ⟨_, rfl⟩
        rw [← hne] at hcc hn
        have HNE := hid hne
        have hnm : n ≤ maxLen := by unfold maxLen; omega
        have g6 : IntKind.i64.wrap ((N : Int) + (n : Int)) = ((N + n : Nat) : Int) := by rw [IntKind.wrap_i64]; omega
        clear hbb hrr hne
        go_wp2_with fail
        exact ⟨⟨N + n, k + 1, by omega, by go_num, by go_num, by omega, by omega, hid (fun h => by have h1 := HFM.out h; have h2 := set_cnt (h.st (p.st.getD k []) (by rw [List.getD_eq_getElem?_getD, List.getElem?_eq_getElem (by rw [← HL2.out]; exact hlt)]; exact List.getElem_mem _)); rw [← HNE.out] at h2; omega), hid (by first | rfl | trivial), hid (fun j hj => by
          by_cases hj2 : j < k
          · have := HK.out j hj2; omega
          · obtain rfl : j = k := by omega
            rw [← HNE.out]; omega)⟩, by simp [intOf]; omega⟩
      · have g3 : ¬ (N : Int) < 8388608 := by omega
        have g4 : (8388608 : Int) ≤ (N : Int) := by omega
        have HKN := hid (show N < 8388608 → ∀ j, j < L2 → (p.st.getD j []).length ≤ N from fun h => absurd h hs)
        clear HK
        go_wp2_with fail
        clear g3 g4 hs
        go_loopw [3, 5] (fun nn i wr => ∃ (N k : Nat), k ≤ L3 ∧ nn = .int .i64 (N : Int) ∧ i = .int .i64 (k : Int) ∧ L0 + L1 + L2 + L3 + L4 ≤ N ∧ N ≤ 1125899906842624 ∧ Hid (Fm p → N ≤ 36864 + 1000 * (L2 + k)) ∧ Hid (wr = W1) ∧ Hid (∀ j, j < k → (p.ns.getD j []).length ≤ N) ∧ Hid (N < 8388608 → ∀ j, j < L2 → (p.st.getD j []).length ≤ N)) (fun _ i _ => L3 - (intOf i).toNat)
        case atStart => exact ⟨N, 0, Nat.zero_le _, rfl, rfl, hN, hM, hid (fun h => by have h1 := HFM.out h; omega), hid (by first | rfl | trivial), hid (fun j hj => absurd hj (Nat.not_lt_zero j)), HKN⟩
        case round =>
          obtain ⟨N, k, hk, rfl, rfl, hN, hM, HFM, HW, HK, HKEEP⟩ := hrel
          have hW := HW.out.symm
          subst hW
          clear HW
          by_cases hlt : k < L3
          · have g1 : (k : Int) < (L3 : Int) := by omega
            have g2 : (0 : Int) ≤ (k : Int) := by omega
            by_cases hs : N < 8388608
            · have g3 : (N : Int) < 8388608 := by omega
              obtain ⟨b, off, ea, ec, hae, hbb, hcc, hrr⟩ := rdl_at (R3.out.low HB1.out) (show k < p.ns.length from by rw [← HL3.out]; exact hlt)
              subst hae
              have hn := HGP.out.nk (p.ns.getD k []) (by rw [List.getD_eq_getElem?_getD, List.getElem?_eq_getElem (by rw [← HL3.out]; exact hlt)]; exact List.getElem_mem _)
              obtain ⟨n, hne⟩ : ∃ n, n = (p.ns.getD k []).length := ⟨_, rfl⟩
              rw [← hne] at hcc hn
              have HNE := hid hne
              have hnm : n ≤ maxLen := by unfold maxLen; omega
              have g6 : IntKind.i64.wrap ((N : Int) + (n : Int)) = ((N + n : Nat) : Int) := by rw [IntKind.wrap_i64]; omega
              clear hbb hrr hne
              go_wp2_with fail
              exact ⟨⟨N + n, k + 1, by omega, by go_num, by go_num, by omega, by omega, hid (fun h => by have h1 := HFM.out h; have h2 := set_cnt (h.ns (p.ns.getD k []) (by rw [List.getD_eq_getElem?_getD, List.getElem?_eq_getElem (by rw [← HL3.out]; exact hlt)]; exact List.getElem_mem _)); rw [← HNE.out] at h2; omega), hid (by first | rfl | trivial), hid (fun j hj => by
                by_cases hj2 : j < k
                · have := HK.out j hj2; omega
                · obtain rfl : j = k := by omega
                  rw [← HNE.out]; omega), hid (fun h j hj => by have := HKEEP.out hs j hj; omega)⟩, by simp [intOf]; omega⟩
            · have g3 : ¬ (N : Int) < 8388608 := by omega
              have g4 : (8388608 : Int) ≤ (N : Int) := by omega
              have HKN := hid (show N < 8388608 → ∀ j, j < L3 → (p.ns.getD j []).length ≤ N from fun h => absurd h hs)
              clear HK
              go_wp2_with fail
              go_ret
              exact ⟨⟨false, by first | rfl | simp, (fun h => by cases h), fun _ => by
                cases hf : formB p with
                | false => rfl
                | true =>
                  have hm := (formB_iff p).1 hf
                  have h1 := HFM.out hm
                  have h2 := hm.pool
                  rw [← HL2.out, ← HL3.out] at h2
                  omega⟩, HB1.out⟩
          · obtain rfl : k = L3 := by omega
            have g1 : ¬ (k : Int) < (k : Int) := by omega
            by_cases hs : N < 8388608
            · have g3 : (N : Int) < 8388608 := by omega
              have HSN := hid (show SmN p from ⟨by rw [← HL0.out]; omega, by rw [← HL1.out]; omega, by rw [← HL2.out]; omega, by rw [← HL3.out]; omega, by rw [← HL4.out]; omega, fun j hj => by have := HKEEP.out hs j (by rw [HL2.out]; exact hj); omega, fun j hj => by have := HK.out j (by rw [HL3.out]; exact hj); omega⟩)
              go_wp2_with fail
              go_ret
              exact ⟨⟨true, by first | rfl | simp, (fun h => HSN.out), fun h => by cases h⟩, HB1.out⟩
            · have g3 : ¬ (N : Int) < 8388608 := by omega
              have g4 : (8388608 : Int) ≤ (N : Int) := by omega
              go_wp2_with fail
              go_ret
              exact ⟨⟨false, by first | rfl | simp, (fun h => by cases h), fun _ => by
                cases hf : formB p with
                | false => rfl
                | true =>
                  have hm := (formB_iff p).1 hf
                  have h1 := HFM.out hm
                  have h2 := hm.pool
                  rw [← HL2.out, ← HL3.out] at h2
                  omega⟩, HB1.out⟩
    · obtain rfl : L2 = k := by omega
      have g1 : ¬ (L2 : Int) < (L2 : Int) := by omega
      have HKN := hid (show N < 8388608 → ∀ j, j < L2 → (p.st.getD j []).length ≤ N from fun _ => HK.out)
      clear HK
      by_cases hs : N < 8388608
      · have g3 : (N : Int) < 8388608 := by omega
        go_wp2_with fail
        clear g3 hs
        go_loopw [3, 5] (fun nn i wr => ∃ (N k : Nat), k ≤ L3 ∧ nn = .int .i64 (N : Int) ∧ i = .int .i64 (k : Int) ∧ L0 + L1 + L2 + L3 + L4 ≤ N ∧ N ≤ 1125899906842624 ∧ Hid (Fm p → N ≤ 36864 + 1000 * (L2 + k)) ∧ Hid (wr = W1) ∧ Hid (∀ j, j < k → (p.ns.getD j []).length ≤ N) ∧ Hid (N < 8388608 → ∀ j, j < L2 → (p.st.getD j []).length ≤ N)) (fun _ i _ => L3 - (intOf i).toNat)
        case atStart => exact ⟨N, 0, Nat.zero_le _, rfl, rfl, hN, hM, hid (fun h => by have h1 := HFM.out h; omega), hid (by first | rfl | trivial), hid (fun j hj => absurd hj (Nat.not_lt_zero j)), HKN⟩
        case round =>
          obtain ⟨N, k, hk, rfl, rfl, hN, hM, HFM, HW, HK, HKEEP⟩ := hrel
          have hW := HW.out.symm
          subst hW
          clear HW
          by_cases hlt : k < L3
          · have g1 : (k : Int) < (L3 : Int) := by omega
            have g2 : (0 : Int) ≤ (k : Int) := by omega
            by_cases hs : N < 8388608
            · have g3 : (N : Int) < 8388608 := by omega
              obtain ⟨b, off, ea, ec, hae, hbb, hcc, hrr⟩ := rdl_at (R3.out.low HB1.out) (show k < p.ns.length from by rw [← HL3.out]; exact hlt)
              subst hae
              have hn := HGP.out.nk (p.ns.getD k []) (by rw [List.getD_eq_getElem?_getD, List.getElem?_eq_getElem (by rw [← HL3.out]; exact hlt)]; exact List.getElem_mem _)
              obtain ⟨n, hne⟩ : ∃ n, n = (p.ns.getD k []).length := ⟨_, rfl⟩
              rw [← hne] at hcc hn
              have HNE := hid hne
              have hnm : n ≤ maxLen := by unfold maxLen; omega
              have g6 : IntKind.i64.wrap ((N : Int) + (n : Int)) = ((N + n : Nat) : Int) := by rw [IntKind.wrap_i64]; omega
              clear hbb hrr hne
              go_wp2_with fail
              exact ⟨⟨N + n, k + 1, by omega, by go_num, by go_num, by omega, by omega, hid (fun h => by have h1 := HFM.out h; have h2 := set_cnt (h.ns (p.ns.getD k []) (by rw [List.getD_eq_getElem?_getD, List.getElem?_eq_getElem (by rw [← HL3.out]; exact hlt)]; exact List.getElem_mem _)); rw [← HNE.out] at h2; omega), hid (by first | rfl | trivial), hid (fun j hj => by
                by_cases hj2 : j < k
                · have := HK.out j hj2; omega
                · obtain rfl : j = k := by omega
                  rw [← HNE.out]; omega), hid (fun h j hj => by have := HKEEP.out hs j hj; omega)⟩, by simp [intOf]; omega⟩
            · have g3 : ¬ (N : Int) < 8388608 := by omega
              have g4 : (8388608 : Int) ≤ (N : Int) := by omega
              have HKN := hid (show N < 8388608 → ∀ j, j < L3 → (p.ns.getD j []).length ≤ N from fun h => absurd h hs)
              clear HK
              go_wp2_with fail
              go_ret
              exact ⟨⟨false, by first | rfl | simp, (fun h => by cases h), fun _ => by
                cases hf : formB p with
                | false => rfl
                | true =>
                  have hm := (formB_iff p).1 hf
                  have h1 := HFM.out hm
                  have h2 := hm.pool
                  rw [← HL2.out, ← HL3.out] at h2
                  omega⟩, HB1.out⟩
          · obtain rfl : k = L3 := by omega
            have g1 : ¬ (k : Int) < (k : Int) := by omega
            by_cases hs : N < 8388608
            · have g3 : (N : Int) < 8388608 := by omega
              have HSN := hid (show SmN p from ⟨by rw [← HL0.out]; omega, by rw [← HL1.out]; omega, by rw [← HL2.out]; omega, by rw [← HL3.out]; omega, by rw [← HL4.out]; omega, fun j hj => by have := HKEEP.out hs j (by rw [HL2.out]; exact hj); omega, fun j hj => by have := HK.out j (by rw [HL3.out]; exact hj); omega⟩)
              go_wp2_with fail
              go_ret
              exact ⟨⟨true, by first | rfl | simp, (fun h => HSN.out), fun h => by cases h⟩, HB1.out⟩
            · have g3 : ¬ (N : Int) < 8388608 := by omega
              have g4 : (8388608 : Int) ≤ (N : Int) := by omega
              go_wp2_with fail
              go_ret
              exact ⟨⟨false, by first | rfl | simp, (fun h => by cases h), fun _ => by
                cases hf : formB p with
                | false => rfl
                | true =>
                  have hm := (formB_iff p).1 hf
                  have h1 := HFM.out hm
                  have h2 := hm.pool
                  rw [← HL2.out, ← HL3.out] at h2
                  omega⟩, HB1.out⟩
      · have g3 : ¬ (N : Int) < 8388608 := by omega
        have g4 : (8388608 : Int) ≤ (N : Int) := by omega
        go_wp2_with fail
        clear g3 g4 hs
        go_loopw [3, 5] (fun nn i wr => ∃ (N k : Nat), k ≤ L3 ∧ nn = .int .i64 (N : Int) ∧ i = .int .i64 (k : Int) ∧ L0 + L1 + L2 + L3 + L4 ≤ N ∧ N ≤ 1125899906842624 ∧ Hid (Fm p → N ≤ 36864 + 1000 * (L2 + k)) ∧ Hid (wr = W1) ∧ Hid (∀ j, j < k → (p.ns.getD j []).length ≤ N) ∧ Hid (N < 8388608 → ∀ j, j < L2 → (p.st.getD j []).length ≤ N)) (fun _ i _ => L3 - (intOf i).toNat)
        case atStart => exact ⟨N, 0, Nat.zero_le _, rfl, rfl, hN, hM, hid (fun h => by have h1 := HFM.out h; omega), hid (by first | rfl | trivial), hid (fun j hj => absurd hj (Nat.not_lt_zero j)), HKN⟩
        case round =>
          obtain ⟨N, k, hk, rfl, rfl, hN, hM, HFM, HW, HK, HKEEP⟩ := hrel
          have hW := HW.out.symm
          subst hW
          clear HW
          by_cases hlt : k < L3
          · have g1 : (k : Int) < (L3 : Int) := by omega
            have g2 : (0 : Int) ≤ (k : Int) := by omega
            by_cases hs : N < 8388608
            · have g3 : (N : Int) < 8388608 := by omega
              obtain ⟨b, off, ea, ec, hae, hbb, hcc, hrr⟩ := rdl_at (R3.out.low HB1.out) (show k < p.ns.length from by rw [← HL3.out]; exact hlt)
              subst hae
              have hn := HGP.out.nk (p.ns.getD k []) (by rw [List.getD_eq_getElem?_getD, List.getElem?_eq_getElem (by rw [← HL3.out]; exact hlt)]; exact List.getElem_mem _)
              obtain ⟨n, hne⟩ : ∃ n, n = (p.ns.getD k []).length := ⟨_, rfl⟩
              rw [← hne] at hcc hn
              have HNE := hid hne
              have hnm : n ≤ maxLen := by unfold maxLen; omega
              have g6 : IntKind.i64.wrap ((N : Int) + (n : Int)) = ((N + n : Nat) : Int) := by rw [IntKind.wrap_i64]; omega
              clear hbb hrr hne
              go_wp2_with fail
              exact ⟨⟨N + n, k + 1, by omega, by go_num, by go_num, by omega, by omega, hid (fun h => by have h1 := HFM.out h; have h2 := set_cnt (h.ns (p.ns.getD k []) (by rw [List.getD_eq_getElem?_getD, List.getElem?_eq_getElem (by rw [← HL3.out]; exact hlt)]; exact List.getElem_mem _)); rw [← HNE.out] at h2; omega), hid (by first | rfl | trivial), hid (fun j hj => by
                by_cases hj2 : j < k
                · have := HK.out j hj2; omega
                · obtain rfl : j = k := by omega
                  rw [← HNE.out]; omega), hid (fun h j hj => by have := HKEEP.out hs j hj; omega)⟩, by simp [intOf]; omega⟩
            · have g3 : ¬ (N : Int) < 8388608 := by omega
              have g4 : (8388608 : Int) ≤ (N : Int) := by omega
              have HKN := hid (show N < 8388608 → ∀ j, j < L3 → (p.ns.getD j []).length ≤ N from fun h => absurd h hs)
              clear HK
              go_wp2_with fail
              go_ret
              exact ⟨⟨false, by first | rfl | simp, (fun h => by cases h), fun _ => by
                cases hf : formB p with
                | false => rfl
                | true =>
                  have hm := (formB_iff p).1 hf
                  have h1 := HFM.out hm
                  have h2 := hm.pool
                  rw [← HL2.out, ← HL3.out] at h2
                  omega⟩, HB1.out⟩
          · obtain rfl : k = L3 := by omega
            have g1 : ¬ (k : Int) < (k : Int) := by omega
            by_cases hs : N < 8388608
            · have g3 : (N : Int) < 8388608 := by omega
              have HSN := hid (show SmN p from ⟨by rw [← HL0.out]; omega, by rw [← HL1.out]; omega, by rw [← HL2.out]; omega, by rw [← HL3.out]; omega, by rw [← HL4.out]; omega, fun j hj => by have := HKEEP.out hs j (by rw [HL2.out]; exact hj); omega, fun j hj => by have := HK.out j (by rw [HL3.out]; exact hj); omega⟩)
              go_wp2_with fail
              go_ret
              exact ⟨⟨true, by first | rfl | simp, (fun h => HSN.out), fun h => by cases h⟩, HB1.out⟩
            · have g3 : ¬ (N : Int) < 8388608 := by omega
              have g4 : (8388608 : Int) ≤ (N : Int) := by omega
              go_wp2_with fail
              go_ret
              exact ⟨⟨false, by first | rfl | simp, (fun h => by cases h), fun _ => by
                cases hf : formB p with
                | false => rfl
                | true =>
                  have hm := (formB_iff p).1 hf
                  have h1 := HFM.out hm
                  have h2 := hm.pool
                  rw [← HL2.out, ← HL3.out] at h2
                  omega⟩, HB1.out⟩
end Go.Proofs.Ytnclpdgbjefpmaa.L
