import Derived.Test.YtlhlpamciafocaaGreatDoorMgAQ
namespace Go.Proofs.YtlhlpamciafocaaGreatDoor.L
open Go.RowKit
set_option linter.unusedVariables false
set_option linter.unusedSimpArgs false
theorem bch {w W W' : World} (h : Below w.heap.size w W) (k : Below W.heap.size W W') : Below w.heap.size w W' := h.trans (k.mono h.size)
theorem bytes_inj {a b : ByteArray} (h : a.toList = b.toList) : a = b := by
  rw [ByteArray.toList_eq, ByteArray.toList_eq] at h
  exact ByteArray.ext (Array.toList_inj.1 h)
theorem list_getD_eq {a b : List Int} (hl : a.length = b.length) (h : ∀ j, j < a.length → a.getD j 0 = b.getD j 0) : a = b := by
  refine List.ext_getElem hl fun j h1 h2 => ?_
  have := h j h1
  rw [List.getD_eq_getElem?_getD, List.getD_eq_getElem?_getD, List.getElem?_eq_getElem h1, List.getElem?_eq_getElem h2] at this
  exact this
theorem pts_eq {A B : List Pt} (hl : A.length = B.length) (h : ∀ j, j < A.length → pt A j = pt B j) : A = B := by
  refine List.ext_getElem hl fun j h1 h2 => ?_
  have := h j h1
  unfold pt at this
  rw [List.getD_eq_getElem?_getD, List.getD_eq_getElem?_getD, List.getElem?_eq_getElem h1, List.getElem?_eq_getElem h2] at this
  exact this
set_option maxHeartbeats 8000000 in
set_option maxRecDepth 100000 in
theorem sametree_any (a b : Option Addr) (A B : List Pt) (ca cb : Nat) (w : World) (hA : PL w a A) (hB : PL w b B) (hn : A.length ≤ 1000) (hn2 : B.length ≤ 1000) (hk : ∀ j, j < A.length → (pt A j).kids.length ≤ 1000000) (hk2 : ∀ j, j < B.length → (pt B j).kids.length ≤ 1000000) :
    Calls Tryz.prog 13 #[.agg #[.slice a A.length ca], .agg #[.slice b B.length cb]] w fun e w' => ∃ r, e = .returned (.bool r) ∧ (r = true ↔ A = B) ∧ Below w.heap.size w w' := by
  obtain ⟨L, hL⟩ : ∃ L, L = A.length := ⟨_, rfl⟩
  obtain ⟨M, hM⟩ : ∃ M, M = B.length := ⟨_, rfl⟩
  have HA := hid hA
  have HB := hid hB
  have HL := hid hL
  have HM := hid hM
  have HK := hid hk
  have HK2 := hid hk2
  rw [← hL] at hn ⊢
  rw [← hM] at hn2 ⊢
  have hLm : L ≤ maxLen := by unfold maxLen; omega
  have hMm : M ≤ maxLen := by unfold maxLen; omega
  clear hA hB hL hM hk hk2
  have HB2 := hid (show Below w.heap.size w ((w.alloc (.cells #[.slice a L ca] 24)).alloc (.cells #[.slice b M cb] 24)) from (belowA w _).trans ((belowA _ _).mono (belowA w _).size))
  have HX1 := hid (show ((w.alloc (.cells #[.slice a L ca] 24)).alloc (.cells #[.slice b M cb] 24)).heap[w.heap.size]? = some (.cells #[.slice a L ca] 24 (0, 0)) from ((belowA (w.alloc (.cells #[.slice a L ca] 24)) _).block _ (by simp)).trans (heap_alloc_new w _))
  have HX2 := hid (show ((w.alloc (.cells #[.slice a L ca] 24)).alloc (.cells #[.slice b M cb] 24)).heap[w.heap.size + 1]? = some (.cells #[.slice b M cb] 24 (0, 0)) from (by have h1 := heap_alloc_new (w.alloc (.cells #[.slice a L ca] 24)) (.cells #[.slice b M cb] 24); rw [World.size_alloc] at h1; exact h1))
  go_enter Tryz.func13, Tryz.ntmps13
  go_upto_region 1 with fail
  generalize ((w.alloc (.cells #[.slice a L ca] 24)).alloc (.cells #[.slice b M cb] 24)) = X at *
  have HPA := hid (HA.out.low HB2.out)
  have HPB0 := hid (HB.out.low HB2.out)
  generalize hb0 : w.heap.size = b0 at *
  have HB0 := hid hb0
  clear hb0
  have x1 : X.cell? ⟨b0, 0, none⟩ = some (.slice a L ca) := cell_of_row _ _ 0 _ _ _ HX1.out
  have x2 : X.cell? ⟨b0 + 1, 0, none⟩ = some (.slice b M cb) := cell_of_row _ _ 0 _ _ _ HX2.out
  by_cases e0 : L = M
  case neg =>
    have f0 : ((L : Int) != (M : Int)) = true := by simp; omega
    go_wp2_with fail
    go_ret
    exact ⟨false, rfl, ⟨fun h => (by cases h), fun h => absurd (by rw [HL.out, HM.out, h]) e0⟩, by rw [HB0.out]; exact HB2.out⟩
  case pos =>
  have f0 : ((L : Int) != (M : Int)) = false := by simp; omega
  have HLM := hid e0
  clear e0
  go_wp2_with fail
  clear x1 x2 f0
  go_loopw [5] (fun i wr => ∃ k : Nat, k ≤ L ∧ i = .int .i64 k ∧ Hid (Below X.heap.size X wr) ∧ Hid (∀ j, j < k → pt A j = pt B j)) (fun i _ => L - (intOf i).toNat)
  case atStart => exact ⟨0, Nat.zero_le _, rfl, hid (Below.refl _ _), hid (fun j hj => absurd hj (Nat.not_lt_zero _))⟩
  case round =>
    obtain ⟨k, hk, rfl, HBW, HPS⟩ := hrel
    have x1 : wr.cell? ⟨b0, 0, none⟩ = some (.slice a L ca) := (HBW.out.cell (p := ⟨b0, 0, none⟩) (lt_blk HX1.out)).trans (cell_of_row _ _ 0 _ _ _ HX1.out)
    by_cases hlt : k < L
    · rcases HPA.out.low HBW.out with h9 | ⟨ga, oa, rfl, hga, hca⟩
      · have := HL.out; omega
      obtain ⟨ka, kc, q0, q1, q2, q3, rka⟩ := hca k (by rw [← HL.out]; exact hlt)
      rcases HPB0.out.low HBW.out with h9 | ⟨gb, ob, rfl, hgb, hcb⟩
      · have := HM.out; have := HLM.out; omega
      obtain ⟨la, lc, r0, r1, r2, r3, rkb⟩ := hcb k (by rw [← HM.out, ← HLM.out]; exact hlt)
      have hkn := HK.out k (by rw [← HL.out]; exact hlt)
      have hln := HK2.out k (by rw [← HM.out, ← HLM.out]; exact hlt)
      clear hca hcb
      obtain ⟨pa, hpa⟩ : ∃ pa, pa = pt A k := ⟨_, rfl⟩
      obtain ⟨qa, hqa⟩ : ∃ qa, qa = pt B k := ⟨_, rfl⟩
      rw [← hpa] at q0 q1 q2 q3 rka hkn
      rw [← hqa] at r0 r1 r2 r3 rkb hln
      obtain ⟨kd, tx, nu, kids⟩ := pa
      obtain ⟨ld, ux, mu, lids⟩ := qa
      have HEA := hid hpa
      have HEB := hid hqa
      clear hpa hqa
      simp only at q0 q1 q2 q3 rka hkn r0 r1 r2 r3 rkb hln
      obtain ⟨kn, hkl⟩ : ∃ kn, kn = kids.length := ⟨_, rfl⟩
      obtain ⟨ln, hll⟩ : ∃ ln, ln = lids.length := ⟨_, rfl⟩
      rw [← hkl] at q3 hkn
      rw [← hll] at r3 hln
      have HKL := hid hkl
      have HLL := hid hll
      have RK := hid rka
      have RL := hid rkb
      clear hkl hll rka rkb
      have g1 : (k : Int) < (L : Int) := by omega
      have g1' : (k : Int) < (M : Int) := by have := HLM.out; omega
      have g2 : (0 : Int) ≤ (k : Int) := by omega
      have hkm : kn ≤ maxLen := by unfold maxLen; omega
      have hlm : ln ≤ maxLen := by unfold maxLen; omega
      have x2 : wr.cell? ⟨b0 + 1, 0, none⟩ = some (.slice (some ⟨gb, ob, none⟩) M cb) := (HBW.out.cell (p := ⟨b0 + 1, 0, none⟩) (lt_blk HX2.out)).trans (cell_of_row _ _ 0 _ _ _ HX2.out)
      have hs1 : b0 < wr.heap.size := Nat.lt_of_lt_of_le (lt_blk HX1.out) HBW.out.size
      have hs2 : b0 + 1 < wr.heap.size := Nat.lt_of_lt_of_le (lt_blk HX2.out) HBW.out.size
      go_upto_region 6 with fail
      go_region
      · as_aux_lemma =>
        have b1 := belowA wr (.cells #[.int .i64 kd, .string tx, .int .i64 nu, .slice ka kn kc] 50)
        have b2' := belowA (wr.alloc (.cells #[.int .i64 kd, .string tx, .int .i64 nu, .slice ka kn kc] 50)) (.cells #[.int .i64 ld, .string ux, .int .i64 mu, .slice la ln lc] 50)
        have HV := hid (show Below wr.heap.size wr ((wr.alloc (.cells #[.int .i64 kd, .string tx, .int .i64 nu, .slice ka kn kc] 50)).alloc (.cells #[.int .i64 ld, .string ux, .int .i64 mu, .slice la ln lc] 50)).drew from (bch b1 b2').drew)
        have h1 := (b2'.block _ (lt_blk (heap_alloc_new wr (.cells #[.int .i64 kd, .string tx, .int .i64 nu, .slice ka kn kc] 50)))).trans (heap_alloc_new wr (.cells #[.int .i64 kd, .string tx, .int .i64 nu, .slice ka kn kc] 50))
        have h2 := heap_alloc_new (wr.alloc (.cells #[.int .i64 kd, .string tx, .int .i64 nu, .slice ka kn kc] 50)) (.cells #[.int .i64 ld, .string ux, .int .i64 mu, .slice la ln lc] 50)
        rw [World.size_alloc] at h2
        have HPB := hid (show ((wr.alloc (.cells #[.int .i64 kd, .string tx, .int .i64 nu, .slice ka kn kc] 50)).alloc (.cells #[.int .i64 ld, .string ux, .int .i64 mu, .slice la ln lc] 50)).drew.heap[wr.heap.size]? = _ from h1)
        have HQB := hid (show ((wr.alloc (.cells #[.int .i64 kd, .string tx, .int .i64 nu, .slice ka kn kc] 50)).alloc (.cells #[.int .i64 ld, .string ux, .int .i64 mu, .slice la ln lc] 50)).drew.heap[wr.heap.size + 1]? = _ from h2)
        clear b1 b2' h1 h2 q0 q1 q2 q3 r0 r1 r2 r3 x1 x2
        generalize ((wr.alloc (.cells #[.int .i64 kd, .string tx, .int .i64 nu, .slice ka kn kc] 50)).alloc (.cells #[.int .i64 ld, .string ux, .int .i64 mu, .slice la ln lc] 50)).drew = V at *
        generalize wr.heap.size + 1 = qb at *
        obtain ⟨pb, hpb⟩ : ∃ pb, pb = wr.heap.size := ⟨_, rfl⟩
        rw [← hpb] at HPB ⊢
        clear hpb
        have y0 : V.cell? ⟨pb, 0, none⟩ = some (.int .i64 kd) := cell_of_row _ _ 0 _ _ _ HPB.out
        have y1 : V.cell? ⟨pb, 1, none⟩ = some (.string tx) := cell_of_row _ _ 1 _ _ _ HPB.out
        have y2 : V.cell? ⟨pb, 2, none⟩ = some (.int .i64 nu) := cell_of_row _ _ 2 _ _ _ HPB.out
        have y3 : V.cell? ⟨pb, 3, none⟩ = some (.slice ka kn kc) := cell_of_row _ _ 3 _ _ _ HPB.out
        have z0 : V.cell? ⟨qb, 0, none⟩ = some (.int .i64 ld) := cell_of_row _ _ 0 _ _ _ HQB.out
        have z1 : V.cell? ⟨qb, 1, none⟩ = some (.string ux) := cell_of_row _ _ 1 _ _ _ HQB.out
        have z2 : V.cell? ⟨qb, 2, none⟩ = some (.int .i64 mu) := cell_of_row _ _ 2 _ _ _ HQB.out
        have z3 : V.cell? ⟨qb, 3, none⟩ = some (.slice la ln lc) := cell_of_row _ _ 3 _ _ _ HQB.out
        have BV := hid (bch HBW.out HV.out)
        have fin : ∀ W, Below V.heap.size V W → Below w.heap.size w W := fun W h => bch (show Below w.heap.size w wr from by rw [HB0.out]; exact HB2.out.trans (HBW.out.mono (by have := lt_blk HX1.out; omega))) (bch HV.out h)
        have FIN := hid fin
        clear fin
        by_cases e1 : kd = ld
        case neg =>
          have f1 : (kd != ld) = true := by simpa using e1
          go_wp2_with fail
          go_ret
          exact ⟨false, rfl, ⟨fun h => (by cases h), fun h => absurd (by rw [h] at HEA; exact (congrArg Pt.kind (HEA.out.trans HEB.out.symm))) e1⟩, FIN.out _ (by first | exact Below.refl _ _ | exact below_drewN (Below.refl _ _) _)⟩
        case pos =>
        subst e1
        have f1 : (kd != kd) = false := by simp
        by_cases e2 : tx = ux
        case neg =>
          have f2 : (tx.toList != ux.toList) = true := by simpa using fun h => e2 (bytes_inj h)
          go_wp2_with fail
          all_goals first | exact absurd (bytes_inj (by assumption)) e2 | skip
          go_ret
          exact ⟨false, rfl, ⟨fun h => (by cases h), fun h => absurd (by rw [h] at HEA; exact (congrArg Pt.text (HEA.out.trans HEB.out.symm))) e2⟩, FIN.out _ (by first | exact Below.refl _ _ | exact below_drewN (Below.refl _ _) _)⟩
        case pos =>
        subst e2
        have f2 : (tx.toList != tx.toList) = false := by simp
        by_cases e3 : nu = mu
        case neg =>
          have f3 : (nu != mu) = true := by simpa using e3
          go_wp2_with fail
          go_ret
          exact ⟨false, rfl, ⟨fun h => (by cases h), fun h => absurd (by rw [h] at HEA; exact (congrArg Pt.num (HEA.out.trans HEB.out.symm))) e3⟩, FIN.out _ (by first | exact Below.refl _ _ | exact below_drewN (Below.refl _ _) _)⟩
        case pos =>
        subst e3
        have f3 : (nu != nu) = false := by simp
        by_cases e4 : kn = ln
        case neg =>
          have f4 : ((kn : Int) != (ln : Int)) = true := by simp; omega
          go_wp2_with fail
          go_ret
          exact ⟨false, rfl, ⟨fun h => (by cases h), fun h => absurd (by rw [HKL.out, HLL.out]; rw [h] at HEA; exact (congrArg (fun p => p.kids.length) (HEA.out.trans HEB.out.symm) : kids.length = lids.length)) e4⟩, FIN.out _ (by first | exact Below.refl _ _ | exact below_drewN (Below.refl _ _) _)⟩
        case pos =>
        subst e4
        have f4 : ((kn : Int) != (kn : Int)) = false := by simp
        have RKV := hid (RK.out.low HV.out (Nat.le_refl _))
        have RLV := hid (RL.out.low HV.out (Nat.le_refl _))
        go_wp2_with fail
        clear y0 y1 y2 y3 z0 z1 z2 z3 f1 f2 f3 f4
        go_loopw [8] (fun i wr2 => ∃ q : Nat, q ≤ kn ∧ i = .int .i64 q ∧ Hid (∃ m, wr2 = V.drewN m) ∧ Hid (∀ j, j < q → kids.getD j 0 = lids.getD j 0)) (fun i _ => kn - (intOf i).toNat)
        case atStart => exact ⟨0, Nat.zero_le _, rfl, hid ⟨0, rfl⟩, hid (fun j hj => absurd hj (Nat.not_lt_zero _))⟩
        case round =>
          obtain ⟨q, hq, rfl, HM, HQS⟩ := hrel
          obtain ⟨m0, hm0⟩ := HM.out
          have HMM := hid hm0
          clear HM
          have y3 : wr.cell? ⟨pb, 3, none⟩ = some (.slice ka kn kc) := by rw [hm0]; exact cell_of_row _ _ 3 _ _ _ HPB.out
          have z3 : wr.cell? ⟨qb, 3, none⟩ = some (.slice la kn lc) := by rw [hm0]; exact cell_of_row _ _ 3 _ _ _ HQB.out
          by_cases hqn : q < kn
          · rcases RKV.out with h9 | ⟨ha, pa2, rfl, hal, hac⟩
            · have := HKL.out; omega
            rcases RLV.out with h9 | ⟨hb, pb2, rfl, hbl, hbc⟩
            · have := HLL.out; omega
            have p0 := hac q (by rw [← HKL.out]; exact hqn)
            have p1 := hbc q (by rw [← HLL.out]; exact hqn)
            have p0 : wr.cell? ⟨ha, pa2 + q, none⟩ = some (.int .i64 (kids.getD q 0)) := by rw [hm0]; exact p0
            have p1 : wr.cell? ⟨hb, pb2 + q, none⟩ = some (.int .i64 (lids.getD q 0)) := by rw [hm0]; exact p1
            clear hac hbc hm0
            have HXX := hid (fun (h : kids.getD q 0 = lids.getD q 0) => h)
            generalize hx : kids.getD q 0 = x at *
            generalize hy : lids.getD q 0 = y at *
            have HX := hid hx
            have HY := hid hy
            clear hx hy HXX
            have g3 : (q : Int) < (kn : Int) := by omega
            have g4 : (0 : Int) ≤ (q : Int) := by omega
            have g5 : (q : Int) ≤ 1000000 := by omega
            by_cases e5 : x = y
            · have f5 : (x != y) = false := by simpa using e5
              have HE5 := hid e5
              clear e5
              go_wp2_with fail
              go_quiet (fail)
              go_wp2_with fail
              refine ⟨⟨q + 1, by omega, by go_num, hid ⟨m0 + nq, by rw [HMM.out, World.drewN_drewN]⟩, hid fun j hj => ?_⟩, by simp [intOf]; omega⟩
              by_cases hj2 : j < q
              · exact HQS.out j hj2
              · obtain rfl : j = q := by omega
                rw [HX.out, HY.out]
                exact HE5.out
            · have f5 : (x != y) = true := by simpa using e5
              have HE5 := hid e5
              clear e5
              go_wp2_with fail
              go_quiet (fail)
              go_wp2_with fail
              go_ret
              exact ⟨false, rfl, ⟨fun h => (by cases h), fun h => absurd (by rw [← HX.out, ← HY.out]; rw [h] at HEA; exact (congrArg (fun p => p.kids.getD q 0) (HEA.out.trans HEB.out.symm) : kids.getD q 0 = lids.getD q 0)) HE5.out⟩, FIN.out _ (by rw [HMM.out]; exact below_drewN (below_drewN (Below.refl _ _) _) _)⟩
          · obtain rfl : q = kn := by omega
            clear hm0
            go_wp2_with fail
            refine ⟨⟨k + 1, by omega, by go_num, hid (by rw [HMM.out]; exact below_drewN BV.out _), hid fun j hj => ?_⟩, by simp [intOf]; omega⟩
            by_cases hj2 : j < k
            · exact HPS.out j hj2
            · obtain rfl : j = k := by omega
              have hk9 : kids = lids := list_getD_eq (by rw [← HKL.out, ← HLL.out]) (fun j hj => HQS.out j (by rw [HKL.out]; exact hj))
              rw [← HEA.out, ← HEB.out, hk9]
      · as_aux_lemma =>
        have b1 := belowA wr (.cells #[.int .i64 ld, .string ux, .int .i64 mu, .slice la ln lc] 50)
        have b2' := belowA (wr.alloc (.cells #[.int .i64 ld, .string ux, .int .i64 mu, .slice la ln lc] 50)) (.cells #[.int .i64 kd, .string tx, .int .i64 nu, .slice ka kn kc] 50)
        have HV := hid (show Below wr.heap.size wr ((wr.alloc (.cells #[.int .i64 ld, .string ux, .int .i64 mu, .slice la ln lc] 50)).alloc (.cells #[.int .i64 kd, .string tx, .int .i64 nu, .slice ka kn kc] 50)).drew from (bch b1 b2').drew)
        have h1 := (b2'.block _ (lt_blk (heap_alloc_new wr (.cells #[.int .i64 ld, .string ux, .int .i64 mu, .slice la ln lc] 50)))).trans (heap_alloc_new wr (.cells #[.int .i64 ld, .string ux, .int .i64 mu, .slice la ln lc] 50))
        have h2 := heap_alloc_new (wr.alloc (.cells #[.int .i64 ld, .string ux, .int .i64 mu, .slice la ln lc] 50)) (.cells #[.int .i64 kd, .string tx, .int .i64 nu, .slice ka kn kc] 50)
        rw [World.size_alloc] at h2
        have HQB := hid (show ((wr.alloc (.cells #[.int .i64 ld, .string ux, .int .i64 mu, .slice la ln lc] 50)).alloc (.cells #[.int .i64 kd, .string tx, .int .i64 nu, .slice ka kn kc] 50)).drew.heap[wr.heap.size]? = _ from h1)
        have HPB := hid (show ((wr.alloc (.cells #[.int .i64 ld, .string ux, .int .i64 mu, .slice la ln lc] 50)).alloc (.cells #[.int .i64 kd, .string tx, .int .i64 nu, .slice ka kn kc] 50)).drew.heap[wr.heap.size + 1]? = _ from h2)
        clear b1 b2' h1 h2 q0 q1 q2 q3 r0 r1 r2 r3 x1 x2
        generalize ((wr.alloc (.cells #[.int .i64 ld, .string ux, .int .i64 mu, .slice la ln lc] 50)).alloc (.cells #[.int .i64 kd, .string tx, .int .i64 nu, .slice ka kn kc] 50)).drew = V at *
        generalize wr.heap.size + 1 = pb at *
        obtain ⟨qb, hpb⟩ : ∃ qb, qb = wr.heap.size := ⟨_, rfl⟩
        rw [← hpb] at HQB ⊢
        clear hpb
        have y0 : V.cell? ⟨pb, 0, none⟩ = some (.int .i64 kd) := cell_of_row _ _ 0 _ _ _ HPB.out
        have y1 : V.cell? ⟨pb, 1, none⟩ = some (.string tx) := cell_of_row _ _ 1 _ _ _ HPB.out
        have y2 : V.cell? ⟨pb, 2, none⟩ = some (.int .i64 nu) := cell_of_row _ _ 2 _ _ _ HPB.out
        have y3 : V.cell? ⟨pb, 3, none⟩ = some (.slice ka kn kc) := cell_of_row _ _ 3 _ _ _ HPB.out
        have z0 : V.cell? ⟨qb, 0, none⟩ = some (.int .i64 ld) := cell_of_row _ _ 0 _ _ _ HQB.out
        have z1 : V.cell? ⟨qb, 1, none⟩ = some (.string ux) := cell_of_row _ _ 1 _ _ _ HQB.out
        have z2 : V.cell? ⟨qb, 2, none⟩ = some (.int .i64 mu) := cell_of_row _ _ 2 _ _ _ HQB.out
        have z3 : V.cell? ⟨qb, 3, none⟩ = some (.slice la ln lc) := cell_of_row _ _ 3 _ _ _ HQB.out
        have BV := hid (bch HBW.out HV.out)
        have fin : ∀ W, Below V.heap.size V W → Below w.heap.size w W := fun W h => bch (show Below w.heap.size w wr from by rw [HB0.out]; exact HB2.out.trans (HBW.out.mono (by have := lt_blk HX1.out; omega))) (bch HV.out h)
        have FIN := hid fin
        clear fin
        by_cases e1 : kd = ld
        case neg =>
          have f1 : (kd != ld) = true := by simpa using e1
          go_wp2_with fail
          go_ret
          exact ⟨false, rfl, ⟨fun h => (by cases h), fun h => absurd (by rw [h] at HEA; exact (congrArg Pt.kind (HEA.out.trans HEB.out.symm))) e1⟩, FIN.out _ (by first | exact Below.refl _ _ | exact below_drewN (Below.refl _ _) _)⟩
        case pos =>
        subst e1
        have f1 : (kd != kd) = false := by simp
        by_cases e2 : tx = ux
        case neg =>
          have f2 : (tx.toList != ux.toList) = true := by simpa using fun h => e2 (bytes_inj h)
          go_wp2_with fail
          all_goals first | exact absurd (bytes_inj (by assumption)) e2 | skip
          go_ret
          exact ⟨false, rfl, ⟨fun h => (by cases h), fun h => absurd (by rw [h] at HEA; exact (congrArg Pt.text (HEA.out.trans HEB.out.symm))) e2⟩, FIN.out _ (by first | exact Below.refl _ _ | exact below_drewN (Below.refl _ _) _)⟩
        case pos =>
        subst e2
        have f2 : (tx.toList != tx.toList) = false := by simp
        by_cases e3 : nu = mu
        case neg =>
          have f3 : (nu != mu) = true := by simpa using e3
          go_wp2_with fail
          go_ret
          exact ⟨false, rfl, ⟨fun h => (by cases h), fun h => absurd (by rw [h] at HEA; exact (congrArg Pt.num (HEA.out.trans HEB.out.symm))) e3⟩, FIN.out _ (by first | exact Below.refl _ _ | exact below_drewN (Below.refl _ _) _)⟩
        case pos =>
        subst e3
        have f3 : (nu != nu) = false := by simp
        by_cases e4 : kn = ln
        case neg =>
          have f4 : ((kn : Int) != (ln : Int)) = true := by simp; omega
          go_wp2_with fail
          go_ret
          exact ⟨false, rfl, ⟨fun h => (by cases h), fun h => absurd (by rw [HKL.out, HLL.out]; rw [h] at HEA; exact (congrArg (fun p => p.kids.length) (HEA.out.trans HEB.out.symm) : kids.length = lids.length)) e4⟩, FIN.out _ (by first | exact Below.refl _ _ | exact below_drewN (Below.refl _ _) _)⟩
        case pos =>
        subst e4
        have f4 : ((kn : Int) != (kn : Int)) = false := by simp
        have RKV := hid (RK.out.low HV.out (Nat.le_refl _))
        have RLV := hid (RL.out.low HV.out (Nat.le_refl _))
        go_wp2_with fail
        clear y0 y1 y2 y3 z0 z1 z2 z3 f1 f2 f3 f4
        go_loopw [8] (fun i wr2 => ∃ q : Nat, q ≤ kn ∧ i = .int .i64 q ∧ Hid (∃ m, wr2 = V.drewN m) ∧ Hid (∀ j, j < q → kids.getD j 0 = lids.getD j 0)) (fun i _ => kn - (intOf i).toNat)
        case atStart => exact ⟨0, Nat.zero_le _, rfl, hid ⟨0, rfl⟩, hid (fun j hj => absurd hj (Nat.not_lt_zero _))⟩
        case round =>
          obtain ⟨q, hq, rfl, HM, HQS⟩ := hrel
          obtain ⟨m0, hm0⟩ := HM.out
          have HMM := hid hm0
          clear HM
          have y3 : wr.cell? ⟨pb, 3, none⟩ = some (.slice ka kn kc) := by rw [hm0]; exact cell_of_row _ _ 3 _ _ _ HPB.out
          have z3 : wr.cell? ⟨qb, 3, none⟩ = some (.slice la kn lc) := by rw [hm0]; exact cell_of_row _ _ 3 _ _ _ HQB.out
          by_cases hqn : q < kn
          · rcases RKV.out with h9 | ⟨ha, pa2, rfl, hal, hac⟩
            · have := HKL.out; omega
            rcases RLV.out with h9 | ⟨hb, pb2, rfl, hbl, hbc⟩
            · have := HLL.out; omega
            have p0 := hac q (by rw [← HKL.out]; exact hqn)
            have p1 := hbc q (by rw [← HLL.out]; exact hqn)
            have p0 : wr.cell? ⟨ha, pa2 + q, none⟩ = some (.int .i64 (kids.getD q 0)) := by rw [hm0]; exact p0
            have p1 : wr.cell? ⟨hb, pb2 + q, none⟩ = some (.int .i64 (lids.getD q 0)) := by rw [hm0]; exact p1
            clear hac hbc hm0
            have HXX := hid (fun (h : kids.getD q 0 = lids.getD q 0) => h)
            generalize hx : kids.getD q 0 = x at *
            generalize hy : lids.getD q 0 = y at *
            have HX := hid hx
            have HY := hid hy
            clear hx hy HXX
            have g3 : (q : Int) < (kn : Int) := by omega
            have g4 : (0 : Int) ≤ (q : Int) := by omega
            have g5 : (q : Int) ≤ 1000000 := by omega
            by_cases e5 : x = y
            · have f5 : (x != y) = false := by simpa using e5
              have HE5 := hid e5
              clear e5
              go_wp2_with fail
              go_quiet (fail)
              go_wp2_with fail
              refine ⟨⟨q + 1, by omega, by go_num, hid ⟨m0 + nq, by rw [HMM.out, World.drewN_drewN]⟩, hid fun j hj => ?_⟩, by simp [intOf]; omega⟩
              by_cases hj2 : j < q
              · exact HQS.out j hj2
              · obtain rfl : j = q := by omega
                rw [HX.out, HY.out]
                exact HE5.out
            · have f5 : (x != y) = true := by simpa using e5
              have HE5 := hid e5
              clear e5
              go_wp2_with fail
              go_quiet (fail)
              go_wp2_with fail
              go_ret
              exact ⟨false, rfl, ⟨fun h => (by cases h), fun h => absurd (by rw [← HX.out, ← HY.out]; rw [h] at HEA; exact (congrArg (fun p => p.kids.getD q 0) (HEA.out.trans HEB.out.symm) : kids.getD q 0 = lids.getD q 0)) HE5.out⟩, FIN.out _ (by rw [HMM.out]; exact below_drewN (below_drewN (Below.refl _ _) _) _)⟩
          · obtain rfl : q = kn := by omega
            clear hm0
            go_wp2_with fail
            refine ⟨⟨k + 1, by omega, by go_num, hid (by rw [HMM.out]; exact below_drewN BV.out _), hid fun j hj => ?_⟩, by simp [intOf]; omega⟩
            by_cases hj2 : j < k
            · exact HPS.out j hj2
            · obtain rfl : j = k := by omega
              have hk9 : kids = lids := list_getD_eq (by rw [← HKL.out, ← HLL.out]) (fun j hj => HQS.out j (by rw [HKL.out]; exact hj))
              rw [← HEA.out, ← HEB.out, hk9]
    · obtain rfl : k = L := by omega
      go_wp2_with fail
      go_ret
      exact ⟨true, rfl, ⟨fun _ => pts_eq (by rw [← HL.out, ← HM.out]; exact HLM.out) (fun j hj => HPS.out j (by rw [HL.out]; exact hj)), fun _ => rfl⟩, by rw [HB0.out]; exact HB2.out.trans (HBW.out.mono (by have := lt_blk HX1.out; omega))⟩
end Go.Proofs.YtlhlpamciafocaaGreatDoor.L
