import Derived.Test.YtfbagkajbnomoaaQ5
namespace Go.Proofs.Ytfbagkajbnomoaa.L
open Go.RowKit Rg Qu
set_option linter.unusedVariables false
set_option linter.unusedSimpArgs false
theorem lay_grow {C D R X : List Value} {k6 : Nat} (hC : C.length = k6) (hX : X.length = 6) (hR : 6 ≤ R.length) :
    let A1 := (C ++ R).take k6 ++ X ++ (C ++ R).drop (k6 + 6)
    ∃ S, A1.take (k6 + 6) ++ D ++ A1.drop (k6 + 6 + D.length) = C ++ X ++ D ++ S := by
  intro A1
  have e1 : A1 = (C ++ X) ++ (C ++ R).drop (k6 + 6) := by
    show (C ++ R).take k6 ++ X ++ _ = _
    rw [List.take_left' hC]
  refine ⟨A1.drop (k6 + 6 + D.length), ?_⟩
  rw [show A1.take (k6 + 6) = C ++ X from by rw [e1, List.take_left' (by simp [hC, hX])]]
set_option maxHeartbeats 4000000 in
set_option maxRecDepth 100000 in
theorem ins_grow {W : World} {B g cap : Nat} {l : List Wt} (hr : W.ownsRow B 63 6 (.slice (some ⟨g, 0, none⟩) l.length cap) l.length (rowX wtV l)) (k : Nat) (hk : k < l.length) (x : Wt) (vb : Nat) (hv : W.heap[vb]? = some (.cells (wtV x) 63 (0, 0))) (hl : l.length < 4096) (hroom : cap < l.length + 1) (hB : B ≤ W.heap.size) :
    Calls Try.prog 49 #[.slice (some ⟨g, 0, none⟩) l.length cap, .int .i64 (k : Int), .slice (some ⟨vb, 0, none⟩) 1 1] W fun e W' => ∃ v', e = .returned v' ∧ W'.ownsRow B 63 6 v' (l.length + 1) (rowX wtV (l.take k ++ x :: l.drop k)) ∧ W.grownBy W' (some g) ∧ ∀ j, v'.ownBlock = some j → W.heap.size ≤ j := by
  obtain ⟨cur, hg, hc1, hc2, hc3, hc4, hBg⟩ := own_getD hr
  obtain ⟨i4, hi, hz0, hz1, hz2⟩ := info_parts infoD
  have hvw := lt_blk hv
  have hgw := lt_blk hg
  obtain ⟨n, hn⟩ : ∃ n, n = l.length := ⟨_, rfl⟩
  rw [← hn] at hr hl hk hroom hc1 hc4 ⊢
  have hcn : cap = n := by omega
  have htl : (rowX wtV (l.take k)).length = k * 6 := by rw [rowW_len, List.length_take, Nat.min_eq_left (by omega)]
  have hdl : (rowX wtV (l.drop k)).length = (n - k) * 6 := by rw [rowW_len, List.length_drop, hn]
  have hgc : ∀ j u, (rowX wtV l)[j]? = some u → W.cell? ⟨g, j, none⟩ = some u := fun j u hj => by
    rw [cell_of_row _ _ _ _ _ _ hg, ← Array.getElem?_toList]
    rw [← hc4, List.getElem?_take] at hj
    split at hj
    · exact hj
    · cases hj
  have hold : (Builtin.firstCells i4.size k (.slice (some ⟨g, 0, none⟩) k cap)).run Try.prog W.drew = .ok (rowX wtV (l.take k)).toArray W.drew := by
    rw [hz1]
    exact run_firstCells_some W.drew 6 k ⟨g, 0, none⟩ k cap (rowX wtV (l.take k)) htl (fun j u hj => by
      rw [Go.WideShapes.add_plain, Nat.zero_add]
      refine hgc j u ?_
      rw [← rowW_take l k (by omega), List.getElem?_take] at hj
      split at hj
      · exact hj
      · cases hj)
  obtain ⟨N, hN⟩ : ∃ N, N = W.heap.size := ⟨_, rfl⟩
  obtain ⟨G, hG⟩ : ∃ G, G = grownCap W (n + 1) cap 63 := ⟨_, rfl⟩
  obtain ⟨RR, hRR⟩ : ∃ RR : Array Value, RR = Builtin.zeroCells (Value.agg #[.string ⟨#[]⟩, .int .i64 0, .int .i64 0, .int .i64 0, .int .i64 0, .bool false]).cells (n + 1 - k) ++ Builtin.zeroCells (Value.agg #[.string ⟨#[]⟩, .int .i64 0, .int .i64 0, .int .i64 0, .int .i64 0, .bool false]).cells (G - (n + 1)) := ⟨_, rfl⟩
  obtain ⟨ROW, hROW⟩ : ∃ ROW : Array Value, ROW = (rowX wtV (l.take k)).toArray ++ RR := ⟨_, rfl⟩
  obtain ⟨W1, hW1⟩ : ∃ W1, W1 = W.drew.alloc (.cells ROW 63) := ⟨_, rfl⟩
  have hrz : ∀ ty, (Builtin.append_ #[59, 3] ty #[.slice (some ⟨g, 0, none⟩) k cap, .int .i64 ((n : Int) + 1 - (k : Int))]).run Try.prog W = .ok (.slice (some ⟨N, 0, none⟩) (n + 1) G) W1 := fun ty => by
    have hkk : (n : Int) + 1 - (k : Int) = ((n + 1 - k : Nat) : Int) := by omega
    have h := Lib.run_append_grow_zeros W 59 3 ty 63 i4 _ .i64 .i64 Try.underlying59 Try.underlying3 hi hz0 (some ⟨g, 0, none⟩) k cap (rowX wtV (l.take k)) hold (n + 1 - k) (by omega) (by omega) (by omega) (by omega) (by rw [hz2]; omega) (by rw [hz2, show k + (n + 1 - k) = n + 1 by omega]; exact growslice_fits hroom (by omega))
    rw [show k + (n + 1 - k) = n + 1 by omega, ← hG, Array.append_assoc, ← hRR, ← hROW, ← hW1, ← hN] at h
    rw [hkk]
    exact h
  have hGn : n + 1 ≤ G := by rw [hG]; exact grownCap_ge W _ _ _
  have hGm : G ≤ maxLen := by rw [hG]; exact grownCap_le_maxLen W _ _ _ (by unfold maxLen; omega)
  have hRl : RR.size = (G - k) * 6 := by
    rw [hRR]
    simp [Builtin.zeroCells, Value.cells]
    omega
  have hRz : ROW.size = G * 6 := by
    rw [hROW, Array.size_append, hRl, List.size_toArray, htl]
    omega
  have hg1 : W1.heap[N]? = some (.cells ROW 63 (0, 0)) := by rw [hW1, hN]; exact heap_alloc_new W.drew _
  have hold1 : ∀ j, j < N → W1.heap[j]? = W.heap[j]? := fun j hj => by rw [hW1]; exact (belowA W.drew _).block j (by rw [hN] at hj; exact hj)
  -- the first copy
  obtain ⟨A1, hA1⟩ : ∃ A1 : Array Value, A1 = (ROW.toList.take (k * 6) ++ (wtV x).toList ++ ROW.toList.drop (k * 6 + 6)).toArray := ⟨_, rfl⟩
  obtain ⟨W2, hW2⟩ : ∃ W2, W2 = W1.setRow N A1 := ⟨_, rfl⟩
  have hcp1 : ∀ ty dc, (Builtin.copy_ #[59, 59] ty #[.slice (some ⟨N, k * 6, none⟩) (n + 1 - k) dc, .slice (some ⟨vb, 0, none⟩) 1 1]).run Try.prog W1 = .ok (goInt ((1 : Nat) : Int)) W2 := fun ty dc => by
    have h := copy_rowK (P := Try.prog) W1 59 59 ty 63 6 N (k * 6) (n + 1 - k) dc ⟨vb, 0, none⟩ 1 1 ROW 63 (wtV x).toList Try.underlying59 infoD6 hg1 (by show 6 = _; simp only [Nat.min_def]; split <;> omega) (fun j u hj => by
      rw [Go.WideShapes.add_plain, Nat.zero_add, cell_of_row _ _ _ _ _ _ ((hold1 vb (by omega)).trans hv), ← Array.getElem?_toList]
      exact hj) (by show k * 6 + 6 ≤ _; omega) (wtV_one x)
    rw [show (wtV x).toList.length = 6 from rfl, ← hA1, ← hW2] at h
    rw [h]
    congr 2
    simp only [Nat.min_def]; split <;> omega
  have hA1z : A1.size = G * 6 := by
    rw [hA1]
    simp only [List.size_toArray, List.length_append, List.length_take, List.length_drop, Array.length_toList, show (wtV x).toList.length = 6 from rfl]
    omega
  have hg2 : W2.heap[N]? = some (.cells A1 63 (0, 0)) := by rw [hW2]; exact setRow_heap W1 N ROW A1 _ _ hg1
  have hold2 : ∀ j, j < N → W2.heap[j]? = W.heap[j]? := fun j hj => by rw [hW2, setRow_other _ _ _ _ (by omega)]; exact hold1 j hj
  -- the second copy
  obtain ⟨A2, hA2⟩ : ∃ A2 : Array Value, A2 = (A1.toList.take ((k + 1) * 6) ++ rowX wtV (l.drop k) ++ A1.toList.drop ((k + 1) * 6 + (rowX wtV (l.drop k)).length)).toArray := ⟨_, rfl⟩
  have hcp2 : ∀ ty dc sc, (Builtin.copy_ #[59, 59] ty #[.slice (some ⟨N, (k + 1) * 6, none⟩) (n - k) dc, .slice (some ⟨g, k * 6, none⟩) (n - k) sc]).run Try.prog W2.drew = .ok (goInt ((n - k : Nat) : Int)) (W2.drew.setRow N A2) := fun ty dc sc => by
    have h := copy_rowK (P := Try.prog) W2.drew 59 59 ty 63 6 N ((k + 1) * 6) (n - k) dc ⟨g, k * 6, none⟩ (n - k) sc A1 63 (rowX wtV (l.drop k)) Try.underlying59 infoD6 hg2 (by rw [hdl]; congr 1; simp only [Nat.min_def]; split <;> omega) (fun j u hj => by
      rw [Go.WideShapes.add_plain]
      show W2.cell? _ = _
      rw [World.cell?_of_block (a := ⟨g, k * 6 + j, none⟩) (hold2 g (by omega))]
      refine hgc _ u ?_
      rw [← rowW_drop l k (by omega), List.getElem?_drop] at hj
      exact hj) (by rw [hdl]; omega) (rowW_one _)
    rw [← hA2] at h
    rw [h]
    congr 2
    simp only [Nat.min_def]; split <;> omega
  have HN := hid hn
  have HNN := hid hN
  have HALL := hid (And.intro htl (And.intro hdl (And.intro hRl (And.intro hROW (And.intro hA1 (And.intro hA1z hA2))))))
  have HG2 := hid hg2
  have HO2 := hid hold2
  have HW := hid (show W2.os = W.os ∧ W2.tape = W.tape ∧ W2.output = W.output ∧ W.heap.size ≤ W2.heap.size from by
    rw [hW2, hW1]; exact ⟨rfl, rfl, rfl, by simp⟩)
  have HGM := hid hGm
  have HKG := hid (show k + 1 ≤ G from by omega)
  have HC := hid hc4
  have HCZ := hid (And.intro hc3 hc1)
  have hw1 : IntKind.i64.wrap ((k : Int) + 1) = (k : Int) + 1 := by rw [IntKind.wrap_i64]; omega
  have hb1 : (0 : Int) ≤ (k : Int) + 1 := by omega
  have htn : ((k : Int) + 1).toNat = k + 1 := by omega
  have hb2 : ¬ (G = k + 1) := by omega
  have hb3 : (k : Int) ≤ (n : Int) + 1 := by omega
  have hb4 : ¬ (G = k) := by omega
  have hb5 : ¬ (cap = k) := by omega
  have hkn : k ≤ n := by omega
  have hkc : k ≤ cap := by omega
  have hlt2 : (cap : Int) < (n : Int) + 1 := by omega
  clear hn hN hc4 hc3 hg hr hW1 hW2 hA1 hA2 hg1 hg2 hdl htl hRl hROW hRR hRz hA1z hold1 hold2 hgc hold hG hi hz0 hz1 hz2 hc2 hGm hv hcn hvw hgw hc1
  go_enter Try.func49, Try.ntmps49
  go_wp2_with (refine Lib.wpList_append_run _ rfl _ _ _ _ rfl _ _ rfl rfl _ _ (hrz _) ?_)
  clear hrz
  go_wp2_with (refine wpl_copyR _ rfl _ _ 59 59 rfl _ _ rfl rfl (hcp1 _ _) ?_)
  clear hcp1
  go_region_law (refine step_copyR rfl _ _ 59 59 rfl _ _ (by simp [Act.eval, Act.put]) (by simp [Act.eval, Act.put]) (hcp2 _ _ _) ?_)
  go_wp2_with fail
  go_ret
  obtain ⟨htl, hdl, hRl, hROW, hA1, hA1z, hA2⟩ := HALL.out
  obtain ⟨S, key⟩ := lay_grow (C := rowX wtV (l.take k)) (D := rowX wtV (l.drop k)) (R := RR.toList) (X := (wtV x).toList) (k6 := k * 6) htl rfl (by rw [Array.length_toList, hRl]; have := HKG.out; omega)
  have e6 : k * 6 + 6 = (k + 1) * 6 := by omega
  have hA2l : A2.toList = rowX wtV (l.take k) ++ (wtV x).toList ++ rowX wtV (l.drop k) ++ S := by
    have hRL : ROW.toList = rowX wtV (l.take k) ++ RR.toList := by rw [hROW, Array.toList_append]
    rw [hA2]
    show A1.toList.take ((k + 1) * 6) ++ rowX wtV (l.drop k) ++ A1.toList.drop ((k + 1) * 6 + (rowX wtV (l.drop k)).length) = _
    rw [hA1, hRL, ← e6]
    exact key
  have hkl : rowX wtV (l.take k) = cur.toList.take (k * 6) := by rw [← rowW_take l k (by have := HN.out; omega), ← HC.out, List.take_take, Nat.min_eq_left (by omega)]
  refine ⟨.slice (some ⟨N, 0, none⟩) (n + 1) G, by first | rfl | simp, ?_, ?_, fun j hj => by cases hj; rw [HNN.out]; exact Nat.le_refl _⟩
  · refine ins_row (W := W) (C := cur) (by rw [HNN.out]; exact hB) HN.out hk HC.out ?_ hGn HGM.out (setRow_heap W2.drew N A1 A2 _ _ HG2.out) ⟨S, by rw [hA2l, hkl]⟩ (by obtain ⟨c1, c2⟩ := HCZ.out; rw [c1]; exact Nat.mul_le_mul_right 6 c2)
    rw [hA2]
    simp only [List.size_toArray, List.length_append, List.length_take, List.length_drop, Array.length_toList, hdl]
    omega
  · obtain ⟨o1, o2, o3, o4⟩ := HW.out
    refine ⟨o1, o2, o3, Nat.le_trans o4 (by simp), fun j hj hne => ?_⟩
    rw [← HNN.out] at hj
    rw [setRow_other _ _ _ _ (by omega)]
    exact HO2.out j hj
/-- A pod more, at its place. -/
theorem insert_lib {W : World} {B : Nat} {v : Value} {l : List Wt} (hr : W.ownsRow B 63 6 v l.length (rowX wtV l)) (k : Nat) (hk : k ≤ l.length) (x : Wt) (vb : Nat) (hv : W.heap[vb]? = some (.cells (wtV x) 63 (0, 0))) (hvb : v.ownBlock ≠ some vb) (hl : l.length < 4096) (hB : B ≤ W.heap.size) :
    Calls Try.prog 49 #[v, .int .i64 (k : Int), .slice (some ⟨vb, 0, none⟩) 1 1] W fun e W' => ∃ v', e = .returned v' ∧ W'.ownsRow B 63 6 v' (l.length + 1) (rowX wtV (l.take k ++ x :: l.drop k)) ∧ W.grownBy W' v.ownBlock ∧ ∀ j, v'.ownBlock = some j → v.ownBlock = some j ∨ W.heap.size ≤ j := by
  by_cases hkl : k = l.length
  · subst hkl
    rw [List.take_length, List.drop_length]
    exact ins_end hr x vb hv hl hB
  · rcases hr.2 with ⟨rfl, h0⟩ | ⟨g, cap, cur, rfl, hb, hg, hcap, _⟩
    · omega
    · by_cases hroom : l.length + 1 ≤ cap
      · refine (ins_room hr k (by omega) x vb hv (fun e => hvb (by rw [e]; rfl)) hl hroom).mono ?_
        rintro e W' ⟨v', rfl, h1, h2, h3⟩
        exact ⟨v', rfl, h1, h2, fun j hj => Or.inl (by rw [h3 j hj]; rfl)⟩
      · refine (ins_grow hr k (by omega) x vb hv hl (by omega) hB).mono ?_
        rintro e W' ⟨v', rfl, h1, h2, h3⟩
        exact ⟨v', rfl, h1, h2, fun j hj => Or.inr (h3 j hj)⟩
end Go.Proofs.Ytfbagkajbnomoaa.L
