import Derived.Test.YtfbagkajbnomoaaQ4
namespace Go.Proofs.Ytfbagkajbnomoaa.L
open Go.RowKit Rg Qu
set_option linter.unusedVariables false
set_option linter.unusedSimpArgs false
theorem lay_two {C D R X : List Value} {k6 d : Nat} (hk : k6 + 6 ≤ C.length) (hX : X.length = 6) (hD : D.length = d) :
    let A1 := C.take (k6 + 6) ++ D ++ R
    A1.take k6 ++ X ++ A1.drop (k6 + 6) = C.take k6 ++ X ++ D ++ R ∧ (C.take k6 ++ X ++ D ++ R).take (k6 + 6 + d) = C.take k6 ++ X ++ D := by
  intro A1
  have h1 : (C.take (k6 + 6)).length = k6 + 6 := by rw [List.length_take]; omega
  have e1 : A1.take k6 = C.take k6 := by
    show ((C.take (k6 + 6) ++ D) ++ R).take k6 = _
    rw [List.append_assoc, List.take_append_of_le_length (by omega), List.take_take, Nat.min_eq_left (by omega)]
  have e2 : A1.drop (k6 + 6) = D ++ R := by
    show ((C.take (k6 + 6) ++ D) ++ R).drop (k6 + 6) = _
    rw [List.append_assoc, List.drop_left' h1]
  refine ⟨by rw [e1, e2]; simp [List.append_assoc], ?_⟩
  rw [List.take_left' (by simp only [List.length_append, List.length_take, hX, hD]; omega)]
theorem ins_row {W W' : World} {B g cap n k : Nat} {l : List Wt} {x : Wt} {C A : Array Value} (hB : B ≤ g) (hn : n = l.length) (hk : k < n) (hC : C.toList.take (n * 6) = rowX wtV l) (hs : A.size = cap * 6) (hcap : n + 1 ≤ cap) (hcm : cap ≤ maxLen) (hg : W'.heap[g]? = some (.cells A 63 (0, 0)))
    (hA : ∃ R, A.toList = C.toList.take (k * 6) ++ (wtV x).toList ++ rowX wtV (l.drop k) ++ R) (hCl : n * 6 ≤ C.size) :
    W'.ownsRow B 63 6 (.slice (some ⟨g, 0, none⟩) (n + 1) cap) (n + 1) (rowX wtV (l.take k ++ x :: l.drop k)) := by
  have hrow : rowX wtV (l.take k ++ x :: l.drop k) = C.toList.take (k * 6) ++ (wtV x).toList ++ rowX wtV (l.drop k) := by
    rw [rowX_app, rowX_cons, ← rowW_take l k (by omega), ← hC, List.take_take, Nat.min_eq_left (by omega), List.append_assoc]
  refine ⟨?_, Or.inr ⟨g, cap, A, rfl, hB, hg, hcap, hcm, hs, ?_⟩⟩
  · rw [rowW_len, List.length_append, List.length_take, List.length_cons, List.length_drop]; congr 1; omega
  · obtain ⟨R, hR⟩ := hA
    rw [hR, hrow, List.take_left']
    simp only [List.length_append, List.length_take, rowW_len, List.length_drop, Array.length_toList, show (wtV x).toList.length = 6 from rfl]
    omega
set_option maxHeartbeats 4000000 in
set_option maxRecDepth 100000 in
theorem ins_room {W : World} {B g cap : Nat} {l : List Wt} (hr : W.ownsRow B 63 6 (.slice (some ⟨g, 0, none⟩) l.length cap) l.length (rowX wtV l)) (k : Nat) (hk : k < l.length) (x : Wt) (vb : Nat) (hv : W.heap[vb]? = some (.cells (wtV x) 63 (0, 0))) (hvb : vb ≠ g) (hl : l.length < 4096) (hroom : l.length + 1 ≤ cap) :
    Calls Try.prog 49 #[.slice (some ⟨g, 0, none⟩) l.length cap, .int .i64 (k : Int), .slice (some ⟨vb, 0, none⟩) 1 1] W fun e W' => ∃ v', e = .returned v' ∧ W'.ownsRow B 63 6 v' (l.length + 1) (rowX wtV (l.take k ++ x :: l.drop k)) ∧ W.grownBy W' (some g) ∧ ∀ j, v'.ownBlock = some j → j = g := by
  obtain ⟨cur, hg, hc1, hc2, hc3, hc4, hBg⟩ := own_getD hr
  obtain ⟨n, hn⟩ : ∃ n, n = l.length := ⟨_, rfl⟩
  rw [← hn] at hr hl hk hroom hc1 hc4 ⊢
  have hov : ∀ o lb cb, (callFunc 55 #[.slice (some ⟨vb, 0, none⟩) 1 1, .slice (some ⟨g, o, none⟩) lb cb]).run Try.prog W = .ok (.value (.bool false)) W := fun o lb cb => overlaps_no hv hg hvb (by omega) lb
  have hcl : n * 6 + 6 ≤ cur.size := by omega
  -- the first copy
  obtain ⟨A1, hA1⟩ : ∃ A1 : Array Value, A1 = (cur.toList.take ((k + 1) * 6) ++ rowX wtV (l.drop k) ++ cur.toList.drop ((k + 1) * 6 + (rowX wtV (l.drop k)).length)).toArray := ⟨_, rfl⟩
  have hdl : (rowX wtV (l.drop k)).length = (n - k) * 6 := by rw [rowW_len, List.length_drop, hn]
  have hsrc : ∀ j u, (rowX wtV (l.drop k))[j]? = some u → W.drew.cell? ((⟨g, k * 6, none⟩ : Addr).add j) = some u := fun j u hj => by
    rw [Go.WideShapes.add_plain]
    show W.cell? _ = _
    rw [cell_of_row _ _ _ _ _ _ hg, ← Array.getElem?_toList]
    rw [← rowW_drop l k (by omega), ← hc4, List.getElem?_drop, List.getElem?_take] at hj
    split at hj
    · exact hj
    · cases hj
  have hcp1 : ∀ ty dc sc, (Builtin.copy_ #[59, 59] ty #[.slice (some ⟨g, (k + 1) * 6, none⟩) (n - k) dc, .slice (some ⟨g, k * 6, none⟩) (n + 1 - k) sc]).run Try.prog W.drew = .ok (goInt ((n - k : Nat) : Int)) (W.drew.setRow g A1) := fun ty dc sc => by
    have h := copy_rowK (P := Try.prog) W.drew 59 59 ty 63 6 g ((k + 1) * 6) (n - k) dc ⟨g, k * 6, none⟩ (n + 1 - k) sc cur 63 (rowX wtV (l.drop k)) Try.underlying59 infoD6 hg (by rw [hdl]; congr 1; simp only [Nat.min_def]; split <;> omega) hsrc (by rw [hdl]; omega) (rowW_one _)
    rw [← hA1] at h
    rw [h]
    congr 2
    simp only [Nat.min_def]; split <;> omega
  have HN := hid hn
  have HCUR := hid (And.intro hc4 (And.intro hc3 hA1))
  have HG := hid hg
  have HR := hid hr
  have hw1 : IntKind.i64.wrap ((k : Int) + 1) = (k : Int) + 1 := by rw [IntKind.wrap_i64]; omega
  have hb1 : (0 : Int) ≤ (k : Int) + 1 := by omega
  have htn : ((k : Int) + 1).toNat = k + 1 := by omega
  have hb2 : ¬ (cap = k + 1) := by omega
  have hb3 : (k : Int) ≤ (n : Int) + 1 := by omega
  have hb4 : ¬ (cap = k) := by omega
  have hkn : k ≤ n := by omega
  have hA1z : A1.size = cur.size := by
    rw [hA1]
    simp only [List.size_toArray, List.length_append, List.length_take, List.length_drop, Array.length_toList, hdl]
    omega
  -- the second copy
  obtain ⟨W1, hW1⟩ : ∃ W1, W1 = W.drew.setRow g A1 := ⟨_, rfl⟩
  rw [← hW1] at hcp1
  have hg1 : W1.heap[g]? = some (.cells A1 63 (0, 0)) := by rw [hW1]; exact setRow_heap W.drew g cur A1 _ _ hg
  have hv1 : W1.heap[vb]? = some (.cells (wtV x) 63 (0, 0)) := by rw [hW1]; exact (setRow_other W.drew g vb A1 hvb).trans hv
  obtain ⟨A2, hA2⟩ : ∃ A2 : Array Value, A2 = (A1.toList.take (k * 6) ++ (wtV x).toList ++ A1.toList.drop (k * 6 + 6)).toArray := ⟨_, rfl⟩
  have hcp2 : ∀ ty dc, (Builtin.copy_ #[59, 59] ty #[.slice (some ⟨g, k * 6, none⟩) (n + 1 - k) dc, .slice (some ⟨vb, 0, none⟩) 1 1]).run Try.prog W1 = .ok (goInt ((1 : Nat) : Int)) (W1.setRow g A2) := fun ty dc => by
    have h := copy_rowK (P := Try.prog) W1 59 59 ty 63 6 g (k * 6) (n + 1 - k) dc ⟨vb, 0, none⟩ 1 1 A1 63 (wtV x).toList Try.underlying59 infoD6 hg1 (by show 6 = _; simp only [Nat.min_def]; split <;> omega) (fun j u hj => by
      rw [Go.WideShapes.add_plain, Nat.zero_add, cell_of_row _ _ _ _ _ _ hv1, ← Array.getElem?_toList]
      exact hj) (by show k * 6 + 6 ≤ _; omega) (wtV_one x)
    rw [show (wtV x).toList.length = 6 from rfl, ← hA2] at h
    rw [h]
    congr 2
    simp only [Nat.min_def]; split <;> omega
  have HW1 := hid hW1
  have HA2 := hid hA2
  have HG1 := hid hg1
  have HDL := hid hdl
  clear hn hc4 hc3 hA1 hg hr hA1z hW1 hA2 hg1 hv1 hdl hsrc hc1 hv hvb hc2 hcl
  go_enter Try.func49, Try.ntmps49
  go_wp2_with (simp only [hov])
  clear hov
  go_region_law (refine step_copyR rfl _ _ 59 59 rfl _ _ (by simp [Act.eval, Act.put]) (by simp [Act.eval, Act.put]) (hcp1 _ _ _) ?_)
  go_wp2_with (refine wpl_copyR _ rfl _ _ 59 59 rfl _ _ rfl rfl (hcp2 _ _) ?_)
  go_wp2_with fail
  go_ret
  obtain ⟨hc4, hc3, hA1⟩ := HCUR.out
  have hn := HN.out
  have hA1z : A1.size = cap * 6 := by
    rw [hA1]
    simp only [List.size_toArray, List.length_append, List.length_take, List.length_drop, Array.length_toList, HDL.out]
    omega
  have key := lay_two (C := cur.toList) (D := rowX wtV (l.drop k)) (R := cur.toList.drop ((k + 1) * 6 + (rowX wtV (l.drop k)).length)) (X := (wtV x).toList) (k6 := k * 6) (d := (n - k) * 6) (by rw [Array.length_toList]; omega) rfl HDL.out
  have e6 : k * 6 + 6 = (k + 1) * 6 := by omega
  have hA2l : A2.toList = cur.toList.take (k * 6) ++ (wtV x).toList ++ rowX wtV (l.drop k) ++ cur.toList.drop ((k + 1) * 6 + (rowX wtV (l.drop k)).length) := by
    have k1 := key.1
    rw [e6] at k1
    rw [HA2.out, e6, hA1]
    exact k1
  refine ⟨.slice (some ⟨g, 0, none⟩) (n + 1) cap, by first | rfl | simp, ?_, ?_, fun j hj => by cases hj; rfl⟩
  · refine ins_row (W := W) hBg hn hk hc4 ?_ hroom ?_ (setRow_heap W1 g A1 A2 _ _ HG1.out) ⟨_, hA2l⟩ (by omega)
    · rw [← Array.length_toList, hA2l]
      simp only [List.length_append, List.length_take, List.length_drop, Array.length_toList, HDL.out, show (wtV x).toList.length = 6 from rfl]
      omega
    · exact (own_getD HR.out).choose_spec.2.2.1
  · refine ⟨by rw [HW1.out]; rfl, by rw [HW1.out]; rfl, by rw [HW1.out]; rfl, by rw [HW1.out]; simp, fun j hj hne => ?_⟩
    have hjg : j ≠ g := fun e => hne (by rw [e])
    rw [setRow_other _ _ _ _ hjg, HW1.out]
    exact setRow_other W.drew _ _ _ hjg
end Go.Proofs.Ytfbagkajbnomoaa.L
