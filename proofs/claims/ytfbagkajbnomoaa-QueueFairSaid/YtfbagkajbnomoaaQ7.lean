import Derived.Test.YtfbagkajbnomoaaQ6
namespace Go.Proofs.Ytfbagkajbnomoaa.L
open Go.RowKit Rg Qu
set_option linter.unusedVariables false
set_option linter.unusedSimpArgs false
/-- An append, where its run is known: a step of a drawn region. -/
theorem step_appR {P : Program} {ops : Array Oper} {o : Oper} {a : Act} {w : World} {K : Act → World → Prop} {Q : Exit → Act → World → Prop} {E : Prop}
    (hg : o.guard = none) (d x : Operand) (dT sT : TypeId) (hop : o.op = Op.call { callee := Callee.builtin Builtin.append, args := #[d, x], argTypes := #[dT, sT] })
    (v u : Value) (hd : a.eval d = v) (hx : a.eval x = u) {v' : Value} {w' : World} (hr : (Builtin.append_ #[dT, sT] o.type #[v, u]).run P w = .ok v' w') (hK : K (a.put o.dst v') w') :
    if Region.wanted o (yielded ops a.tmps) = true then Oper.wp P o a w K Q else E := by
  have hw : Region.wanted o (yielded ops a.tmps) = true := by simp [Region.wanted, hg]
  rw [if_pos hw]
  unfold Oper.wp
  simp [execOp, hop, resolve, invoke, builtin, hd, hx, hr, Result.andThen]
  exact hK
/-- clear of one element of six cells. -/
theorem clear_one {W : World} {g o c : Nat} {cur : Array Value} (ty : TypeId) (hg : W.heap[g]? = some (.cells cur 63 (0, 0))) (hfit : o + 6 ≤ cur.size) :
    (Builtin.clear_ #[59] ty #[.slice (some ⟨g, o, none⟩) 1 c]).run Try.prog W = .ok (.tuple #[]) (W.setRow g (cur.toList.take o ++ (wtV default).toList ++ cur.toList.drop (o + 6)).toArray) := by
  obtain ⟨i4, hi, hz0, hz1, hz2⟩ := info_parts infoD
  have hst := run_storeCells_at Try.prog g o 63 (wtV default).toList 0 cur W hg (by show o + 0 + 6 ≤ _; omega) (wtV_one default)
  have hzc : (Builtin.zeroCells (Value.agg #[.string ⟨#[]⟩, .int .i64 0, .int .i64 0, .int .i64 0, .int .i64 0, .bool false]).cells 1).toList = (wtV default).toList := by kernel_rfl
  simp only [Nat.add_zero] at hst
  simp [Builtin.clear_, run_underlying Try.underlying59, zeroValue, typeInfo, hi, hz0, hzc, hst]
  rfl
theorem del_lay {C D R X : List Value} {k6 d m : Nat} (hk : k6 ≤ C.length) (hD : D.length = d) (hX : X.length = 6) (hm : m = k6 + d) :
    ∃ S, (C.take k6 ++ D ++ R).take m ++ X ++ (C.take k6 ++ D ++ R).drop (m + 6) = C.take k6 ++ D ++ S := by
  refine ⟨X ++ (C.take k6 ++ D ++ R).drop (m + 6), ?_⟩
  rw [show (C.take k6 ++ D ++ R).take m = C.take k6 ++ D from by rw [List.take_left' (by simp only [List.length_append, List.length_take, hD]; omega)]]
  simp [List.append_assoc]
set_option maxHeartbeats 4000000 in
set_option maxRecDepth 100000 in
theorem delete_lib {W : World} {B g cap : Nat} {l : List Wt} (hr : W.ownsRow B 63 6 (.slice (some ⟨g, 0, none⟩) l.length cap) l.length (rowX wtV l)) (k : Nat) (hk : k < l.length) (hl : l.length < 4096) :
    Calls Try.prog 36 #[.slice (some ⟨g, 0, none⟩) l.length cap, .int .i64 (k : Int), .int .i64 ((k : Int) + 1)] W fun e W' => e = .returned (.slice (some ⟨g, 0, none⟩) (l.length - 1) cap) ∧ W'.ownsRow B 63 6 (.slice (some ⟨g, 0, none⟩) (l.length - 1) cap) (l.length - 1) (rowX wtV (l.eraseIdx k)) ∧ W.grownBy W' (some g) := by
  obtain ⟨cur, hg, hc1, hc2, hc3, hc4, hBg⟩ := own_getD hr
  obtain ⟨i4, hi, hz0, hz1, hz2⟩ := info_parts infoD
  obtain ⟨n, hn⟩ : ∃ n, n = l.length := ⟨_, rfl⟩
  rw [← hn] at hr hl hk hc1 hc4 ⊢
  have hdl : (rowX wtV (l.drop (k + 1))).length = (n - (k + 1)) * 6 := by rw [rowW_len, List.length_drop, hn]
  obtain ⟨A, hA, hsrc⟩ : ∃ A : Addr, (if cap = k + 1 then some (⟨g, 0, none⟩ : Addr) else some ⟨g, (k + 1) * 6, none⟩) = some A ∧ Hid (∀ j u, (rowX wtV (l.drop (k + 1)))[j]? = some u → W.drew.cell? (A.add j) = some u) := by
    by_cases h : cap = k + 1
    · refine ⟨⟨g, 0, none⟩, by rw [if_pos h], fun j u hj => ?_⟩
      have h0 : (rowX wtV (l.drop (k + 1))).length = 0 := by rw [hdl, show n - (k + 1) = 0 by omega]
      rw [List.length_eq_zero_iff.1 h0] at hj
      cases hj
    · refine ⟨⟨g, (k + 1) * 6, none⟩, by rw [if_neg h], fun j u hj => ?_⟩
      rw [Go.WideShapes.add_plain]
      show W.cell? _ = _
      rw [cell_of_row _ _ _ _ _ _ hg, ← Array.getElem?_toList]
      rw [← rowW_drop l (k + 1) (by omega), ← hc4, List.getElem?_drop, List.getElem?_take] at hj
      split at hj
      · exact hj
      · cases hj
  obtain ⟨A1, hA1⟩ : ∃ A1 : Array Value, A1 = (cur.toList.take (k * 6) ++ rowX wtV (l.drop (k + 1)) ++ cur.toList.drop (k * 6 + (rowX wtV (l.drop (k + 1))).length)).toArray := ⟨_, rfl⟩
  obtain ⟨W1, hW1⟩ : ∃ W1, W1 = W.drew.setRow g A1 := ⟨_, rfl⟩
  have hap : ∀ ty xc, (Builtin.append_ #[59, 59] ty #[.slice (some ⟨g, 0, none⟩) k cap, .slice (some A) (n - (k + 1)) xc]).run Try.prog W.drew = .ok (.slice (some ⟨g, 0, none⟩) (n - 1) cap) W1 := fun ty xc => by
    have h := run_append_room (P := Try.prog) W.drew 59 ty 63 i4 Try.underlying59 hi g k cap cur hg A (n - (k + 1)) xc (rowX wtV (l.drop (k + 1))) (by rw [hdl, hz1]) hsrc.out (rowW_one _) (by omega) (by rw [hdl, hz1]; omega)
    rw [hz1, ← hA1, ← hW1, show k + (n - (k + 1)) = n - 1 by omega] at h
    exact h
  have hA1z : A1.size = cap * 6 := by
    rw [hA1]
    simp only [List.size_toArray, List.length_append, List.length_take, List.length_drop, Array.length_toList, hdl]
    omega
  have hg1 : W1.heap[g]? = some (.cells A1 63 (0, 0)) := by rw [hW1]; exact setRow_heap W.drew g cur A1 _ _ hg
  have hclr : ∀ ty c, (Builtin.clear_ #[59] ty #[.slice (some ⟨g, (n - 1) * 6, none⟩) 1 c]).run Try.prog W1 = _ := fun ty c => clear_one ty hg1 (show (n - 1) * 6 + 6 ≤ A1.size by omega)
  have HN := hid hn
  have HW1 := hid hW1
  have HALL := hid (And.intro hdl (And.intro hc4 (And.intro hc3 (And.intro hc2 (And.intro hc1 (And.intro hA1 hA1z))))))
  have HG1 := hid hg1
  have hne : ¬ ((k : Int) = (k : Int) + 1) := by omega
  have hi0 : (0 : Int) ≤ (k : Int) + 1 := by omega
  have hi1 : (k : Int) + 1 ≤ (n : Int) := by omega
  have hi2 : ((k : Int) + 1).toNat = k + 1 := by omega
  have hs1 : n - (n - 1) = 1 := by omega
  have hs2 : k ≤ n := by omega
  have hs3 : k + 1 ≤ n := by omega
  have hs4 : n - 1 ≤ n := by omega
  have hs5 : ¬ (cap = n - 1) := by omega
  have hkc : k ≤ cap := by omega
  have hkc1 : k + 1 ≤ cap := by omega
  have hs6 : ((n - 1 : Nat) : Int) ≤ (n : Int) := by omega
  clear hn hW1 hdl hc4 hc3 hc2 hA1 hA1z hg1 hi hz0 hz1 hz2 hg hr hsrc
  go_enter Try.func36, Try.ntmps36
  go_wp2_with fail
  go_region_law (first | (refine step_appR rfl (.tmp 22) (.tmp 25) 59 59 rfl (.slice (some ⟨g, 0, none⟩) k cap) (.slice (some A) (n - (k + 1)) (cap - (k + 1))) (by simp [Act.eval, Act.put]) (by simp [Act.eval, Act.put]) (hap _ _) ?_) | (refine step_appR rfl (.tmp 22) (.tmp 25) 59 59 rfl (.slice (some ⟨g, 0, none⟩) k cap) (.slice (some A) (n - (k + 1)) (cap - (k + 1))) (by simp [Act.eval, Act.put]) (by simp [Act.eval, Act.put]) ?_ ?_; trace_state))
  go_wp2_with fail
  go_ret
  obtain ⟨hdl, hc4, hc3, hc2, hc1', hA1, hA1z⟩ := HALL.out
  have hn := HN.out
  obtain ⟨S, key⟩ := del_lay (C := cur.toList) (D := rowX wtV (l.drop (k + 1))) (R := cur.toList.drop (k * 6 + (rowX wtV (l.drop (k + 1))).length)) (X := (wtV default).toList) (k6 := k * 6) (d := (n - (k + 1)) * 6) (m := (n - 1) * 6) (by rw [Array.length_toList]; omega) hdl rfl (by omega)
  have hA1l : A1.toList = cur.toList.take (k * 6) ++ rowX wtV (l.drop (k + 1)) ++ cur.toList.drop (k * 6 + (rowX wtV (l.drop (k + 1))).length) := by rw [hA1]
  rw [← hA1l] at key
  have hrow : rowX wtV (l.eraseIdx k) = cur.toList.take (k * 6) ++ rowX wtV (l.drop (k + 1)) := by
    rw [List.eraseIdx_eq_take_drop_succ, rowX_app, ← rowW_take l k (by omega), ← hc4, List.take_take, Nat.min_eq_left (by omega)]
  refine ⟨by first | rfl | simp, ⟨?_, Or.inr ⟨g, cap, _, rfl, hBg, setRow_heap W1 g A1 _ _ _ HG1.out, by omega, hc2, ?_, ?_⟩⟩, ?_⟩
  · rw [rowW_len, List.length_eraseIdx_of_lt (by omega)]
    rw [hn]
  · simp only [List.size_toArray, List.length_append, List.length_take, List.length_drop, Array.length_toList, show (wtV default).toList.length = 6 from rfl]
    omega
  · show ((A1.toList.take ((n - 1) * 6)) ++ ((wtV default).toList ++ A1.toList.drop ((n - 1) * 6 + 6))).take ((n - 1) * 6) = _
    rw [← List.append_assoc, key, hrow, List.take_left' (by simp only [List.length_append, List.length_take, Array.length_toList, hdl]; omega)]
  · have e := HW1.out
    refine ⟨by rw [e]; rfl, by rw [e]; rfl, by rw [e]; rfl, by rw [e]; simp, fun j hj hne => ?_⟩
    have hjg : j ≠ g := fun e => hne (by rw [e])
    rw [setRow_other _ _ _ _ hjg, e]
    exact setRow_other W.drew _ _ _ hjg
end Go.Proofs.Ytfbagkajbnomoaa.L
