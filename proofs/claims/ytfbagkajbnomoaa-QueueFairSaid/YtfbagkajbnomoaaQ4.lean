import Derived.Test.YtfbagkajbnomoaaQ3
import Derived.Laws.CopyRow
import Derived.Lib.Overlaps
import Derived.Lib.AppendZerosOnto
import Derived.Laws.IdiomCopy
import Derived.Deep.RegionLaw
import Derived.Laws.Externs
namespace Go.Proofs.Ytfbagkajbnomoaa.L
open Go.RowKit Rg Qu
set_option linter.unusedVariables false
set_option linter.unusedSimpArgs false
/-- copy, for elements of any size: all is read ahead of anything that is written. -/
theorem copy_rowK {P : Program} (w : World) (dT sT ty elem : TypeId) (sz g o dLen dCap : Nat) (a : Addr) (sLen sCap : Nat) (cur : Array Value) (t : TypeId) (cs : List Value)
    (hu : P.underlying dT = some (.slice elem)) (hs : (P.info? elem).map (·.size) = some sz)
    (hg : w.heap[g]? = some (.cells cur t (0, 0))) (hn : cs.length = Nat.min sLen dLen * sz)
    (hsrc : ∀ j v, cs[j]? = some v → w.cell? (a.add j) = some v) (hfit : o + cs.length ≤ cur.size) (h1 : ∀ v ∈ cs, v.oneCell' = true) :
    (Builtin.copy_ #[dT, sT] ty #[.slice (some ⟨g, o, none⟩) dLen dCap, .slice (some a) sLen sCap]).run P w =
      .ok (goInt (Nat.min sLen dLen)) (w.setRow g (cur.toList.take o ++ cs ++ cur.toList.drop (o + cs.length)).toArray) := by
  have hl := run_loadCells_list (P := P) w a cs hsrc
  have hst := run_storeCells_at P g o t cs 0 cur w hg (by simpa using hfit) h1
  cases hq : P.info? elem with
  | none => simp [hq] at hs
  | some i =>
    have hi : i.size = sz := by simpa [hq] using hs
    rw [hn] at hl
    simp at hst
    simp [Builtin.copy_, run_underlying hu, Builtin.lenOf, Builtin.firstCells, sizeOf, typeInfo, hq, hi, hl, hst]
/-- The operation, where its run is known. -/
theorem wpl_copyR {P : Program} (w : World) {ops : Array Oper} {rest : List Oper} {o : Oper} {a : Act} {Q : Exit → Act → World → Prop} (hgd : o.guard = none) (d s : Operand) (t t' : TypeId)
    (ho : o.op = .call { callee := .builtin .copy, args := #[d, s], argTypes := #[t, t'] }) (v u : Value) (hd : a.eval d = v) (hs : a.eval s = u) {v' : Value} {w' : World}
    (hr : (Builtin.copy_ #[t, t'] o.type #[v, u]).run P w = .ok v' w') (h : wpList P ops Q rest (a.put o.dst v') w') : wpList P ops Q (o :: rest) a w :=
  wpList_plain hgd fun _ hK => by
    unfold Oper.wp execOp
    simp only [ho, resolve, invoke, builtin, Sem.run_bind, Sem.run_pure, Result.andThen_ok, List.map_toArray, List.map_cons, List.map_nil, hd, hs, hr]
    exact hK _ _ h
theorem step_copyR {P : Program} {ops : Array Oper} {o : Oper} {a : Act} {w : World} {K : Act → World → Prop} {Q : Exit → Act → World → Prop} {E : Prop}
    (hg : o.guard = none) (d x : Operand) (dT sT : TypeId) (hop : o.op = Op.call { callee := Callee.builtin Builtin.copy, args := #[d, x], argTypes := #[dT, sT] })
    (v u : Value) (hd : a.eval d = v) (hx : a.eval x = u) {v' : Value} {w' : World} (hr : (Builtin.copy_ #[dT, sT] o.type #[v, u]).run P w = .ok v' w') (hK : K (a.put o.dst v') w') :
    if Region.wanted o (yielded ops a.tmps) = true then Oper.wp P o a w K Q else E := by
  have hw : Region.wanted o (yielded ops a.tmps) = true := by simp [Region.wanted, hg]
  rw [if_pos hw]
  unfold Oper.wp
  simp [execOp, hop, resolve, invoke, builtin, hd, hx, hr, Result.andThen]
  exact hK
theorem own_getD {W : World} {B e : Nat} {g n cap : Nat} {xs : List Value} (h : W.ownsRow B e 6 (.slice (some ⟨g, 0, none⟩) n cap) n xs) : ∃ cur, W.heap[g]? = some (.cells cur e (0, 0)) ∧ n ≤ cap ∧ cap ≤ maxLen ∧ cur.size = cap * 6 ∧ cur.toList.take (n * 6) = xs ∧ B ≤ g := by
  rcases h.2 with ⟨e, _⟩ | ⟨g', cap', cur, e, hb, hg, r1, r2, r3, r4⟩
  · cases e
  · injection e with e1 _ e3
    injection e1 with e1
    injection e1 with e1 _ _
    subst e1 e3
    exact ⟨cur, hg, r1, r2, r3, r4, hb⟩
set_option maxHeartbeats 4000000 in
set_option maxRecDepth 100000 in
theorem ins_end {W : World} {B : Nat} {v : Value} {l : List Wt} (hr : W.ownsRow B 63 6 v l.length (rowX wtV l)) (x : Wt) (vb : Nat) (hv : W.heap[vb]? = some (.cells (wtV x) 63 (0, 0))) (hl : l.length < 4096) (hB : B ≤ W.heap.size) :
    Calls Try.prog 49 #[v, .int .i64 (l.length : Int), .slice (some ⟨vb, 0, none⟩) 1 1] W fun e W' => ∃ v', e = .returned v' ∧ W'.ownsRow B 63 6 v' (l.length + 1) (rowX wtV (l ++ [x])) ∧ W.grownBy W' v.ownBlock ∧ ∀ j, v'.ownBlock = some j → v.ownBlock = some j ∨ W.heap.size ≤ j := by
  obtain ⟨i4, hi, hz0, hz1, hz2⟩ := info_parts infoD
  obtain ⟨_, a, c, rfl, _⟩ := own_w hr
  rw [rowX_snoc]
  obtain ⟨n, hn⟩ : ∃ n, n = l.length := ⟨_, rfl⟩
  rw [← hn] at hr hl ⊢
  have hnews : ∀ j u, (wtV x).toList[j]? = some u → W.cell? ((⟨vb, 0, none⟩ : Addr).add j) = some u := fun j u hj => by
    rw [Go.WideShapes.add_plain, Nat.zero_add, cell_of_row _ _ _ _ _ _ hv, ← Array.getElem?_toList]
    exact hj
  have hmax : n + 1 ≤ maxLen := by unfold maxLen; omega
  clear hn
  go_enter Try.func49, Try.ntmps49
  go_wp2_with (refine wpList_append_stays W rfl _ _ 59 rfl B 63 i4 _ 6 56 Try.underlying59 hi hz0 hz1 hz2 rfl (by decide) _ n (rowX wtV l) rfl hr ⟨vb, 0, none⟩ 1 1 (wtV x).toList rfl rfl hnews (wtV_one x) hmax (by omega) hB (by decide) ?_)
  all_goals
    intro v' w' h2 h3 _ h5
    have H2 := hid h2
    have H3 := hid h3
    have H5 := hid h5
    clear h2 h3 h5
    go_wp2_with fail
    go_ret
    refine ⟨v', by first | rfl | simp, H2.out, by cases a <;> exact H3.out, fun j hj => ?_⟩
    rcases H5.out with e | e
    · exact Or.inl (by have e2 := e.symm.trans hj; cases a <;> exact e2)
    · rw [e] at hj
      injection hj with hj
      exact Or.inr (by omega)
/-- The slice's cells behind the element's place. -/
theorem infoD6 : (Try.prog.info? 63).map (·.size) = some 6 := by kernel_rfl
theorem rowW_take (l : List Wt) (k : Nat) (hk : k ≤ l.length) : (rowX wtV l).take (k * 6) = rowX wtV (l.take k) := by
  have e : rowX wtV l = rowX wtV (l.take k) ++ rowX wtV (l.drop k) := by rw [← rowX_app, List.take_append_drop]
  rw [e, List.take_left' (by rw [rowW_len, List.length_take, Nat.min_eq_left hk])]
theorem rowW_drop (l : List Wt) (k : Nat) (hk : k ≤ l.length) : (rowX wtV l).drop (k * 6) = rowX wtV (l.drop k) := by
  have e : rowX wtV l = rowX wtV (l.take k) ++ rowX wtV (l.drop k) := by rw [← rowX_app, List.take_append_drop]
  rw [e, List.drop_left' (by rw [rowW_len, List.length_take, Nat.min_eq_left hk])]
theorem overlaps_no {W : World} {vb g o cb : Nat} {x : Wt} {cur : Array Value} (hv : W.heap[vb]? = some (.cells (wtV x) 63 (0, 0))) (hg : W.heap[g]? = some (.cells cur 63 (0, 0))) (hne : vb ≠ g) (h0 : cur.size ≠ 0) (lb : Nat) :
    (callFunc 55 #[.slice (some ⟨vb, 0, none⟩) 1 1, .slice (some ⟨g, o, none⟩) lb cb]).run Try.prog W = .ok (.value (.bool false)) W := by
  have hsa : W.shape? vb = some (63, 6) := by simp [World.shape?, hv, wtV]
  have hsb : W.shape? g = some (63, cur.size) := by simp [World.shape?, hg]
  have hfa : W.frozen? ⟨vb, 0, none⟩ = false := by simp [World.frozen?, hv]
  have hfe : W.frozen? ⟨vb, 6, none⟩ = false := by simp [World.frozen?, hv]
  rw [run_callFunc_extern Try.func55 (by kernel_rfl) (by kernel_rfl) (by kernel_rfl) (e := Extern.SlicesOverlaps.overlaps #[59, 59] #[4]) (by kernel_rfl),
    Lib.run_overlaps_apart W 59 4 63 Try.underlying59 6 Try.sizeOf63 ⟨vb, 0, none⟩ ⟨g, o, none⟩ 1 1 lb cb hne 63 63 6 cur.size hsa hsb h0 hfa hfe]
  rfl
end Go.Proofs.Ytfbagkajbnomoaa.L
