import Derived.Test.YtnlohjcjboelgaaRows
import Derived.Test.YtnlohjcjboelgaaSumWalk
import Derived.Test.YtnlohjcjboelgaaOpen
import Derived.Deep.Slices
import Derived.SizedLaws
namespace Go.Proofs.Ytnlohjcjboelgaa.L
open Go.ChangeShapes Go.WideShapes Go.ChangeAt Go.RowKit Go.Joins
set_option linter.unusedVariables false
/-- A list inside what came in, opened. -/
theorem came_trod {H : Type} {enc : TypeId × Value → H} {W : World} {v : Value} {fuel : Nat} {d : DataW H} {p : List MemPlace} (h : DataW.trod enc Try.prog W 0 (fun _ => true) true fuel 24 [v] = some (d, p))
    (hsz : ∀ x ∈ d.weights Try.prog 24, x ≤ reachBytes) : ∃ l : List It, Came W v l ∧ Good l := by
  rcases Go.Deep.open_slice_pairs Try.underlying24 Try.underlying41 cellsI rfl rfl cells9 cells3 h with ⟨hvv, hx⟩ | ⟨a, len0, cap, m, n, V0, V1, D0, D1, P0, P1, hvv, hb, hl, hm, hmm, hx, hc⟩
  · simp at hvv
    refine ⟨[], Or.inl ⟨by simpa using hvv, rfl⟩, ⟨by decide, by decide⟩, fun j hj => by simp at hj⟩
  · simp at hvv
    subst hvv
    simp at hmm
    subst hmm
    have hx1 := congrArg Prod.fst hx
    simp only at hx1
    have hbytes : len0 * 24 ≤ 140737488351232 := by
      have := hsz (m * 24) (by rw [hx1]; simp [DataW.weights, Try.underlying24, bytesI]; left; omega)
      rw [reach_num] at this
      omega
    have each : ∀ i, i < len0 → ∃ q : It, W.cell? (a.add (i * 2)) = some (.string q.1) ∧ W.cell? (a.add (i * 2 + 1)) = some (.int .i64 q.2) ∧ q.1.size ≤ maxLen ∧ -9223372036854775808 ≤ q.2 ∧ q.2 ≤ 9223372036854775807 := by
      intro i hi
      obtain ⟨c0, c1, t0, t1⟩ := hc i (by omega)
      obtain ⟨z, e1, _, wz⟩ := DataW.trod_int Try.underlying3 t1
      obtain ⟨s, e0, _, ws⟩ := DataW.trod_string Try.underlying9 t0
      simp at e1 e0
      rw [e0] at c0
      rw [e1] at c1
      exact ⟨(s, z), c0, c1, ws, wf_i64 wz⟩
    obtain ⟨q, hq⟩ := Go.Deep.choose_lt each
    have hlen : ((List.range len0).map q).length = len0 := by simp
    have hget : ∀ j, j < len0 → ((List.range len0).map q).getD j (ByteArray.empty, 0) = q j := by
      intro j hj
      simp [List.getD_eq_getElem?_getD, List.getElem?_range hj]
    refine ⟨(List.range len0).map q, Or.inr ⟨a, m, by rw [hlen], ?_⟩, ⟨by rw [hlen]; omega, by rw [hlen]; exact hbytes⟩, fun j hj => ?_⟩
    · rw [hlen]
      by_cases hz : len0 = 0
      · exact Or.inl hz
      right
      obtain ⟨b, off, spot⟩ := a
      have k0 := (hq 0 (by omega)).1
      have hspot : spot = none := by simpa [Addr.add] using World.cell?_spot k0
      subst hspot
      refine ⟨b, off, rfl, ?_, fun j hj => ?_⟩
      · rw [Go.WideShapes.add_plain] at k0
        exact block_lt k0
      · obtain ⟨a0, a1, r⟩ := hq j hj
        rw [Go.WideShapes.add_plain] at a0 a1
        unfold nm am
        rw [hget j hj]
        exact ⟨a0, by rw [Nat.add_assoc]; exact a1⟩
    · rw [hlen] at hj
      obtain ⟨a0, a1, r⟩ := hq j hj
      unfold nm am
      rw [hget j hj]
      exact r
theorem mem_all {H : Type} {P : Program} {e : TypeId} {ds : List (DataW H)} {d : DataW H} (h : d ∈ ds) {x : Nat} (hx : x ∈ d.weights P e) : x ∈ DataW.weightsAll P e ds := by
  induction ds with
  | nil => cases h
  | cons y r ih =>
    rw [DataW.weightsAll, List.mem_append]
    rcases List.mem_cons.1 h with rfl | h
    · exact Or.inl hx
    · exact Or.inr (ih h)
theorem cellsO : Try.prog.cellsOf 26 = 5 := by kernel_rfl
theorem cellsL' : Try.prog.cellsOf 24 = 1 := by kernel_rfl
theorem readO : Try.prog.readableRec 22 = true := by kernel_rfl
theorem rowO : 22 < Try.prog.types.size := of_decide_eq_true (by kernel_rfl)
set_option maxRecDepth 100000 in
theorem ops_open {H : Type} {enc : TypeId × Value → H} {W : World} {fuel : Nat} {v : Value} {y : DataW H × List MemPlace} (h : DataW.trod enc Try.prog W 0 (fun _ => true) true fuel 22 [v] = some y)
    (hsz : ∀ x ∈ y.1.weights Try.prog 22, x ≤ reachBytes) : ∃ a len cap, v = .slice a len cap ∧ List5 W a len := by
  rcases Go.Deep.open_slice Try.underlying22 h with ⟨hv, hx⟩ | ⟨a, len, cap, m, n, D, Pl, hv, hb, hl, hm, hmm, hx, hc⟩
  · simp at hv
    exact ⟨none, 0, 0, hv, Nat.zero_le _, Or.inl rfl⟩
  · simp at hv
    simp at hmm
    refine ⟨some a, len, cap, hv, Nat.le_trans hl hm, ?_⟩
    by_cases h0 : len = 0
    · exact Or.inl h0
    right
    rw [cellsO] at hc
    have hin : ∀ i, i < len → ∀ x ∈ (D i).weights Try.prog 26, x ≤ reachBytes := by
      intro i hi x hxx
      refine hsz x ?_
      rw [hx]
      have := mem_all (P := Try.prog) (e := 26) (ds := (List.range len).map D) (List.mem_map.2 ⟨i, List.mem_range.2 hi, rfl⟩) hxx
      simp only [DataW.weights, Try.underlying22]
      exact List.mem_cons_of_mem _ (List.mem_append_left _ this)
    have key : ∀ i, i < len → ∃ (k : Int) (s : ByteArray) (vA vB vC : Value) (l c u : List It), W.cell? (a.add (i * 5)) = some (.int .i64 k) ∧ W.cell? (a.add (i * 5 + 1)) = some (.string s) ∧ W.cell? (a.add (i * 5 + 2)) = some vA ∧ W.cell? (a.add (i * 5 + 3)) = some vB ∧ W.cell? (a.add (i * 5 + 4)) = some vC ∧
        Came W vA l ∧ Came W vB c ∧ Came W vC u ∧ Good l ∧ Good c ∧ Good u := by
      intro i hi
      obtain ⟨cs', h1, h2⟩ := hc i (by omega)
      obtain ⟨_, hlen, hcell⟩ := World.cells?_some h1
      obtain ⟨xs, k, hk, hxy, _, hxl, hf⟩ := DataW.trod_struct Try.underlying26 h2
      have hw := hin i hi
      match xs, hxl, cs', hlen with
      | [y0, y1, y2, y3, y4], _, [v0, v1, v2, v3, v4], _ =>
        have g0 := hf 0 _ rfl
        have g1 := hf 1 _ rfl
        have g2 := hf 2 _ rfl
        have g3 := hf 3 _ rfl
        have g4 := hf 4 _ rfl
        simp [cells3, cells9, cellsL'] at g0 g1 g2 g3 g4
        have hD : D i = .agg [y0.1, y1.1, y2.1, y3.1, y4.1] := congrArg Prod.fst hxy
        rw [hD] at hw
        simp only [DataW.weights, Try.underlying26] at hw
        obtain ⟨p, e0, _, w0⟩ := DataW.trod_int Try.underlying3 g0
        obtain ⟨q, e1, _, w1⟩ := DataW.trod_string Try.underlying9 g1
        simp at e0 e1
        subst e0 e1
        obtain ⟨l, ml, gl⟩ := came_trod (d := y2.1) (p := y2.2) g2 (fun x hx => hw x (by simp [DataW.weightsEach, hx]))
        obtain ⟨c, mc, gc⟩ := came_trod (d := y3.1) (p := y3.2) g3 (fun x hx => hw x (by simp [DataW.weightsEach, hx]))
        obtain ⟨u, mu, gu⟩ := came_trod (d := y4.1) (p := y4.2) g4 (fun x hx => hw x (by simp [DataW.weightsEach, hx]))
        have f0 := hcell 0 (by omega)
        have f1 := hcell 1 (by omega)
        have f2 := hcell 2 (by omega)
        have f3 := hcell 3 (by omega)
        have f4 := hcell 4 (by omega)
        rw [Go.Deep.add_add] at f0 f1 f2 f3 f4
        exact ⟨p, q, v2, v3, v4, l, c, u, by simpa using f0, by simpa using f1, by simpa using f2, by simpa using f3, by simpa using f4, ml, mc, mu, gl, gc, gu⟩
    obtain ⟨b, off, spot⟩ := a
    obtain ⟨_, _, _, _, _, _, _, _, k0, _⟩ := key 0 (by omega)
    have hspot : spot = none := by simpa [Addr.add] using World.cell?_spot k0
    subst hspot
    refine ⟨b, off, rfl, ?_, fun j hj => ?_⟩
    · rw [Go.WideShapes.add_plain] at k0
      exact block_lt k0
    · obtain ⟨k, s, vA, vB, vC, l, c, u, a0, a1, a2, a3, a4, r⟩ := key j hj
      rw [Go.WideShapes.add_plain] at a0 a1 a2 a3 a4
      exact ⟨k, s, vA, vB, vC, l, c, u, a0, by rw [Nat.add_assoc]; exact a1, by rw [Nat.add_assoc]; exact a2, by rw [Nat.add_assoc]; exact a3, by rw [Nat.add_assoc]; exact a4, r⟩
theorem ops_arg {H : Type} {enc : TypeId × Value → H} {W : World} {base : Nat} {v : Value} {d : DataW H} {p : List MemPlace} (hv : Value.okWide Try.prog W .any base 22 v) (h : DataW.Trod enc Try.prog W 0 (fun _ => true) true 22 v d p)
    (hsz : ∀ x ∈ d.weights Try.prog 22, x ≤ reachBytes) : ∃ a len cap, v = .slice a len cap ∧ List5 W a len := by
  obtain ⟨a, len, cap, rfl⟩ := okWide_slice Try.underlying22 hv
  obtain ⟨fuel, hf⟩ := h
  exact ops_open (y := (d, p)) (by simpa [Value.cells] using hf) hsz
end Go.Proofs.Ytnlohjcjboelgaa.L
namespace Go.Proofs.Ytnlohjcjboelgaa.quantSums
open Go.ChangeShapes Go.WideShapes Go.ChangeAt Go.RowKit Go.Joins L
set_option linter.unusedVariables false
set_option maxRecDepth 100000 in
theorem lifted (os : Os) (started : os.Started) (H : Type) (enc : TypeId × Value → H) :
    ReturnsInHanded {} Try.checked os 3 .any (Rows.quantSumsSpec.pre6 enc Try.prog Try.f3 Rows.quantSumsRow.domain false) (Rows.quantSumsSpec.post enc Try.prog Try.f3 false true false false) := by
  refine returnsInHanded_of_change_sized (C := Try.checked) own started (by kernel_rfl) Try.func3
    (ChangeSpec.witness6 (enc := enc) (C := Try.checked) false ⟨#[], #[.slice none 0 0], []⟩ 8 (by kernel_rfl) (by kernel_rfl) (by kernel_rfl) (by kernel_rfl)) ?_
  intro W base args ds gs before hval0 hW hcnd hsz0 _
  have hval : ∀ (j : Nat) t v, Try.f3.params[j]? = some t → args[j]? = some v → Value.okWide Try.prog W .any base t v := hval0
  have hsz : (DataW.weightsEach Try.prog (Try.f3.params.toList ++ []) (ds ++ gs)).all (fun x => decide (x ≤ reachBytes)) = true := hsz0
  have hW' := hW
  obtain ⟨p, q, hA0, hV, rfl, hfz, hnd⟩ := hW
  have hA : DataW.TrodAll enc Try.prog W 0 (fun _ => true) true Try.f3.params.toList args.toList ds p := hA0
  rw [Try.params3] at hA hval hsz
  obtain ⟨v0, vs0, d0, ds0, p0, q0, hargs, rfl, rfl, h0, r0⟩ := trodAll_cons hA
  obtain ⟨rfl, rfl, rfl⟩ := trodAll_nil r0
  obtain rfl : args = #[v0] := by cases args; simp_all
  obtain ⟨rfl, rfl⟩ := trodVars_none hV
  clear hA0 hval0
  simp only [List.append_nil] at hW' hsz
  have hsz' : (DataW.weightsEach Try.prog [22] [d0]).all (fun x => decide (x ≤ reachBytes)) = true := hsz
  have hlt : ∀ x ∈ p0, x.block < W.heap.size := fun x hx => hW'.lt x hx
  obtain ⟨a, len, cap, rfl, h5⟩ := ops_arg (hval 0 22 v0 rfl rfl) h0 (fun x hx => all_le hsz' (by simp [DataW.weightsEach, hx]))
  refine (sums_walk a len cap W h5).mono fun e W' ⟨he, hb⟩ => ?_
  subst he
  refine ⟨_, rfl, [d0], [], p0, [], p0, [], hW', ?_, ?_, ?_, hb.frame _, fun h => by cases h⟩
  · exact trodAll_cons_mk (shut_bool Try.underlying4 _) trodAll_mk0
  · have := trodAll_cons_mk (Below.trod laidOut readO rowO h0 hb hlt) (trodAll_mk0 (P := Try.prog) (enc := enc) (w := W') (base := 0) (spare := fun b => decide (b < W.heap.size)) (held := true))
    rw [List.append_nil] at this
    exact this
  · rfl
theorem over : Rows.quantSumsRow.holds Try.pinned (OpenSpec.ofChange Rows.quantSumsSpec) :=
  OpenClaim.holds_of_wide 3 Try.f3 rfl rfl rfl rfl rfl rfl rfl ⟨rfl, rfl, rfl, rfl, rfl⟩ rfl rfl rfl rfl rfl (by kernel_rfl) Try.func3 (by kernel_rfl)
    (of_decide_eq_true (by kernel_rfl)) (by unfold Func.isWrapper; first | (rw [if_pos (by decide +kernel)]; kernel_rfl) | (rw [if_neg (by decide +kernel)]; exact ⟨rfl, rfl⟩))
    (fun os started H enc _ => lifted os started H enc)
theorem proved : Rows.QuantSumsSaid := over
end Go.Proofs.Ytnlohjcjboelgaa.quantSums
namespace Go.Proofs.Ytnlohjcjboelgaa
/-- THE STATEMENT, AS IT IS HANDED IN. -/
theorem quantSums_holds : Rows.QuantSumsSaid := quantSums.proved
end Go.Proofs.Ytnlohjcjboelgaa
