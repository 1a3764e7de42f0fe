import Derived.Test.YtkbjjbgmnfngjaaGreatDoorOpn
import Derived.Test.YtkbjjbgmnfngjaaGreatDoorMs3
import Derived.Deep.Slices
import Derived.LaidLaws
import Derived.Lib.LaidTab
import Derived.Lib.SmallJoins
namespace Go.Proofs.YtkbjjbgmnfngjaaGreatDoor.L
open Go.ChangeShapes Go.WideShapes Go.ChangeAt Go.RowKit Go.Joins
set_option linter.unusedVariables false
theorem wf_i64 {a : Int} (h : (Lit.int .i64 a).wf = true) : -9223372036854775808 ≤ a ∧ a ≤ 9223372036854775807 := by
  simp [Lit.wf] at h
  exact h
set_option maxRecDepth 100000 in
/-- A list inside what came in, opened. -/
theorem came_trod {H : Type} {enc : TypeId × Value → H} {W : World} {v : Value} {fuel : Nat} {d : DataW H} {p : List MemPlace} (h : DataW.trod enc Tryz.prog W 0 (fun _ => true) true fuel 22 [v] = some (d, p))
    (hsz : ∀ x ∈ d.weights Tryz.prog 22, x ≤ reachBytes) : ∃ l : List Lb, Came W v l ∧ Good l := by
  rcases Go.Deep.open_slice_pairs Tryz.underlying22 Tryz.underlying36 cellsL2 rfl rfl cells9 cells9 h with ⟨hvv, hx⟩ | ⟨a, len0, cap, m, n, V0, V1, D0, D1, P0, P1, hvv, hb, hl, hm, hmm, hx, hc⟩
  · simp at hvv
    refine ⟨[], Or.inl ⟨by simpa using hvv, rfl⟩, ⟨by decide, by decide⟩, fun x hx => by simp at hx⟩
  · simp at hvv
    subst hvv
    simp at hmm
    subst hmm
    have hx1 := congrArg Prod.fst hx
    simp only at hx1
    have hbytes : len0 * 32 ≤ 140737488351232 := by
      have := hsz (m * 32) (by rw [hx1]; simp [DataW.weights, Tryz.underlying22, bytesL]; left; omega)
      rw [reach_num] at this
      omega
    have each : ∀ i, i < len0 → ∃ q : Lb, W.cell? (a.add (i * 2)) = some (.string q.1) ∧ W.cell? (a.add (i * 2 + 1)) = some (.string q.2) ∧ q.1.size ≤ maxLen ∧ q.2.size ≤ maxLen := by
      intro i hi
      obtain ⟨c0, c1, t0, t1⟩ := hc i (by omega)
      obtain ⟨z, e1, _, wz⟩ := DataW.trod_string Tryz.underlying9 t1
      obtain ⟨s, e0, _, ws⟩ := DataW.trod_string Tryz.underlying9 t0
      simp at e1 e0
      rw [e0] at c0
      rw [e1] at c1
      exact ⟨(s, z), c0, c1, ws, wz⟩
    obtain ⟨q, hq⟩ := Go.Deep.choose_lt each
    have hlen : ((List.range len0).map q).length = len0 := by simp
    have hget : ∀ j, j < len0 → ((List.range len0).map q).getD j (ByteArray.empty, ByteArray.empty) = q j := by
      intro j hj
      simp [List.getD_eq_getElem?_getD, List.getElem?_range hj]
    refine ⟨(List.range len0).map q, Or.inr ⟨a, m, by rw [hlen], by rw [hlen]; exact ⟨hl, hm⟩, ?_⟩, ⟨by rw [hlen]; omega, by rw [hlen]; exact hbytes⟩, fun x hx => ?_⟩
    · rw [hlen]
      by_cases hz : len0 = 0
      · exact Or.inl hz
      right
      obtain ⟨b, off, spot⟩ := a
      have k0 := (hq 0 (by omega)).1
      have hspot : spot = none := by simpa [Addr.add] using World.cell?_spot k0
      subst hspot
      refine ⟨b, off, rfl, ?_, fun j hj => ?_⟩
      · rw [Go.WideShapes.add_plain] at k0
        exact block_lt k0
      · obtain ⟨a0, a1, r⟩ := hq j hj
        rw [Go.WideShapes.add_plain] at a0 a1
        unfold ky vl
        rw [hget j hj]
        exact ⟨a0, by rw [Nat.add_assoc]; exact a1⟩
    · obtain ⟨i, hi, rfl⟩ := List.mem_map.1 hx
      exact (hq i (by simpa using hi)).2.2
theorem cells3 : Tryz.prog.cellsOf 3 = 1 := by kernel_rfl
theorem cellsO : Tryz.prog.cellsOf 25 = 8 := by kernel_rfl
theorem cellsL' : Tryz.prog.cellsOf 22 = 1 := by kernel_rfl
theorem cellsD' : Tryz.prog.cellsOf 23 = 1 := by kernel_rfl
theorem text_size {s : ByteArray} (h : s.data.toList.length ≤ reachBytes) : s.size ≤ 140737488351232 := by
  rw [reach_num] at h
  have : s.size = s.data.toList.length := by simp
  omega
instance : Inhabited Df := ⟨⟨ByteArray.empty, ByteArray.empty, ByteArray.empty, false, false⟩⟩
theorem cellsLD : Tryz.prog.cellsOf 52 = 5 := by kernel_rfl
theorem cells4 : Tryz.prog.cellsOf 4 = 1 := by kernel_rfl
theorem bytesLD : Tryz.prog.bytesOf 52 = 56 := by kernel_rfl
set_option maxRecDepth 100000 in
set_option maxHeartbeats 1000000 in
theorem cameD_trod {H : Type} {enc : TypeId × Value → H} {W : World} {v : Value} {fuel : Nat} {d : DataW H} {p : List MemPlace} (h : DataW.trod enc Tryz.prog W 0 (fun _ => true) true fuel 23 [v] = some (d, p))
    (hsz : ∀ x ∈ d.weights Tryz.prog 23, x ≤ reachBytes) : ∃ L : List Df, CameD W v L ∧ GoodD L ∧ L.length * 56 ≤ 140737488351232 := by
  rcases Go.Deep.open_slice Tryz.underlying23 h with ⟨hv, hx⟩ | ⟨a, len, cap, m, n, D, Pl, hv, hb, hl, hm, hmm, hx, hc⟩
  · simp at hv
    exact ⟨[], Or.inl ⟨hv, rfl⟩, ⟨Nat.zero_le _, fun x hx => by simp at hx⟩, by decide⟩
  · simp at hv
    simp at hmm
    subst hmm
    have hx1 := congrArg Prod.fst hx
    simp only at hx1
    have hbytes : len * 56 ≤ 140737488351232 := by
      have := hsz (m * 56) (by rw [hx1]; simp [DataW.weights, Tryz.underlying23, bytesLD]; left; omega)
      rw [reach_num] at this
      omega
    rw [cellsLD] at hc
    have each : ∀ i, i < len → ∃ q : Df, (W.cell? (a.add (i * 5)) = some (.string q.k) ∧ W.cell? (a.add (i * 5 + 1)) = some (.string q.o) ∧ W.cell? (a.add (i * 5 + 2)) = some (.string q.n) ∧ W.cell? (a.add (i * 5 + 3)) = some (.bool q.had) ∧ W.cell? (a.add (i * 5 + 4)) = some (.bool q.has)) ∧ q.k.size ≤ maxLen ∧ q.o.size ≤ maxLen ∧ q.n.size ≤ maxLen := by
      intro i hi
      obtain ⟨cs', h1, h2⟩ := hc i (by omega)
      obtain ⟨_, hlen, hcell⟩ := World.cells?_some h1
      obtain ⟨xs, k, hk, hxy, _, hxl, hf⟩ := DataW.trod_struct Tryz.underlying52 h2
      match xs, hxl, cs', hlen with
      | [y0, y1, y2, y3, y4], _, [v0, v1, v2, v3, v4], _ =>
        have g0 := hf 0 _ rfl
        have g1 := hf 1 _ rfl
        have g2 := hf 2 _ rfl
        have g3 := hf 3 _ rfl
        have g4 := hf 4 _ rfl
        simp [cells9, cells4] at g0 g1 g2 g3 g4
        obtain ⟨s0, e0, _, z0⟩ := DataW.trod_string Tryz.underlying9 g0
        obtain ⟨s1, e1, _, z1⟩ := DataW.trod_string Tryz.underlying9 g1
        obtain ⟨s2, e2, _, z2⟩ := DataW.trod_string Tryz.underlying9 g2
        obtain ⟨b3, e3, _⟩ := DataW.trod_bool Tryz.underlying4 g3
        obtain ⟨b4, e4, _⟩ := DataW.trod_bool Tryz.underlying4 g4
        simp at e0 e1 e2 e3 e4
        subst e0 e1 e2 e3 e4
        have f0 := hcell 0 (by omega)
        have f1 := hcell 1 (by omega)
        have f2 := hcell 2 (by omega)
        have f3 := hcell 3 (by omega)
        have f4 := hcell 4 (by omega)
        rw [Go.Deep.add_add] at f0 f1 f2 f3 f4
        exact ⟨⟨s0, s1, s2, b3, b4⟩, ⟨by simpa using f0, by simpa using f1, by simpa using f2, by simpa using f3, by simpa using f4⟩, z0, z1, z2⟩
    obtain ⟨q, hq⟩ := Go.Deep.choose_lt each
    have hlen : ((List.range len).map q).length = len := by simp
    refine ⟨(List.range len).map q, Or.inr ⟨a, m, by rw [hlen, hv], ?_⟩, ⟨by rw [hlen]; omega, fun x hx => ?_⟩, by rw [hlen]; exact hbytes⟩
    · by_cases hz : len = 0
      · exact Or.inl (hlen.trans hz)
      right
      obtain ⟨b, off, spot⟩ := a
      have k0 := (hq 0 (by omega)).1.1
      have hspot : spot = none := by simpa [Addr.add] using World.cell?_spot k0
      subst hspot
      refine ⟨b, off, rfl, ?_, fun j hj => ?_⟩
      · rw [Go.WideShapes.add_plain] at k0
        exact block_lt k0
      · obtain ⟨⟨a0, a1, a2, a3, a4⟩, r⟩ := hq j (by rw [hlen] at hj; exact hj)
        rw [Go.WideShapes.add_plain] at a0 a1 a2 a3 a4
        simp only [List.getElem_map, List.getElem_range]
        exact ⟨a0, by rw [Nat.add_assoc]; exact a1, by rw [Nat.add_assoc]; exact a2, by rw [Nat.add_assoc]; exact a3, by rw [Nat.add_assoc]; exact a4⟩
    · obtain ⟨i, hi, rfl⟩ := List.mem_map.1 hx
      exact (hq i (by simpa using hi)).2
theorem readO : Tryz.prog.readableRec 25 = true := by kernel_rfl
theorem rowO : 25 < Tryz.prog.types.size := of_decide_eq_true (by kernel_rfl)
set_option maxRecDepth 100000 in
set_option maxHeartbeats 1000000 in
theorem op_arg {H : Type} {enc : TypeId × Value → H} {W : World} {base : Nat} {v : Value} {d : DataW H} {p : List MemPlace} (hv : Value.okWide Tryz.prog W .any base 25 v) (h : DataW.Trod enc Tryz.prog W 0 (fun _ => true) true 25 v d p)
    (hsz : ∀ x ∈ d.weights Tryz.prog 25, x ≤ reachBytes) : ∃ (k : Int) (vL vO vD : Value) (s ks vs : ByteArray) (n : Int) (l c : List Lb) (L : List Df),
    v = .agg #[.int .i64 k, vL, vO, vD, .string s, .string ks, .string vs, .int .i64 n] ∧ Came W vL l ∧ Came W vO c ∧ Good l ∧ Good c ∧ CameD W vD L ∧ GoodD L ∧ L.length * 56 ≤ 140737488351232 ∧ s.size ≤ 140737488351232 ∧ ks.size ≤ 140737488351232 ∧ vs.size ≤ 140737488351232 := by
  obtain ⟨cs, rfl, hcs⟩ := okWide_struct Tryz.underlying25 hv
  rw [cellsO] at hcs
  obtain ⟨cl⟩ := cs
  match cl, hcs with
  | [v0, v1, v2, v3, v4, v5, v6, v7], _ =>
    obtain ⟨fuel, hf0⟩ := h
    obtain ⟨xs, k, hk, hxy, _, hxl, hf⟩ := DataW.trod_struct Tryz.underlying25 hf0
    match xs, hxl with
    | [y0, y1, y2, y3, y4, y5, y6, y7], _ =>
      have g0 := hf 0 _ rfl
      have g1 := hf 1 _ rfl
      have g2 := hf 2 _ rfl
      have g3 := hf 3 _ rfl
      have g4 := hf 4 _ rfl
      have g5 := hf 5 _ rfl
      have g6 := hf 6 _ rfl
      have g7 := hf 7 _ rfl
      simp [Value.cells, cells3, cells9, cellsL', cellsD'] at g0 g1 g2 g3 g4 g5 g6 g7
      have hD : d = .agg [y0.1, y1.1, y2.1, y3.1, y4.1, y5.1, y6.1, y7.1] := congrArg Prod.fst hxy
      have hw := hsz
      rw [hD] at hw
      simp only [DataW.weights, Tryz.underlying25] at hw
      obtain ⟨p, e0, _, w0⟩ := DataW.trod_int Tryz.underlying3 g0
      obtain ⟨s4, e4, x4, w4⟩ := DataW.trod_string Tryz.underlying9 g4
      obtain ⟨s5, e5, x5, w5⟩ := DataW.trod_string Tryz.underlying9 g5
      obtain ⟨s6, e6, x6, w6⟩ := DataW.trod_string Tryz.underlying9 g6
      obtain ⟨q, e7, _, w7⟩ := DataW.trod_int Tryz.underlying3 g7
      simp at e0 e4 e5 e6 e7
      subst e0 e4 e5 e6 e7
      obtain ⟨l, ml, gl⟩ := came_trod (d := y1.1) (p := y1.2) g1 (fun x hx => hw x (by simp [DataW.weightsEach, hx]))
      obtain ⟨c, mc, gc⟩ := came_trod (d := y2.1) (p := y2.2) g2 (fun x hx => hw x (by simp [DataW.weightsEach, hx]))
      obtain ⟨L, mD, gD, bD⟩ := cameD_trod (d := y3.1) (p := y3.2) g3 (fun x hx => hw x (by simp [DataW.weightsEach, hx]))
      have z4 := hw s4.data.toList.length (by simp [DataW.weightsEach, x4, DataW.weights])
      have z5 := hw s5.data.toList.length (by simp [DataW.weightsEach, x5, DataW.weights])
      have z6 := hw s6.data.toList.length (by simp [DataW.weightsEach, x6, DataW.weights])
      exact ⟨p, v1, v2, v3, s4, s5, s6, q, l, c, L, rfl, ml, mc, gl, gc, mD, gD, bD, text_size z4, text_size z5, text_size z6⟩
end Go.Proofs.YtkbjjbgmnfngjaaGreatDoor.L
