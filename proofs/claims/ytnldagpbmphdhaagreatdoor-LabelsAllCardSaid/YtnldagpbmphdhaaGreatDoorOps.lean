import Derived.Test.YtnldagpbmphdhaaGreatDoorOpn
import Derived.Test.YtnldagpbmphdhaaGreatDoorUpt
import Derived.Deep.Slices
import Derived.LaidLaws
import Derived.Lib.LaidTab
namespace Go.Proofs.YtnldagpbmphdhaaGreatDoor.L
open Go.ChangeShapes Go.WideShapes Go.ChangeAt Go.RowKit Go.Joins
set_option linter.unusedVariables false
theorem wf_i64 {a : Int} (h : (Lit.int .i64 a).wf = true) : -9223372036854775808 ≤ a ∧ a ≤ 9223372036854775807 := by
  simp [Lit.wf] at h
  exact h
set_option maxRecDepth 100000 in
/-- A list inside what came in, opened. -/
theorem came_trod {H : Type} {enc : TypeId × Value → H} {W : World} {v : Value} {fuel : Nat} {d : DataW H} {p : List MemPlace} (h : DataW.trod enc Tryz.prog W 0 (fun _ => true) true fuel 27 [v] = some (d, p))
    (hsz : ∀ x ∈ d.weights Tryz.prog 27, x ≤ reachBytes) : ∃ l : List Lb, Came W v l ∧ Good l := by
  rcases Go.Deep.open_slice_pairs Tryz.underlying27 Tryz.underlying35 cellsL2 rfl rfl cells9 cells9 h with ⟨hvv, hx⟩ | ⟨a, len0, cap, m, n, V0, V1, D0, D1, P0, P1, hvv, hb, hl, hm, hmm, hx, hc⟩
  · simp at hvv
    refine ⟨[], Or.inl ⟨by simpa using hvv, rfl⟩, ⟨by decide, by decide⟩, fun x hx => by simp at hx⟩
  · simp at hvv
    subst hvv
    simp at hmm
    subst hmm
    have hx1 := congrArg Prod.fst hx
    simp only at hx1
    have hbytes : len0 * 32 ≤ 140737488351232 := by
      have := hsz (m * 32) (by rw [hx1]; simp [DataW.weights, Tryz.underlying27, bytesL]; left; omega)
      rw [reach_num] at this
      omega
    have each : ∀ i, i < len0 → ∃ q : Lb, W.cell? (a.add (i * 2)) = some (.string q.1) ∧ W.cell? (a.add (i * 2 + 1)) = some (.string q.2) ∧ q.1.size ≤ maxLen ∧ q.2.size ≤ maxLen := by
      intro i hi
      obtain ⟨c0, c1, t0, t1⟩ := hc i (by omega)
      obtain ⟨z, e1, _, wz⟩ := DataW.trod_string Tryz.underlying9 t1
      obtain ⟨s, e0, _, ws⟩ := DataW.trod_string Tryz.underlying9 t0
      simp at e1 e0
      rw [e0] at c0
      rw [e1] at c1
      exact ⟨(s, z), c0, c1, ws, wz⟩
    obtain ⟨q, hq⟩ := Go.Deep.choose_lt each
    have hlen : ((List.range len0).map q).length = len0 := by simp
    have hget : ∀ j, j < len0 → ((List.range len0).map q).getD j (ByteArray.empty, ByteArray.empty) = q j := by
      intro j hj
      simp [List.getD_eq_getElem?_getD, List.getElem?_range hj]
    refine ⟨(List.range len0).map q, Or.inr ⟨a, m, by rw [hlen], by rw [hlen]; exact ⟨hl, hm⟩, ?_⟩, ⟨by rw [hlen]; omega, by rw [hlen]; exact hbytes⟩, fun x hx => ?_⟩
    · rw [hlen]
      by_cases hz : len0 = 0
      · exact Or.inl hz
      right
      obtain ⟨b, off, spot⟩ := a
      have k0 := (hq 0 (by omega)).1
      have hspot : spot = none := by simpa [Addr.add] using World.cell?_spot k0
      subst hspot
      refine ⟨b, off, rfl, ?_, fun j hj => ?_⟩
      · rw [Go.WideShapes.add_plain] at k0
        exact block_lt k0
      · obtain ⟨a0, a1, r⟩ := hq j hj
        rw [Go.WideShapes.add_plain] at a0 a1
        unfold ky vl
        rw [hget j hj]
        exact ⟨a0, by rw [Nat.add_assoc]; exact a1⟩
    · obtain ⟨i, hi, rfl⟩ := List.mem_map.1 hx
      exact (hq i (by simpa using hi)).2.2
theorem slice_trod {H : Type} {enc : TypeId × Value → H} {W : World} {v : Value} {fuel : Nat} {y : DataW H × List MemPlace} (h : DataW.trod enc Tryz.prog W 0 (fun _ => true) true fuel 38 [v] = some y) : ∃ a n cap, v = .slice a n cap := by
  rcases Go.Deep.open_slice Tryz.underlying38 h with ⟨hv, hx⟩ | ⟨a, len, cap, m, n, D, Pl, hv, hb, hl, hm, hmm, hx, hc⟩
  · simp at hv
    exact ⟨_, _, _, hv⟩
  · simp at hv
    exact ⟨_, _, _, hv⟩
theorem mem_all {H : Type} {P : Program} {e : TypeId} {ds : List (DataW H)} {d : DataW H} (h : d ∈ ds) {x : Nat} (hx : x ∈ d.weights P e) : x ∈ DataW.weightsAll P e ds := by
  induction ds with
  | nil => cases h
  | cons y r ih =>
    rw [DataW.weightsAll, List.mem_append]
    rcases List.mem_cons.1 h with rfl | h
    · exact Or.inl hx
    · exact Or.inr (ih h)
theorem cells3 : Tryz.prog.cellsOf 3 = 1 := by kernel_rfl
theorem cellsO : Tryz.prog.cellsOf 40 = 8 := by kernel_rfl
theorem cellsL' : Tryz.prog.cellsOf 27 = 1 := by kernel_rfl
theorem cellsD' : Tryz.prog.cellsOf 38 = 1 := by kernel_rfl
theorem readO : Tryz.prog.readableRec 22 = true := by kernel_rfl
theorem rowO : 22 < Tryz.prog.types.size := of_decide_eq_true (by kernel_rfl)
theorem text_size {s : ByteArray} (h : s.data.toList.length ≤ reachBytes) : s.size ≤ 140737488351232 := by
  rw [reach_num] at h
  have : s.size = s.data.toList.length := by simp
  omega
set_option maxRecDepth 100000 in
set_option maxHeartbeats 1000000 in
theorem ops_open {H : Type} {enc : TypeId × Value → H} {W : World} {fuel : Nat} {v : Value} {y : DataW H × List MemPlace} (h : DataW.trod enc Tryz.prog W 0 (fun _ => true) true fuel 22 [v] = some y)
    (hsz : ∀ x ∈ y.1.weights Tryz.prog 22, x ≤ reachBytes) : ∃ a len cap, v = .slice a len cap ∧ List8 W a len := by
  rcases Go.Deep.open_slice Tryz.underlying22 h with ⟨hv, hx⟩ | ⟨a, len, cap, m, n, D, Pl, hv, hb, hl, hm, hmm, hx, hc⟩
  · simp at hv
    exact ⟨none, 0, 0, hv, Nat.zero_le _, Or.inl rfl⟩
  · simp at hv
    simp at hmm
    refine ⟨some a, len, cap, hv, Nat.le_trans hl hm, ?_⟩
    by_cases h0 : len = 0
    · exact Or.inl h0
    right
    rw [cellsO] at hc
    have hin : ∀ i, i < len → ∀ x ∈ (D i).weights Tryz.prog 40, x ≤ reachBytes := by
      intro i hi x hxx
      refine hsz x ?_
      rw [hx]
      have := mem_all (P := Tryz.prog) (e := 40) (ds := (List.range len).map D) (List.mem_map.2 ⟨i, List.mem_range.2 hi, rfl⟩) hxx
      simp only [DataW.weights, Tryz.underlying22]
      exact List.mem_cons_of_mem _ (List.mem_append_left _ this)
    have key : ∀ i, i < len → ∃ (k : Int) (vL vO vD : Value) (s ks vs : ByteArray) (n : Int) (l c : List Lb) (aD : Option Addr) (nD cD : Nat),
        W.cell? (a.add (i * 8)) = some (.int .i64 k) ∧ W.cell? (a.add (i * 8 + 1)) = some vL ∧ W.cell? (a.add (i * 8 + 2)) = some vO ∧ W.cell? (a.add (i * 8 + 3)) = some vD ∧ W.cell? (a.add (i * 8 + 4)) = some (.string s) ∧ W.cell? (a.add (i * 8 + 5)) = some (.string ks) ∧ W.cell? (a.add (i * 8 + 6)) = some (.string vs) ∧ W.cell? (a.add (i * 8 + 7)) = some (.int .i64 n) ∧
        Came W vL l ∧ Came W vO c ∧ Good l ∧ Good c ∧ vD = .slice aD nD cD ∧ s.size ≤ 140737488351232 ∧ ks.size ≤ 140737488351232 ∧ vs.size ≤ 140737488351232 ∧ (-9223372036854775808 ≤ k ∧ k ≤ 9223372036854775807) ∧ (-9223372036854775808 ≤ n ∧ n ≤ 9223372036854775807) := by
      intro i hi
      obtain ⟨cs', h1, h2⟩ := hc i (by omega)
      obtain ⟨_, hlen, hcell⟩ := World.cells?_some h1
      obtain ⟨xs, k, hk, hxy, _, hxl, hf⟩ := DataW.trod_struct Tryz.underlying40 h2
      have hw := hin i hi
      match xs, hxl, cs', hlen with
      | [y0, y1, y2, y3, y4, y5, y6, y7], _, [v0, v1, v2, v3, v4, v5, v6, v7], _ =>
        have g0 := hf 0 _ rfl
        have g1 := hf 1 _ rfl
        have g2 := hf 2 _ rfl
        have g3 := hf 3 _ rfl
        have g4 := hf 4 _ rfl
        have g5 := hf 5 _ rfl
        have g6 := hf 6 _ rfl
        have g7 := hf 7 _ rfl
        simp [cells3, cells9, cellsL', cellsD'] at g0 g1 g2 g3 g4 g5 g6 g7
        have hD : D i = .agg [y0.1, y1.1, y2.1, y3.1, y4.1, y5.1, y6.1, y7.1] := congrArg Prod.fst hxy
        rw [hD] at hw
        simp only [DataW.weights, Tryz.underlying40] at hw
        obtain ⟨p, e0, _, w0⟩ := DataW.trod_int Tryz.underlying3 g0
        obtain ⟨s4, e4, x4, w4⟩ := DataW.trod_string Tryz.underlying9 g4
        obtain ⟨s5, e5, x5, w5⟩ := DataW.trod_string Tryz.underlying9 g5
        obtain ⟨s6, e6, x6, w6⟩ := DataW.trod_string Tryz.underlying9 g6
        obtain ⟨q, e7, _, w7⟩ := DataW.trod_int Tryz.underlying3 g7
        simp at e0 e4 e5 e6 e7
        subst e0 e4 e5 e6 e7
        obtain ⟨l, ml, gl⟩ := came_trod (d := y1.1) (p := y1.2) g1 (fun x hx => hw x (by simp [DataW.weightsEach, hx]))
        obtain ⟨c, mc, gc⟩ := came_trod (d := y2.1) (p := y2.2) g2 (fun x hx => hw x (by simp [DataW.weightsEach, hx]))
        obtain ⟨aD, nD, cD, rfl⟩ := slice_trod g3
        have z4 := hw s4.data.toList.length (by simp [DataW.weightsEach, x4, DataW.weights])
        have z5 := hw s5.data.toList.length (by simp [DataW.weightsEach, x5, DataW.weights])
        have z6 := hw s6.data.toList.length (by simp [DataW.weightsEach, x6, DataW.weights])
        have f0 := hcell 0 (by omega)
        have f1 := hcell 1 (by omega)
        have f2 := hcell 2 (by omega)
        have f3 := hcell 3 (by omega)
        have f4 := hcell 4 (by omega)
        have f5 := hcell 5 (by omega)
        have f6 := hcell 6 (by omega)
        have f7 := hcell 7 (by omega)
        rw [Go.Deep.add_add] at f0 f1 f2 f3 f4 f5 f6 f7
        exact ⟨p, v1, v2, _, s4, s5, s6, q, l, c, aD, nD, cD, by simpa using f0, by simpa using f1, by simpa using f2, by simpa using f3, by simpa using f4, by simpa using f5, by simpa using f6, by simpa using f7, ml, mc, gl, gc, rfl, text_size z4, text_size z5, text_size z6, wf_i64 w0, wf_i64 w7⟩
    obtain ⟨b, off, spot⟩ := a
    obtain ⟨_, _, _, _, _, _, _, _, _, _, _, _, _, k0, _⟩ := key 0 (by omega)
    have hspot : spot = none := by simpa [Addr.add] using World.cell?_spot k0
    subst hspot
    refine ⟨b, off, rfl, ?_, fun j hj => ?_⟩
    · rw [Go.WideShapes.add_plain] at k0
      exact block_lt k0
    · obtain ⟨k, vL, vO, vD, s, ks, vs, n, l, c, aD, nD, cD, a0, a1, a2, a3, a4, a5, a6, a7, r⟩ := key j hj
      rw [Go.WideShapes.add_plain] at a0 a1 a2 a3 a4 a5 a6 a7
      exact ⟨k, vL, vO, vD, s, ks, vs, n, l, c, aD, nD, cD, a0, by rw [Nat.add_assoc]; exact a1, by rw [Nat.add_assoc]; exact a2, by rw [Nat.add_assoc]; exact a3, by rw [Nat.add_assoc]; exact a4, by rw [Nat.add_assoc]; exact a5, by rw [Nat.add_assoc]; exact a6, by rw [Nat.add_assoc]; exact a7, r⟩
set_option maxRecDepth 100000 in
theorem ops_arg {H : Type} {enc : TypeId × Value → H} {W : World} {base : Nat} {v : Value} {d : DataW H} {p : List MemPlace} (hv : Value.okWide Tryz.prog W .any base 22 v) (h : DataW.Trod enc Tryz.prog W 0 (fun _ => true) true 22 v d p)
    (hsz : ∀ x ∈ d.weights Tryz.prog 22, x ≤ reachBytes) : ∃ a len cap, v = .slice a len cap ∧ List8 W a len := by
  obtain ⟨a, len, cap, rfl⟩ := okWide_slice Tryz.underlying22 hv
  obtain ⟨fuel, hf⟩ := h
  exact ops_open (y := (d, p)) (by simpa [Value.cells] using hf) hsz
theorem iface_laid {W : World} {name nm : String} {d : DataW Unit} {rest : List (String × DataW Unit)} {g : Nat} {t : TypeId} {ms : Array (String × TypeId)} (hg : Tryz.prog.globalNamed name = some g) (hty : (Tryz.prog.globals[g]?).map (·.type) = some t) (ht : Tryz.prog.underlying t = some (.interface ms))
    (h : laidMet Tryz.prog ((name, .iface nm d) :: rest) W) : ∃ tp p, W.var? Tryz.prog name = some #[.iface tp p] := by
  obtain ⟨ps, ⟨g', t', cs, fuel, p, q, hg', ht', hvar, hd, _, _⟩, _⟩ := h
  obtain rfl := Option.some.inj (hg.symm.trans hg')
  obtain rfl := Option.some.inj (hty.symm.trans ht')
  obtain ⟨f', u, v, e, _, _⟩ := iface_of_trod ht hd
  refine ⟨u, v, ?_⟩
  rw [hvar, Array.eq_one_of_toList e]
set_option maxRecDepth 100000 in
theorem vars_of {W : World} (h : laidMetH Tryz.prog Rows.labelsTextsRow.laid W) : Vars W := by
  have pick : ∀ nm, laidMetH Tryz.prog (Rows.labelsTextsRow.laid.filter fun x => x.1 == nm) W := fun nm => h.filter _
  have k1 : laidMet Tryz.prog [("internal/strconv.uint64pow10", Rows.laid_internal_strconv_uint64pow10)] W := pick "internal/strconv.uint64pow10"
  have k2 : laidMet Tryz.prog [("strconv.ErrSyntax", Rows.laid_strconv_ErrSyntax)] W := pick "strconv.ErrSyntax"
  have k3 : laidMet Tryz.prog [("strconv.ErrRange", Rows.laid_strconv_ErrRange)] W := pick "strconv.ErrRange"
  refine ⟨?_, ?_, ?_⟩
  · exact Lib.tabIs_of_head (rest := []) (g := 5) (t := 172) (by kernel_rfl) (by kernel_rfl) Tryz.underlying172 Tryz.underlying126 (by kernel_rfl) (by kernel_rfl) k1
  · exact iface_laid (g := 3) (by kernel_rfl) (by kernel_rfl) Tryz.underlying97 k2
  · exact iface_laid (g := 4) (by kernel_rfl) (by kernel_rfl) Tryz.underlying97 k3
end Go.Proofs.YtnldagpbmphdhaaGreatDoor.L
