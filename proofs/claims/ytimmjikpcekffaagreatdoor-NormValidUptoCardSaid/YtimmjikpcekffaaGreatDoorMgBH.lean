import Derived.Test.YtimmjikpcekffaaGreatDoorMgBG
import Derived.LaidHandle
import Derived.Lay
namespace Go.Proofs.YtimmjikpcekffaaGreatDoor.L
open Go.ChangeShapes Go.WideShapes Go.ChangeAt Go.RowKit Go.Joins
set_option linter.unusedVariables false
set_option linter.unusedSimpArgs false
theorem GdB.mono {p : Pp} {B C : Nat} (h : GdB p B) (hb : B ≤ C) : GdB p C := by
  obtain ⟨h1, h2, h3, h4, h5, h6⟩ := h
  exact ⟨by omega, by omega, by omega, by omega, by omega, fun k => Nat.le_trans (h6 k) hb⟩
theorem GdB.gd {p : Pp} {B : Nat} (h : GdB p B) (hb : B ≤ 1048576) : GdQ p := by
  obtain ⟨h1, h2, h3, h4, h5, h6⟩ := h
  unfold GdQ
  have hm : (1048576 : Nat) ≤ maxLen := by decide
  exact ⟨by omega, by omega, by omega, by omega, by omega, by omega, fun k => by have := h6 k; omega⟩
set_option maxRecDepth 100000 in
set_option maxHeartbeats 4000000 in
theorem list_open {H : Type} {enc : TypeId × Value → H} {W : World} {fuel : Nat} {v : Value} {y : DataW H × List MemPlace} (h : DataW.trod enc Tryz.prog W 0 (fun _ => true) true fuel 22 [v] = some y) :
    ∃ (a : Option Addr) (T : List Pp) (cap : Nat), v = .slice a T.length cap ∧ PQ W a T ∧ meL T < Rows.uptoBulk y.1 ∧ ∀ j, j < T.length → GdB (pp T j) (Rows.uptoBulk y.1) := by
  rcases Go.Deep.open_slice Tryz.underlying22 h with ⟨hv, hx⟩ | ⟨a, len, cap, m, n, D, Pl, hv, hb, hl, hm, hmm, hx, hc⟩
  · simp at hv
    exact ⟨none, [], 0, hv, Or.inl rfl, by have := bulk_one y.1; show 0 < _; omega, fun j hj => absurd hj (Nat.not_lt_zero j)⟩
  · simp at hv
    rw [cellsPp] at hc
    have hbk : Rows.uptoBulkAll ((List.range len).map D) < Rows.uptoBulk y.1 := by
      rw [hx]
      simp only [Rows.uptoBulk]
      omega
    have hml : len ≤ m := by rw [hmm]; split <;> omega
    have key : ∀ i, i < len → ∃ (p : Pp), ∃ (xa : Option Addr) (xc : Nat) (na : Option Addr) (nc : Nat) (ka : Option Addr) (kc : Nat), (∀ q u, (pvs p xa xc na nc ka kc)[q]? = some u → W.cell? (a.add (i * 19 + q)) = some u) ∧ RdS W xa p.l.tx ∧ RdI W na p.l.nm ∧ RdI W ka p.ks ∧ GdB p (Rows.uptoBulk (D i)) := by
      intro i hi
      obtain ⟨cs', h1, h2⟩ := hc i (by omega)
      obtain ⟨_, hlen, hcell⟩ := World.cells?_some h1
      obtain ⟨p, xa, xc, na, nc, ka, kc, e, r1, r2, r3, r4⟩ := part_open hlen h2
      refine ⟨p, xa, xc, na, nc, ka, kc, fun q u hq => ?_, r1, r2, r3, r4⟩
      have hq19 : q < 19 := by
        rcases List.getElem?_eq_some_iff.1 hq with ⟨h4, _⟩
        exact h4
      have f0 := hcell q hq19
      rw [Go.Deep.add_add] at f0
      rw [f0, e]
      exact hq
    haveI : Inhabited Pp := ⟨pp0⟩
    obtain ⟨q, hq⟩ := Go.Deep.choose_lt key
    have hlen : ((List.range len).map q).length = len := by simp
    have hget : ∀ j, j < len → pp ((List.range len).map q) j = q j := by
      intro j hj
      simp [pp, List.getD_eq_getElem?_getD, List.getElem?_range hj]
    have hrm : ∀ k, k ≤ len → rm ((List.range len).map q) k ≤ Rows.uptoBulkAll ((List.range k).map D) := by
      intro k
      induction k with
      | zero => intro _; simp [rm, Rows.uptoBulkAll]
      | succ k ih =>
        intro hk
        have h1 := ih (by omega)
        obtain ⟨xa, xc, na, nc, ka, kc, _, _, _, _, g1, g2, _⟩ := hq k (by omega)
        rw [List.range_succ, List.map_append, bulk_app]
        simp only [List.map_cons, List.map_nil, Rows.uptoBulkAll, rm]
        rw [hget k (by omega)]
        omega
    refine ⟨some a, (List.range len).map q, cap, by rw [hlen]; exact hv, ?_, ?_, fun j hj => ?_⟩
    · by_cases h0 : len = 0
      · exact Or.inl (by rw [hlen]; exact h0)
      right
      obtain ⟨b, off, spot⟩ := a
      obtain ⟨_, _, _, _, _, _, k0, _⟩ := hq 0 (by omega)
      have k0' := k0 0 _ rfl
      have hspot : spot = none := by simpa [Addr.add] using World.cell?_spot k0'
      subst hspot
      refine ⟨b, off, rfl, ?_, fun j hj => ?_⟩
      · rw [Go.WideShapes.add_plain] at k0'
        exact block_lt k0'
      · rw [hlen] at hj
        obtain ⟨xa, xc, na, nc, ka, kc, c, r1, r2, r3, _⟩ := hq j hj
        rw [hget j hj]
        refine ⟨xa, xc, na, nc, ka, kc, fun i u hu => ?_, r1, r2, r3⟩
        have := c i u hu
        rw [Go.WideShapes.add_plain] at this
        rw [Nat.add_assoc]
        exact this
    · have h1 := hrm len (Nat.le_refl _)
      have h2 := rm_all ((List.range len).map q)
      rw [hlen] at h2
      omega
    · rw [hlen] at hj
      obtain ⟨xa, xc, na, nc, ka, kc, c, r1, r2, r3, r4⟩ := hq j hj
      rw [hget j hj]
      exact r4.mono (by have := bulk_at D hj; omega)
set_option maxRecDepth 100000 in
set_option maxHeartbeats 4000000 in
theorem sels_open {H : Type} {enc : TypeId × Value → H} {W : World} {fuel : Nat} {v : Value} {y : DataW H × List MemPlace} (h : DataW.trod enc Tryz.prog W 0 (fun _ => true) true fuel 23 [v] = some y) :
    ∃ (a : Option Addr) (S : List (List Pp)) (cap : Nat), v = .slice a S.length cap ∧ PS W a S ∧ S.length < Rows.uptoBulk y.1 ∧ (∀ M, meS M S S.length ≤ meL M + Rows.uptoBulk y.1) ∧ ∀ j, j < S.length → meL (S.getD j []) < Rows.uptoBulk y.1 ∧ ∀ i, i < (S.getD j []).length → GdB (pp (S.getD j []) i) (Rows.uptoBulk y.1) := by
  rcases Go.Deep.open_slice Tryz.underlying23 h with ⟨hv, hx⟩ | ⟨a, len, cap, m, n, D, Pl, hv, hb, hl, hm, hmm, hx, hc⟩
  · simp at hv
    exact ⟨none, [], 0, hv, Or.inl rfl, by have := bulk_one y.1; show 0 < _; omega, fun M => Nat.le_add_right _ _, fun j hj => absurd hj (Nat.not_lt_zero j)⟩
  · simp at hv
    rw [cellsLs] at hc
    have hbk : Rows.uptoBulkAll ((List.range len).map D) < Rows.uptoBulk y.1 := by
      rw [hx]
      simp only [Rows.uptoBulk]
      omega
    have hln : len < Rows.uptoBulk y.1 := by
      have := bulk_len ((List.range len).map D)
      simp at this
      omega
    have hml : len ≤ m := by rw [hmm]; split <;> omega
    have key : ∀ i, i < len → ∃ (T : List Pp), ∃ (la : Option Addr) (lc : Nat), W.cell? (a.add i) = some (.slice la T.length lc) ∧ PQ W la T ∧ meL T < Rows.uptoBulk (D i) ∧ ∀ j, j < T.length → GdB (pp T j) (Rows.uptoBulk (D i)) := by
      intro i hi
      obtain ⟨cs', h1, h2⟩ := hc i (by omega)
      obtain ⟨_, hlen, hcell⟩ := World.cells?_some h1
      match cs', hlen with
      | [v0], _ =>
        obtain ⟨la, T, lc, rfl, r1, r2, r3⟩ := list_open h2
        have h0 := hcell 0 (by omega)
        refine ⟨T, la, lc, ?_, r1, r2, r3⟩
        have e0 : ((a.add (i * 1)).add 0) = a.add i := by rw [Nat.mul_one]; unfold Addr.add; simp
        rw [e0] at h0
        simpa using h0
    obtain ⟨q, hq⟩ := Go.Deep.choose_lt key
    have hlen : ((List.range len).map q).length = len := by simp
    have hget : ∀ j, j < len → ((List.range len).map q).getD j [] = q j := by
      intro j hj
      simp [List.getD_eq_getElem?_getD, List.getElem?_range hj]
    have hme : ∀ M k, k ≤ len → meS M ((List.range len).map q) k ≤ meL M + Rows.uptoBulkAll ((List.range k).map D) := by
      intro M k
      induction k with
      | zero => intro _; simp [meS, Rows.uptoBulkAll]
      | succ k ih =>
        intro hk
        have h1 := ih (by omega)
        obtain ⟨_, _, _, _, g1, _⟩ := hq k (by omega)
        rw [List.range_succ, List.map_append, bulk_app]
        simp only [List.map_cons, List.map_nil, Rows.uptoBulkAll, meS]
        rw [hget k (by omega)]
        omega
    refine ⟨some a, (List.range len).map q, cap, by rw [hlen]; exact hv, ?_, by rw [hlen]; exact hln, fun M => ?_, fun j hj => ?_⟩
    · by_cases h0 : len = 0
      · exact Or.inl (by rw [hlen]; exact h0)
      right
      obtain ⟨b, off, spot⟩ := a
      obtain ⟨_, _, k0, _⟩ := hq 0 (by omega)
      have hspot : spot = none := by simpa [Addr.add] using World.cell?_spot k0
      subst hspot
      refine ⟨b, off, rfl, ?_, fun j hj => ?_⟩
      · rw [Go.WideShapes.add_plain] at k0
        exact block_lt k0
      · rw [hlen] at hj
        obtain ⟨la, lc, c, r1, _⟩ := hq j hj
        rw [Go.WideShapes.add_plain] at c
        rw [hget j hj]
        exact ⟨la, lc, c, r1⟩
    · rw [hlen]
      have := hme M len (Nat.le_refl _)
      omega
    · rw [hlen] at hj
      obtain ⟨la, lc, c, r1, r2, r3⟩ := hq j hj
      rw [hget j hj]
      have h9 := bulk_at D hj
      exact ⟨by omega, fun i hi => (r3 i hi).mono (by omega)⟩
set_option maxRecDepth 100000 in
theorem plan_arg {H : Type} {enc : TypeId × Value → H} {W : World} {base : Nat} {v : Value} {d : DataW H} {p : List MemPlace} (hv : Value.okWide Tryz.prog W .any base 25 v) (h : DataW.Trod enc Tryz.prog W 0 (fun _ => true) true 25 v d p)
    (hbk : Rows.uptoBulk d ≤ 1048576) : ∃ (ma sa : Option Addr) (M : List Pp) (S : List (List Pp)) (mc sc : Nat), v = .agg #[.slice ma M.length mc, .slice sa S.length sc] ∧ PQ W ma M ∧ PS W sa S ∧ S.length ≤ 4611686018427387904 ∧ meS M S S.length ≤ 4611686018427387904 ∧ GdP M ∧ GdS' S := by
  obtain ⟨cs, rfl, hcs⟩ := okWide_struct Tryz.underlying25 hv
  obtain ⟨fuel, hf⟩ := h
  have hf' : DataW.trod enc Tryz.prog W 0 (fun _ => true) true fuel 25 cs.toList = some (d, p) := by simpa [Value.cells] using hf
  obtain ⟨y0, y1, n, hx, hl, h0, h1⟩ := trod_struct2 Tryz.underlying25 hf'
  rw [cellsPn] at hl
  have hd : d = .agg [y0.1, y1.1] := congrArg Prod.fst hx
  rw [hd] at hbk
  simp only [Rows.uptoBulk, Rows.uptoBulkAll] at hbk
  match hcl : cs.toList, hl with
  | [c0, c1], _ =>
    rw [hcl] at h0 h1
    simp [cellsLs, cellsSs] at h0 h1
    obtain ⟨ma, M, mc, rfl, r1, r2, r3⟩ := list_open h0
    obtain ⟨sa, S, sc, rfl, q1, q2, q3, q4⟩ := sels_open h1
    refine ⟨ma, sa, M, S, mc, sc, ?_, r1, q1, by omega, by have := q3 M; omega, ?_, ?_⟩
    · congr 1
      apply Array.ext'
      rw [hcl]
    · exact ⟨by have := meL_ge M; omega, fun j hj => (r3 j hj).gd (by omega)⟩
    · intro j hj
      obtain ⟨a1, a2⟩ := q4 j hj
      exact ⟨by have := meL_ge (S.getD j []); omega, fun i hi => (a2 i hi).gd (by omega)⟩
end Go.Proofs.YtimmjikpcekffaaGreatDoor.L
namespace Go.Proofs.YtimmjikpcekffaaGreatDoor.L
open Go.ChangeShapes Go.WideShapes Go.ChangeAt Go.RowKit Go.Joins
set_option linter.unusedVariables false
theorem etN : Tryz.prog.globalNamed "errors.errorType" = some 0 := by kernel_rfl
theorem rtN : (Tryz.prog.cutTypes.find? (·.1 == "internal/reflectlite.rtype")).map (·.2) = some 146 := by kernel_rfl
theorem oneRow : ((List.range 324).filter fun t => Tryz.prog.rowNamed t [101, 114, 114, 111, 114]) = [67] := by kernel_rfl
theorem sizeN : Tryz.prog.types.size = 324 := by kernel_rfl
theorem gv_laid {W : World} {laid : List (String × DataW Unit)} (h : laidMetH Tryz.prog laid W) (e : (laid.filter fun x => x.2.handleName?.isSome) = [("errors.errorType", Rows.laid_errors_errorType)]) : Gv W := by
  unfold laidMetH at h
  rw [e] at h
  have h2 := h.2 _ (List.mem_singleton.2 rfl)
  have h3 : ∃ name u ty, (Rows.laid_errors_errorType : DataW Unit).handleName? = some name ∧ (Tryz.prog.cutTypes.find? (·.1 == "internal/reflectlite.rtype")).map (·.2) = some u ∧ ty < Tryz.prog.types.size ∧ Tryz.prog.rowNamed ty name = true ∧ W.var? Tryz.prog "errors.errorType" = some #[.iface u (.agg #[typeHandle Tryz.prog ty])] := h2
  obtain ⟨name, u, ty, e1, e2, e3, e4, e5⟩ := h3
  have en : name = [101, 114, 114, 111, 114] := (Option.some.inj e1).symm
  subst en
  obtain rfl := Option.some.inj (rtN.symm.trans e2)
  have hm : ty ∈ (List.range 324).filter fun t => Tryz.prog.rowNamed t [101, 114, 114, 111, 114] := List.mem_filter.2 ⟨List.mem_range.2 (by rw [← sizeN]; exact e3), e4⟩
  rw [oneRow] at hm
  obtain rfl := List.mem_singleton.1 hm
  have hh : typeHandle Tryz.prog 67 = .pointer (some ⟨9, 67, none⟩) := by kernel_rfl
  rw [hh] at e5
  simpa [Gv] using World.var?_cell etN e5 0
theorem laidMet_on {P : Program} {w0 : World} {laid : List (String × DataW Unit)} (args : Array Value) (hf : w0.layFits P laid [] = true) (hi : w0.layIfaces P laid (w0.layVars P laid) = true) :
    laidMet P laid ((w0.layVars P laid).forCall (fun _ _ => 0) ⟨#[], args, []⟩).memory := by
  have e1 : (laid.filter fun x => (laid.map (·.1)).contains x.1) = laid := List.filter_eq_self.2 fun x hx => List.contains_iff_mem.2 (List.mem_map.2 ⟨x, hx, rfl⟩)
  have e2 : (laid.filter fun x => !(laid.map (·.1)).contains x.1) = [] := List.filter_eq_nil_iff.2 fun x hx => by rw [List.contains_iff_mem.2 (List.mem_map.2 ⟨x, hx, rfl⟩)]; simp
  have h : laidMet P laid (w0.layVars P laid) := laidMet_layVars (w0 := w0) (laid.map (·.1)) [] (by rw [e1]) (by rw [e1]; exact hf) (by rw [e1]; exact hi) (by rw [e2]; exact LaidIn.none)
  exact h.of_heap (by simp [World.memory, World.forCall, Input.heap])
end Go.Proofs.YtimmjikpcekffaaGreatDoor.L
