import Derived.Test.YtiddnjjaidiohaaGreatDoorRows
import Derived.Test.YtiddnjjaidiohaaGreatDoorTie
import Derived.Test.YtiddnjjaidiohaaGreatDoorCards
import Derived.Test.YtiddnjjaidiohaaGreatDoorMgAS
import Derived.ProofKit
import Derived.LaidMore
import Derived.LaidLaws
import Derived.LaidSub
import Derived.OpenShut
import Derived.SizedLaws
import Derived.Deep.DeepHandedRow
import Derived.Deep.Slices
import Derived.Lib.SmallJoins
import Derived.Lib.LaidTab
import Derived.SevenTiedAt
import Derived.Test.YtiddnjjaidiohaaGreatDoorMgAZ
import Derived.Test.YtiddnjjaidiohaaGreatDoorMgAK
import Derived.LaidHandle
import Derived.Lay
namespace Go.Proofs.YtiddnjjaidiohaaGreatDoor.L
open Go.ChangeShapes Go.WideShapes Go.ChangeAt Go.RowKit Go.Joins
set_option linter.unusedVariables false
theorem own : ownKnob Tryz.prog.godebug = none := by kernel_rfl
theorem reach_num : reachBytes = 140737488351232 := by kernel_rfl
theorem laidOut : laidOutB Tryz.prog = true := by kernel_rfl
theorem cells9 : Tryz.prog.cellsOf 9 = 1 := by kernel_rfl
theorem cells3 : Tryz.prog.cellsOf 3 = 1 := by kernel_rfl
theorem cellsK : Tryz.prog.cellsOf 55 = 1 := by kernel_rfl
theorem cellsI : Tryz.prog.cellsOf 58 = 1 := by kernel_rfl
theorem cellsL : Tryz.prog.cellsOf 24 = 1 := by kernel_rfl
theorem cellsPt : Tryz.prog.cellsOf 60 = 4 := by kernel_rfl
theorem cellsTr : Tryz.prog.cellsOf 26 = 1 := by kernel_rfl
theorem bytes3 : Tryz.prog.bytesOf 3 = 8 := by kernel_rfl
theorem bytesPt : Tryz.prog.bytesOf 60 = 56 := by kernel_rfl
theorem readT : Tryz.prog.readableRec 26 = true := by kernel_rfl
theorem rowT : 26 < Tryz.prog.types.size := of_decide_eq_true (by kernel_rfl)
theorem all_le {l : List Nat} {n : Nat} (h : l.all (fun x => decide (x ≤ n)) = true) {x : Nat} (hx : x ∈ l) : x ≤ n := by
  have := List.all_eq_true.1 h x hx
  simpa using this
theorem block_lt {w : World} {b o : Nat} {v : Value} (h : w.cell? ⟨b, o, none⟩ = some v) : b < w.heap.size := by
  apply Classical.byContradiction
  intro n
  have : w.heap[b]? = none := Array.getElem?_eq_none (by omega)
  simp [World.cell?, this] at h
theorem mem_all {H : Type} {P : Program} {e : TypeId} {ds : List (DataW H)} {d : DataW H} (h : d ∈ ds) {x : Nat} (hx : x ∈ d.weights P e) : x ∈ DataW.weightsAll P e ds := by
  induction ds with
  | nil => cases h
  | cons y r ih =>
    rw [DataW.weightsAll, List.mem_append]
    rcases List.mem_cons.1 h with rfl | h
    · exact Or.inl hx
    · exact Or.inr (ih h)
/-- A list of kids that came in, opened. -/
theorem kids_open {H : Type} {enc : TypeId × Value → H} {W : World} {fuel : Nat} {v : Value} {d : DataW H} {p : List MemPlace} (h : DataW.trod enc Tryz.prog W 0 (fun _ => true) true fuel 58 [v] = some (d, p))
    (hk : ∀ x ∈ d.weights Tryz.prog 58, x ≤ reachBytes) : ∃ (a : Option Addr) (zs : List Int) (cap : Nat), v = .slice a zs.length cap ∧ RdI W a zs ∧ (a = none → cap = 0) ∧ zs.length ≤ 140737488355328 := by
  rcases Go.Deep.open_slice Tryz.underlying58 h with ⟨hv, hx⟩ | ⟨a, len, cap, m, n, D, Pl, hv, hb, hl, hm, hmm, hx, hc⟩
  · simp at hv
    exact ⟨none, [], 0, hv, Or.inl rfl, fun _ => rfl, by simp⟩
  · simp at hv
    simp at hmm
    rw [cells3] at hc
    have hx1 := congrArg Prod.fst hx
    simp only at hx1
    have hbytes : len ≤ 140737488355328 := by
      subst hmm
      have := hk (m * 8) (by rw [hx1]; simp [DataW.weights, Tryz.underlying58, bytes3]; left; omega)
      rw [reach_num] at this
      omega
    have key : ∀ i, i < len → ∃ s : Int, W.cell? (a.add i) = some (.int .i64 s) := by
      intro i hi
      obtain ⟨cs', h1, h2⟩ := hc i (by omega)
      obtain ⟨s, e1, e2, _⟩ := DataW.trod_int Tryz.underlying3 h2
      subst e1
      obtain ⟨_, _, hcell⟩ := World.cells?_some h1
      have h0 := hcell 0 (by omega)
      refine ⟨s, ?_⟩
      have e0 : ((a.add (i * 1)).add 0) = a.add i := by rw [Nat.mul_one]; unfold Addr.add; simp
      rw [e0] at h0
      simpa using h0
    obtain ⟨q, hq⟩ := Go.Deep.choose_lt key
    refine ⟨some a, (List.range len).map q, cap, by simpa using hv, ?_, (fun e => by cases e), by simpa using hbytes⟩
    by_cases h0 : len = 0
    · exact Or.inl (by simpa using h0)
    right
    obtain ⟨b, off, spot⟩ := a
    have k0 := hq 0 (by omega)
    have hspot : spot = none := by simpa [Addr.add] using World.cell?_spot k0
    subst hspot
    refine ⟨b, off, rfl, ?_, fun j hj => ?_⟩
    · rw [Go.WideShapes.add_plain] at k0
      exact block_lt k0
    · have hj' : j < len := by simpa using hj
      have := hq j hj'
      rw [Go.WideShapes.add_plain] at this
      rw [this]
      simp [List.getD_eq_getElem?_getD, List.getElem?_range hj']
set_option maxRecDepth 100000 in
set_option maxHeartbeats 1000000 in
theorem parts_open {H : Type} {enc : TypeId × Value → H} {W : World} {fuel : Nat} {v : Value} {y : DataW H × List MemPlace} (h : DataW.trod enc Tryz.prog W 0 (fun _ => true) true fuel 24 [v] = some y)
    (hsz : ∀ x ∈ y.1.weights Tryz.prog 24, x ≤ reachBytes) : ∃ (a : Option Addr) (T : List Pt) (cap : Nat), v = .slice a T.length cap ∧ PLs W a T ∧ GdT T := by
  rcases Go.Deep.open_slice Tryz.underlying24 h with ⟨hv, hx⟩ | ⟨a, len, cap, m, n, D, Pl, hv, hb, hl, hm, hmm, hx, hc⟩
  · simp at hv
    exact ⟨none, [], 0, hv, Or.inl rfl, by decide, fun j hj => absurd hj (Nat.not_lt_zero j)⟩
  · simp at hv
    simp at hmm
    rw [cellsPt] at hc
    have hx1 := congrArg Prod.fst hx
    simp only at hx1
    have hbytes : len ≤ 140737488355328 := by
      subst hmm
      have := hsz (m * 56) (by rw [hx1]; simp [DataW.weights, Tryz.underlying24, bytesPt]; left; omega)
      rw [reach_num] at this
      omega
    have hin : ∀ i, i < len → ∀ x ∈ (D i).weights Tryz.prog 60, x ≤ reachBytes := by
      intro i hi x hxx
      refine hsz x ?_
      rw [hx]
      have := mem_all (P := Tryz.prog) (e := 60) (ds := (List.range len).map D) (List.mem_map.2 ⟨i, List.mem_range.2 hi, rfl⟩) hxx
      simp only [DataW.weights, Tryz.underlying24]
      exact List.mem_cons_of_mem _ (List.mem_append_left _ this)
    have key : ∀ i, i < len → ∃ (q : Pt), ∃ (ka : Option Addr) (kc : Nat), W.cell? (a.add (i * 4)) = some (.int .i64 q.kind) ∧ W.cell? (a.add (i * 4 + 1)) = some (.string q.text) ∧ W.cell? (a.add (i * 4 + 2)) = some (.int .i64 q.num) ∧
        W.cell? (a.add (i * 4 + 3)) = some (.slice ka q.kids.length kc) ∧ RdI W ka q.kids ∧ (ka = none → kc = 0) ∧ q.kids.length ≤ 140737488355328 := by
      intro i hi
      obtain ⟨cs', h1, h2⟩ := hc i (by omega)
      obtain ⟨_, hlen, hcell⟩ := World.cells?_some h1
      obtain ⟨xs, k, hk, hxy, _, hxl, hf⟩ := DataW.trod_struct Tryz.underlying60 h2
      have hw := hin i hi
      match xs, hxl, cs', hlen with
      | [y0, y1, y2, y3], _, [v0, v1, v2, v3], _ =>
        have g0 := hf 0 _ rfl
        have g1 := hf 1 _ rfl
        have g2 := hf 2 _ rfl
        have g3 := hf 3 _ rfl
        simp [cells3, cells9, cellsK, cellsI] at g0 g1 g2 g3
        have hD : D i = .agg [y0.1, y1.1, y2.1, y3.1] := congrArg Prod.fst hxy
        rw [hD] at hw
        simp only [DataW.weights, Tryz.underlying60] at hw
        obtain ⟨p, e0, _, w0⟩ := DataW.trod_int Tryz.underlying55 g0
        obtain ⟨s, e1, _, w1⟩ := DataW.trod_string Tryz.underlying9 g1
        obtain ⟨q, e2, _, w2⟩ := DataW.trod_int Tryz.underlying3 g2
        simp at e0 e1 e2
        subst e0 e1 e2
        obtain ⟨ka, zs, kc, rfl, r1, r2, r3⟩ := kids_open (d := y3.1) (p := y3.2) g3 (fun x hx => hw x (by simp [DataW.weightsEach, hx]))
        have f0 := hcell 0 (by omega)
        have f1 := hcell 1 (by omega)
        have f2 := hcell 2 (by omega)
        have f3 := hcell 3 (by omega)
        rw [Go.Deep.add_add] at f0 f1 f2 f3
        exact ⟨⟨p, s, q, zs⟩, ka, kc, by simpa using f0, by simpa using f1, by simpa using f2, by simpa using f3, r1, r2, r3⟩
    haveI : Inhabited Pt := ⟨⟨0, ⟨#[]⟩, 0, []⟩⟩
    obtain ⟨q, hq⟩ := Go.Deep.choose_lt key
    have hlen : ((List.range len).map q).length = len := by simp
    have hget : ∀ j, j < len → pt ((List.range len).map q) j = q j := by
      intro j hj
      simp [pt, List.getD_eq_getElem?_getD, List.getElem?_range hj]
    refine ⟨some a, (List.range len).map q, cap, by rw [hlen]; exact hv, ?_, by rw [hlen]; exact hbytes, fun j hj => ?_⟩
    · by_cases h0 : len = 0
      · exact Or.inl (by rw [hlen]; exact h0)
      right
      obtain ⟨b, off, spot⟩ := a
      obtain ⟨_, _, k0, _⟩ := hq 0 (by omega)
      have hspot : spot = none := by simpa [Addr.add] using World.cell?_spot k0
      subst hspot
      refine ⟨b, off, rfl, ?_, fun j hj => ?_⟩
      · rw [Go.WideShapes.add_plain] at k0
        exact block_lt k0
      · rw [hlen] at hj
        obtain ⟨ka, kc, a0, a1, a2, a3, r1, r2, r3⟩ := hq j hj
        rw [Go.WideShapes.add_plain] at a0 a1 a2 a3
        rw [hget j hj]
        exact ⟨ka, kc, a0, by rw [Nat.add_assoc]; exact a1, by rw [Nat.add_assoc]; exact a2, by rw [Nat.add_assoc]; exact a3, r1, r2⟩
    · rw [hlen] at hj
      obtain ⟨ka, kc, a0, a1, a2, a3, r1, r2, r3⟩ := hq j hj
      rw [hget j hj]
      exact r3
set_option maxRecDepth 100000 in
theorem tree_arg {H : Type} {enc : TypeId × Value → H} {W : World} {base : Nat} {v : Value} {d : DataW H} {p : List MemPlace} (hv : Value.okWide Tryz.prog W .any base 26 v) (h : DataW.Trod enc Tryz.prog W 0 (fun _ => true) true 26 v d p)
    (hsz : ∀ x ∈ d.weights Tryz.prog 26, x ≤ reachBytes) : ∃ (a : Option Addr) (T : List Pt) (cap : Nat), v = .agg #[.slice a T.length cap] ∧ PLs W a T ∧ GdT T := by
  obtain ⟨cs, rfl, hcs⟩ := okWide_struct Tryz.underlying26 hv
  obtain ⟨fuel, hf⟩ := h
  have hf' : DataW.trod enc Tryz.prog W 0 (fun _ => true) true fuel 26 cs.toList = some (d, p) := by simpa [Value.cells] using hf
  obtain ⟨y0, n, hx, hl, hy⟩ := trod_struct1 Tryz.underlying26 hf'
  rw [cellsTr] at hl
  have hd : d = .agg [y0.1] := congrArg Prod.fst hx
  match hcl : cs.toList, hl with
  | [c0], _ =>
    rw [hcl] at hy
    simp [cellsL] at hy
    obtain ⟨a, T, cap, rfl, h1, h2⟩ := parts_open hy (fun x hxx => hsz x (by rw [hd]; simp [DataW.weights, DataW.weightsEach, Tryz.underlying26, hxx]))
    refine ⟨a, T, cap, ?_, h1, h2⟩
    congr 1
    apply Array.ext'
    rw [hcl]
end Go.Proofs.YtiddnjjaidiohaaGreatDoor.L
namespace Go.Proofs.YtiddnjjaidiohaaGreatDoor.L
open Go.ChangeShapes Go.WideShapes Go.ChangeAt Go.RowKit Go.Joins
set_option linter.unusedVariables false
theorem cellsOp : Tryz.prog.cellsOf 28 = 2 := by kernel_rfl
theorem bytesOp : Tryz.prog.bytesOf 28 = 32 := by kernel_rfl
theorem readO : Tryz.prog.readableRec 22 = true := by kernel_rfl
theorem rowO : 22 < Tryz.prog.types.size := of_decide_eq_true (by kernel_rfl)
/-- A tree inside what came in, opened. -/
theorem tree_trod {H : Type} {enc : TypeId × Value → H} {W : World} {fuel : Nat} {c0 : Value} {y : DataW H × List MemPlace} (hf : DataW.trod enc Tryz.prog W 0 (fun _ => true) true fuel 26 [c0] = some y)
    (hsz : ∀ x ∈ y.1.weights Tryz.prog 26, x ≤ reachBytes) : ∃ (a : Option Addr) (T : List Pt) (cap : Nat), c0 = .slice a T.length cap ∧ PLs W a T ∧ GdT T := by
  obtain ⟨y0, n, hx, hl, hy⟩ := trod_struct1 Tryz.underlying26 hf
  have hd : y.1 = .agg [y0.1] := congrArg Prod.fst hx
  simp [cellsL] at hy
  exact parts_open hy (fun x hxx => hsz x (by rw [hd]; simp [DataW.weights, DataW.weightsEach, Tryz.underlying26, hxx]))
set_option maxRecDepth 100000 in
set_option maxHeartbeats 1000000 in
theorem ops_open {H : Type} {enc : TypeId × Value → H} {W : World} {fuel : Nat} {v : Value} {y : DataW H × List MemPlace} (h : DataW.trod enc Tryz.prog W 0 (fun _ => true) true fuel 22 [v] = some y)
    (hsz : ∀ x ∈ y.1.weights Tryz.prog 22, x ≤ reachBytes) : ∃ (a : Option Addr) (os : List (List Pt × Int)) (cap : Nat), v = .slice a os.length cap ∧ ItO W a os ∧ os.length ≤ 140737488355328 := by
  rcases Go.Deep.open_slice Tryz.underlying22 h with ⟨hv, hx⟩ | ⟨a, len, cap, m, n, D, Pl, hv, hb, hl, hm, hmm, hx, hc⟩
  · simp at hv
    exact ⟨none, [], 0, hv, Or.inl rfl, by decide⟩
  · simp at hv
    simp at hmm
    rw [cellsOp] at hc
    have hx1 := congrArg Prod.fst hx
    simp only at hx1
    have hbytes : len ≤ 140737488355328 := by
      subst hmm
      have := hsz (m * 32) (by rw [hx1]; simp [DataW.weights, Tryz.underlying22, bytesOp]; left; omega)
      rw [reach_num] at this
      omega
    have hin : ∀ i, i < len → ∀ x ∈ (D i).weights Tryz.prog 28, x ≤ reachBytes := by
      intro i hi x hxx
      refine hsz x ?_
      rw [hx]
      have := mem_all (P := Tryz.prog) (e := 28) (ds := (List.range len).map D) (List.mem_map.2 ⟨i, List.mem_range.2 hi, rfl⟩) hxx
      simp only [DataW.weights, Tryz.underlying22]
      exact List.mem_cons_of_mem _ (List.mem_append_left _ this)
    have key : ∀ i, i < len → ∃ (q : List Pt × Int), ∃ (ta : Option Addr) (tc : Nat), W.cell? (a.add (i * 2)) = some (.slice ta q.1.length tc) ∧ W.cell? (a.add (i * 2 + 1)) = some (.int .i64 q.2) ∧ PLs W ta q.1 ∧ GdT q.1 := by
      intro i hi
      obtain ⟨cs', h1, h2⟩ := hc i (by omega)
      obtain ⟨_, hlen, hcell⟩ := World.cells?_some h1
      obtain ⟨xs, k, hk, hxy, _, hxl, hf⟩ := DataW.trod_struct Tryz.underlying28 h2
      have hw := hin i hi
      match xs, hxl, cs', hlen with
      | [y0, y1], _, [v0, v1], _ =>
        have g0 := hf 0 _ rfl
        have g1 := hf 1 _ rfl
        simp [cells3, cellsTr] at g0 g1
        have hD : D i = .agg [y0.1, y1.1] := congrArg Prod.fst hxy
        rw [hD] at hw
        simp only [DataW.weights, Tryz.underlying28] at hw
        obtain ⟨q, e1, _, w1⟩ := DataW.trod_int Tryz.underlying3 g1
        simp at e1
        subst e1
        obtain ⟨ta, T, tc, rfl, r1, r2⟩ := tree_trod (y := y0) g0 (fun x hx => hw x (by simp [DataW.weightsEach, hx]))
        have f0 := hcell 0 (by omega)
        have f1 := hcell 1 (by omega)
        rw [Go.Deep.add_add] at f0 f1
        exact ⟨(T, q), ta, tc, by simpa using f0, by simpa using f1, r1, r2⟩
    haveI : Inhabited (List Pt × Int) := ⟨([], 0)⟩
    obtain ⟨q, hq⟩ := Go.Deep.choose_lt key
    have hlen : ((List.range len).map q).length = len := by simp
    have hget : ∀ j, j < len → ((List.range len).map q).getD j ([], 0) = q j := by
      intro j hj
      simp [List.getD_eq_getElem?_getD, List.getElem?_range hj]
    refine ⟨some a, (List.range len).map q, cap, by rw [hlen]; exact hv, ?_, by rw [hlen]; exact hbytes⟩
    by_cases h0 : len = 0
    · exact Or.inl (by rw [hlen]; exact h0)
    right
    obtain ⟨b, off, spot⟩ := a
    obtain ⟨_, _, k0, _⟩ := hq 0 (by omega)
    have hspot : spot = none := by simpa [Addr.add] using World.cell?_spot k0
    subst hspot
    refine ⟨b, off, rfl, ?_, fun j hj => ?_⟩
    · rw [Go.WideShapes.add_plain] at k0
      exact block_lt k0
    · rw [hlen] at hj
      obtain ⟨ta, tc, a0, a1, r1, r2⟩ := hq j hj
      rw [Go.WideShapes.add_plain] at a0 a1
      rw [hget j hj]
      exact ⟨ta, tc, a0, by rw [Nat.add_assoc]; exact a1, r1, r2⟩
set_option maxRecDepth 100000 in
theorem ops_arg {H : Type} {enc : TypeId × Value → H} {W : World} {base : Nat} {v : Value} {d : DataW H} {p : List MemPlace} (hv : Value.okWide Tryz.prog W .any base 22 v) (h : DataW.Trod enc Tryz.prog W 0 (fun _ => true) true 22 v d p)
    (hsz : ∀ x ∈ d.weights Tryz.prog 22, x ≤ reachBytes) : ∃ (a : Option Addr) (os : List (List Pt × Int)) (cap : Nat), v = .slice a os.length cap ∧ ItO W a os ∧ os.length ≤ 140737488355328 := by
  obtain ⟨a, len, cap, rfl⟩ := okWide_slice Tryz.underlying22 hv
  obtain ⟨fuel, hf⟩ := h
  exact ops_open (y := (d, p)) (by simpa [Value.cells] using hf) hsz
end Go.Proofs.YtiddnjjaidiohaaGreatDoor.L
namespace Go.Proofs.YtiddnjjaidiohaaGreatDoor.L
open Go.ChangeShapes Go.WideShapes Go.ChangeAt Go.RowKit Go.Joins
set_option linter.unusedVariables false
theorem etN : Tryz.prog.globalNamed "errors.errorType" = some 0 := by kernel_rfl
theorem rtN : (Tryz.prog.cutTypes.find? (·.1 == "internal/reflectlite.rtype")).map (·.2) = some 115 := by kernel_rfl
theorem oneRow : ((List.range 201).filter fun t => Tryz.prog.rowNamed t [101, 114, 114, 111, 114]) = [37] := by kernel_rfl
theorem sizeN : Tryz.prog.types.size = 201 := by kernel_rfl
theorem gv_laid {W : World} {laid : List (String × DataW Unit)} (h : laidMetH Tryz.prog laid W) (e : (laid.filter fun x => x.2.handleName?.isSome) = [("errors.errorType", Rows.laid_errors_errorType)]) : Gv W := by
  unfold laidMetH at h
  rw [e] at h
  have h2 := h.2 _ (List.mem_singleton.2 rfl)
  have h3 : ∃ name u ty, (Rows.laid_errors_errorType : DataW Unit).handleName? = some name ∧ (Tryz.prog.cutTypes.find? (·.1 == "internal/reflectlite.rtype")).map (·.2) = some u ∧ ty < Tryz.prog.types.size ∧ Tryz.prog.rowNamed ty name = true ∧ W.var? Tryz.prog "errors.errorType" = some #[.iface u (.agg #[typeHandle Tryz.prog ty])] := h2
  obtain ⟨name, u, ty, e1, e2, e3, e4, e5⟩ := h3
  have en : name = [101, 114, 114, 111, 114] := (Option.some.inj e1).symm
  subst en
  obtain rfl := Option.some.inj (rtN.symm.trans e2)
  have hm : ty ∈ (List.range 201).filter fun t => Tryz.prog.rowNamed t [101, 114, 114, 111, 114] := List.mem_filter.2 ⟨List.mem_range.2 (by rw [← sizeN]; exact e3), e4⟩
  rw [oneRow] at hm
  obtain rfl := List.mem_singleton.1 hm
  have hh : typeHandle Tryz.prog 37 = .pointer (some ⟨4, 37, none⟩) := by kernel_rfl
  rw [hh] at e5
  simpa [Gv] using World.var?_cell etN e5 0
theorem laidMet_on {P : Program} {w0 : World} {laid : List (String × DataW Unit)} (args : Array Value) (hf : w0.layFits P laid [] = true) (hi : w0.layIfaces P laid (w0.layVars P laid) = true) :
    laidMet P laid ((w0.layVars P laid).forCall (fun _ _ => 0) ⟨#[], args, []⟩).memory := by
  have e1 : (laid.filter fun x => (laid.map (·.1)).contains x.1) = laid := List.filter_eq_self.2 fun x hx => List.contains_iff_mem.2 (List.mem_map.2 ⟨x, hx, rfl⟩)
  have e2 : (laid.filter fun x => !(laid.map (·.1)).contains x.1) = [] := List.filter_eq_nil_iff.2 fun x hx => by rw [List.contains_iff_mem.2 (List.mem_map.2 ⟨x, hx, rfl⟩)]; simp
  have h : laidMet P laid (w0.layVars P laid) := laidMet_layVars (w0 := w0) (laid.map (·.1)) [] (by rw [e1]) (by rw [e1]; exact hf) (by rw [e1]; exact hi) (by rw [e2]; exact LaidIn.none)
  exact h.of_heap (by simp [World.memory, World.forCall, Input.heap])
end Go.Proofs.YtiddnjjaidiohaaGreatDoor.L
