import Derived.Test.YtlhlpamciafocaaGreatDoorSwHP
import Derived.ProofKit
import Derived.LaidMore
import Derived.LaidLaws
import Derived.LaidSub
import Derived.OpenShut
import Derived.SizedLaws
import Derived.Deep.DeepHandedRow
import Derived.Deep.Slices
import Derived.Lib.SmallJoins
import Derived.Lib.LaidTab
import Derived.SevenTiedAt
namespace Go.Proofs.YtlhlpamciafocaaGreatDoor.L.Sw
open Go.ChangeShapes Go.WideShapes Go.ChangeAt Go.RowKit Go.Joins
set_option linter.unusedVariables false
theorem reach_num : reachBytes = 140737488351232 := by kernel_rfl
theorem laidOut : laidOutB Tryz.prog = true := by kernel_rfl
theorem cells9 : Tryz.prog.cellsOf 9 = 1 := by kernel_rfl
theorem cells3 : Tryz.prog.cellsOf 3 = 1 := by kernel_rfl
theorem cellsK : Tryz.prog.cellsOf 48 = 1 := by kernel_rfl
theorem cellsI : Tryz.prog.cellsOf 34 = 1 := by kernel_rfl
theorem cellsL : Tryz.prog.cellsOf 22 = 1 := by kernel_rfl
theorem cellsPt : Tryz.prog.cellsOf 50 = 4 := by kernel_rfl
theorem cellsTr : Tryz.prog.cellsOf 24 = 1 := by kernel_rfl
theorem bytes3 : Tryz.prog.bytesOf 3 = 8 := by kernel_rfl
theorem bytesPt : Tryz.prog.bytesOf 50 = 56 := by kernel_rfl
theorem readT : Tryz.prog.readableRec 24 = true := by kernel_rfl
theorem rowT : 24 < Tryz.prog.types.size := of_decide_eq_true (by kernel_rfl)
theorem all_le {l : List Nat} {n : Nat} (h : l.all (fun x => decide (x ≤ n)) = true) {x : Nat} (hx : x ∈ l) : x ≤ n := by
  have := List.all_eq_true.1 h x hx
  simpa using this
theorem block_lt {w : World} {b o : Nat} {v : Value} (h : w.cell? ⟨b, o, none⟩ = some v) : b < w.heap.size := by
  apply Classical.byContradiction
  intro n
  have : w.heap[b]? = none := Array.getElem?_eq_none (by omega)
  simp [World.cell?, this] at h
theorem mem_all {H : Type} {P : Program} {e : TypeId} {ds : List (DataW H)} {d : DataW H} (h : d ∈ ds) {x : Nat} (hx : x ∈ d.weights P e) : x ∈ DataW.weightsAll P e ds := by
  induction ds with
  | nil => cases h
  | cons y r ih =>
    rw [DataW.weightsAll, List.mem_append]
    rcases List.mem_cons.1 h with rfl | h
    · exact Or.inl hx
    · exact Or.inr (ih h)
/-- A list of kids that came in, opened. -/
theorem kids_open {H : Type} {enc : TypeId × Value → H} {W : World} {fuel : Nat} {v : Value} {d : DataW H} {p : List MemPlace} (h : DataW.trod enc Tryz.prog W 0 (fun _ => true) true fuel 34 [v] = some (d, p))
    (hk : ∀ x ∈ d.weights Tryz.prog 34, x ≤ reachBytes) : ∃ (a : Option Addr) (zs : List Int) (cap : Nat), v = .slice a zs.length cap ∧ RdI W a zs ∧ (a = none → cap = 0) ∧ zs.length ≤ 140737488355328 := by
  rcases Go.Deep.open_slice Tryz.underlying34 h with ⟨hv, hx⟩ | ⟨a, len, cap, m, n, D, Pl, hv, hb, hl, hm, hmm, hx, hc⟩
  · simp at hv
    exact ⟨none, [], 0, hv, Or.inl rfl, fun _ => rfl, by simp⟩
  · simp at hv
    simp at hmm
    rw [cells3] at hc
    have hx1 := congrArg Prod.fst hx
    simp only at hx1
    have hbytes : len ≤ 140737488355328 := by
      subst hmm
      have := hk (m * 8) (by rw [hx1]; simp [DataW.weights, Tryz.underlying34, bytes3]; left; omega)
      rw [reach_num] at this
      omega
    have key : ∀ i, i < len → ∃ s : Int, W.cell? (a.add i) = some (.int .i64 s) := by
      intro i hi
      obtain ⟨cs', h1, h2⟩ := hc i (by omega)
      obtain ⟨s, e1, e2, _⟩ := DataW.trod_int Tryz.underlying3 h2
      subst e1
      obtain ⟨_, _, hcell⟩ := World.cells?_some h1
      have h0 := hcell 0 (by omega)
      refine ⟨s, ?_⟩
      have e0 : ((a.add (i * 1)).add 0) = a.add i := by rw [Nat.mul_one]; unfold Addr.add; simp
      rw [e0] at h0
      simpa using h0
    obtain ⟨q, hq⟩ := Go.Deep.choose_lt key
    refine ⟨some a, (List.range len).map q, cap, by simpa using hv, ?_, (fun e => by cases e), by simpa using hbytes⟩
    by_cases h0 : len = 0
    · exact Or.inl (by simpa using h0)
    right
    obtain ⟨b, off, spot⟩ := a
    have k0 := hq 0 (by omega)
    have hspot : spot = none := by simpa [Addr.add] using World.cell?_spot k0
    subst hspot
    refine ⟨b, off, rfl, ?_, fun j hj => ?_⟩
    · rw [Go.WideShapes.add_plain] at k0
      exact block_lt k0
    · have hj' : j < len := by simpa using hj
      have := hq j hj'
      rw [Go.WideShapes.add_plain] at this
      rw [this]
      simp [List.getD_eq_getElem?_getD, List.getElem?_range hj']
set_option maxRecDepth 100000 in
set_option maxHeartbeats 1000000 in
theorem parts_open {H : Type} {enc : TypeId × Value → H} {W : World} {fuel : Nat} {v : Value} {y : DataW H × List MemPlace} (h : DataW.trod enc Tryz.prog W 0 (fun _ => true) true fuel 22 [v] = some y)
    (hsz : ∀ x ∈ y.1.weights Tryz.prog 22, x ≤ reachBytes) : ∃ (a : Option Addr) (T : List Pt) (cap : Nat), v = .slice a T.length cap ∧ PLs W a T ∧ GdT T := by
  rcases Go.Deep.open_slice Tryz.underlying22 h with ⟨hv, hx⟩ | ⟨a, len, cap, m, n, D, Pl, hv, hb, hl, hm, hmm, hx, hc⟩
  · simp at hv
    exact ⟨none, [], 0, hv, Or.inl rfl, by decide, fun j hj => absurd hj (Nat.not_lt_zero j)⟩
  · simp at hv
    simp at hmm
    rw [cellsPt] at hc
    have hx1 := congrArg Prod.fst hx
    simp only at hx1
    have hbytes : len ≤ 140737488355328 := by
      subst hmm
      have := hsz (m * 56) (by rw [hx1]; simp [DataW.weights, Tryz.underlying22, bytesPt]; left; omega)
      rw [reach_num] at this
      omega
    have hin : ∀ i, i < len → ∀ x ∈ (D i).weights Tryz.prog 50, x ≤ reachBytes := by
      intro i hi x hxx
      refine hsz x ?_
      rw [hx]
      have := mem_all (P := Tryz.prog) (e := 50) (ds := (List.range len).map D) (List.mem_map.2 ⟨i, List.mem_range.2 hi, rfl⟩) hxx
      simp only [DataW.weights, Tryz.underlying22]
      exact List.mem_cons_of_mem _ (List.mem_append_left _ this)
    have key : ∀ i, i < len → ∃ (q : Pt), ∃ (ka : Option Addr) (kc : Nat), W.cell? (a.add (i * 4)) = some (.int .i64 q.kind) ∧ W.cell? (a.add (i * 4 + 1)) = some (.string q.text) ∧ W.cell? (a.add (i * 4 + 2)) = some (.int .i64 q.num) ∧
        W.cell? (a.add (i * 4 + 3)) = some (.slice ka q.kids.length kc) ∧ RdI W ka q.kids ∧ (ka = none → kc = 0) ∧ q.kids.length ≤ 140737488355328 := by
      intro i hi
      obtain ⟨cs', h1, h2⟩ := hc i (by omega)
      obtain ⟨_, hlen, hcell⟩ := World.cells?_some h1
      obtain ⟨xs, k, hk, hxy, _, hxl, hf⟩ := DataW.trod_struct Tryz.underlying50 h2
      have hw := hin i hi
      match xs, hxl, cs', hlen with
      | [y0, y1, y2, y3], _, [v0, v1, v2, v3], _ =>
        have g0 := hf 0 _ rfl
        have g1 := hf 1 _ rfl
        have g2 := hf 2 _ rfl
        have g3 := hf 3 _ rfl
        simp [cells3, cells9, cellsK, cellsI] at g0 g1 g2 g3
        have hD : D i = .agg [y0.1, y1.1, y2.1, y3.1] := congrArg Prod.fst hxy
        rw [hD] at hw
        simp only [DataW.weights, Tryz.underlying50] at hw
        obtain ⟨p, e0, _, w0⟩ := DataW.trod_int Tryz.underlying48 g0
        obtain ⟨s, e1, _, w1⟩ := DataW.trod_string Tryz.underlying9 g1
        obtain ⟨q, e2, _, w2⟩ := DataW.trod_int Tryz.underlying3 g2
        simp at e0 e1 e2
        subst e0 e1 e2
        obtain ⟨ka, zs, kc, rfl, r1, r2, r3⟩ := kids_open (d := y3.1) (p := y3.2) g3 (fun x hx => hw x (by simp [DataW.weightsEach, hx]))
        have f0 := hcell 0 (by omega)
        have f1 := hcell 1 (by omega)
        have f2 := hcell 2 (by omega)
        have f3 := hcell 3 (by omega)
        rw [Go.Deep.add_add] at f0 f1 f2 f3
        exact ⟨⟨p, s, q, zs⟩, ka, kc, by simpa using f0, by simpa using f1, by simpa using f2, by simpa using f3, r1, r2, r3⟩
    haveI : Inhabited Pt := ⟨⟨0, ⟨#[]⟩, 0, []⟩⟩
    obtain ⟨q, hq⟩ := Go.Deep.choose_lt key
    have hlen : ((List.range len).map q).length = len := by simp
    have hget : ∀ j, j < len → pt ((List.range len).map q) j = q j := by
      intro j hj
      simp [pt, List.getD_eq_getElem?_getD, List.getElem?_range hj]
    refine ⟨some a, (List.range len).map q, cap, by rw [hlen]; exact hv, ?_, by rw [hlen]; exact hbytes, fun j hj => ?_⟩
    · by_cases h0 : len = 0
      · exact Or.inl (by rw [hlen]; exact h0)
      right
      obtain ⟨b, off, spot⟩ := a
      obtain ⟨_, _, k0, _⟩ := hq 0 (by omega)
      have hspot : spot = none := by simpa [Addr.add] using World.cell?_spot k0
      subst hspot
      refine ⟨b, off, rfl, ?_, fun j hj => ?_⟩
      · rw [Go.WideShapes.add_plain] at k0
        exact block_lt k0
      · rw [hlen] at hj
        obtain ⟨ka, kc, a0, a1, a2, a3, r1, r2, r3⟩ := hq j hj
        rw [Go.WideShapes.add_plain] at a0 a1 a2 a3
        rw [hget j hj]
        exact ⟨ka, kc, a0, by rw [Nat.add_assoc]; exact a1, by rw [Nat.add_assoc]; exact a2, by rw [Nat.add_assoc]; exact a3, r1, r2⟩
    · rw [hlen] at hj
      obtain ⟨ka, kc, a0, a1, a2, a3, r1, r2, r3⟩ := hq j hj
      rw [hget j hj]
      exact r3
set_option maxRecDepth 100000 in
theorem tree_arg {H : Type} {enc : TypeId × Value → H} {W : World} {base : Nat} {v : Value} {d : DataW H} {p : List MemPlace} (hv : Value.okWide Tryz.prog W .any base 24 v) (h : DataW.Trod enc Tryz.prog W 0 (fun _ => true) true 24 v d p)
    (hsz : ∀ x ∈ d.weights Tryz.prog 24, x ≤ reachBytes) : ∃ (a : Option Addr) (T : List Pt) (cap : Nat), v = .agg #[.slice a T.length cap] ∧ PLs W a T ∧ GdT T := by
  obtain ⟨cs, rfl, hcs⟩ := okWide_struct Tryz.underlying24 hv
  obtain ⟨fuel, hf⟩ := h
  have hf' : DataW.trod enc Tryz.prog W 0 (fun _ => true) true fuel 24 cs.toList = some (d, p) := by simpa [Value.cells] using hf
  obtain ⟨y0, n, hx, hl, hy⟩ := trod_struct1 Tryz.underlying24 hf'
  rw [cellsTr] at hl
  have hd : d = .agg [y0.1] := congrArg Prod.fst hx
  match hcl : cs.toList, hl with
  | [c0], _ =>
    rw [hcl] at hy
    simp [cellsL] at hy
    obtain ⟨a, T, cap, rfl, h1, h2⟩ := parts_open hy (fun x hxx => hsz x (by rw [hd]; simp [DataW.weights, DataW.weightsEach, Tryz.underlying24, hxx]))
    refine ⟨a, T, cap, ?_, h1, h2⟩
    congr 1
    apply Array.ext'
    rw [hcl]
end Go.Proofs.YtlhlpamciafocaaGreatDoor.L.Sw
