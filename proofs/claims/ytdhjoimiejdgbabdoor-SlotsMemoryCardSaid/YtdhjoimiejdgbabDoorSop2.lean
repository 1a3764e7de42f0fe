import Derived.Test.YtdhjoimiejdgbabDoorRows
import Derived.Test.YtdhjoimiejdgbabDoorTie
import Derived.Test.YtdhjoimiejdgbabDoorCards
import Derived.Test.YtdhjoimiejdgbabDoorLo1
import Derived.Deep.Slices
import Derived.ProofKit
import Derived.LaidMore
import Derived.LaidSub
import Derived.OpenShut
import Derived.SizedLaws
import Derived.Deep.DeepHandedRow
import Derived.Lib.SmallJoins
import Derived.Lib.LaidTab
import Derived.SevenTiedAt
import Derived.Lay
namespace Go.Proofs.YtdhjoimiejdgbabDoor.L
open Go.ChangeShapes Go.WideShapes Go.ChangeAt Go.RowKit Go.Joins Go.ChangeMaps
set_option linter.unusedVariables false
theorem own : ownKnob Tryd.prog.godebug = none := by kernel_rfl
theorem laidOut : laidOutB Tryd.prog = true := by kernel_rfl
theorem cellsOp : Tryd.prog.cellsOf 44 = 5 := by kernel_rfl
theorem cells9 : Tryd.prog.cellsOf 9 = 1 := by kernel_rfl
theorem cells3 : Tryd.prog.cellsOf 3 = 1 := by kernel_rfl
theorem reach_num : reachBytes = 140737488351232 := by kernel_rfl
theorem readS : Tryd.prog.readableRec 39 = true := by kernel_rfl
theorem rowS : 39 < Tryd.prog.types.size := of_decide_eq_true (by kernel_rfl)
theorem lt_of_cell0 {w : World} {b o : Nat} {v : Value} (h : w.cell? ⟨b, o, none⟩ = some v) : b < w.heap.size := by
  apply Classical.byContradiction
  intro n
  have : w.heap[b]? = none := Array.getElem?_eq_none (by omega)
  simp [World.cell?, this] at h
theorem all_le {l : List Nat} {b : Nat} (h : l.all (fun x => decide (x ≤ b)) = true) {x : Nat} (hx : x ∈ l) : x ≤ b := by
  rw [List.all_eq_true] at h
  simpa using h x hx
theorem gTab : Tryd.prog.globalNamed "math/bits.deBruijn64tab" = some 0 := by kernel_rfl
theorem gTabType : (Tryd.prog.globals[0]?).map (·.type) = some 119 := by kernel_rfl
theorem cellsA : Tryd.prog.cellsOf 119 = 64 := by kernel_rfl
theorem cells5 : Tryd.prog.cellsOf 5 = 1 := by kernel_rfl
def tabInts : List Int := Lib.deBruijn64tab.map fun x : Nat => (x : Int)
theorem tab_is {W : World} (ht : Lib.TabIs Tryd.prog W "math/bits.deBruijn64tab" .u8 tabInts) : Tab W := by
  have e : tabInts.length = 64 := by decide
  have hc : ∀ k, k < 64 → W.cell? ⟨0, k, none⟩ = some (.int .u8 ((Lib.deBruijn64tab.getD k 0 : Nat) : Int)) := fun k hk => by
    rw [ht.cell gTab k (by omega)]
    simp [tabInts]
    cases Lib.deBruijn64tab[k]? <;> rfl
  refine ⟨?_, hc⟩
  have h0 := hc 0 (by decide)
  apply Classical.byContradiction
  intro n
  simp [World.cell?, Array.getElem?_eq_none (show W.heap.size ≤ 0 by omega)] at h0
/-- WHAT THE ROW's LIST GIVES: the table's cells hold its numbers. -/
theorem tab_of {W : World} (h : laidMetH Tryd.prog [("math/bits.deBruijn64tab", Rows.laid_math_bits_deBruijn64tab)] W) : Tab W :=
  tab_is (Lib.tabIs_of_head (rest := []) gTab gTabType Tryd.underlying119 Tryd.underlying5 cells5 cellsA h)
set_option maxRecDepth 100000 in
theorem op_cells {H : Type} {enc : TypeId × Value → H} {W : World} {fuel : Nat} {cl : List Value} {d : DataW H} {p : List MemPlace} (hf' : DataW.trod enc Tryd.prog W 0 (fun _ => true) true fuel 44 cl = some (d, p)) (hlen : cl.length = 5) :
    ∃ o : Opd, cl = [.int .i64 o.k, .int .i64 o.a, .int .i64 o.t, .string o.s, .int .i64 o.v] ∧ o.s.size ≤ maxLen := by
  obtain ⟨xs, k, hk, hxy, _, hxl, hfl⟩ := DataW.trod_struct Tryd.underlying44 hf'
  match xs, hxl, cl, hlen with
  | [y0, y1, y2, y3, y4], _, [v0, v1, v2, v3, v4], _ =>
    have g0 := hfl 0 _ rfl
    have g1 := hfl 1 _ rfl
    have g2 := hfl 2 _ rfl
    have g3 := hfl 3 _ rfl
    have g4 := hfl 4 _ rfl
    simp [cells9, cells3] at g0 g1 g2 g3 g4
    obtain ⟨k0, e0, _, w0⟩ := DataW.trod_int Tryd.underlying3 g0
    obtain ⟨k1, e1, _, w1⟩ := DataW.trod_int Tryd.underlying3 g1
    obtain ⟨k2, e2, _, w2⟩ := DataW.trod_int Tryd.underlying3 g2
    obtain ⟨s3, e3, _, w3⟩ := DataW.trod_string Tryd.underlying9 g3
    obtain ⟨k4, e4, _, w4⟩ := DataW.trod_int Tryd.underlying3 g4
    simp at e0 e1 e2 e3 e4
    subst e0 e1 e2 e3 e4
    exact ⟨⟨k0, k1, k2, s3, k4⟩, rfl, w3⟩
set_option maxRecDepth 100000 in
set_option maxHeartbeats 1000000 in
theorem ops_open {H : Type} {enc : TypeId × Value → H} {W : World} {fuel : Nat} {v : Value} {y : DataW H × List MemPlace} (h : DataW.trod enc Tryd.prog W 0 (fun _ => true) true fuel 39 [v] = some y) : ∃ os, ItemsO W v os ∧ GoodO os := by
  rcases Go.Deep.open_slice Tryd.underlying39 h with ⟨hv, hx⟩ | ⟨a, len, cap, m, n, D, Pl, hv, hb, hl, hm, hmm, hx, hc⟩
  · simp at hv
    exact ⟨[], ⟨none, 0, hv, Or.inl rfl⟩, Nat.zero_le _, fun o ho => by cases ho⟩
  · simp at hv
    simp at hmm
    rw [cellsOp] at hc
    have key : ∀ i, i < len → ∃ o : Opd, W.cell? (a.add (i * 5)) = some (.int .i64 o.k) ∧ W.cell? (a.add (i * 5 + 1)) = some (.int .i64 o.a) ∧ W.cell? (a.add (i * 5 + 2)) = some (.int .i64 o.t) ∧ W.cell? (a.add (i * 5 + 3)) = some (.string o.s) ∧ W.cell? (a.add (i * 5 + 4)) = some (.int .i64 o.v) ∧ o.s.size ≤ maxLen := by
      intro i hi
      obtain ⟨cs', h1, h2⟩ := hc i (by omega)
      obtain ⟨_, hlen, hcell⟩ := World.cells?_some h1
      obtain ⟨o, rfl, r⟩ := op_cells h2 hlen
      have f0 := hcell 0 (by omega)
      have f1 := hcell 1 (by omega)
      have f2 := hcell 2 (by omega)
      have f3 := hcell 3 (by omega)
      have f4 := hcell 4 (by omega)
      rw [Go.Deep.add_add] at f0 f1 f2 f3 f4
      exact ⟨o, by simpa using f0, by simpa using f1, by simpa using f2, by simpa using f3, by simpa using f4, r⟩
    obtain ⟨q, hq⟩ := Go.Deep.choose_lt key
    have hlen : ((List.range len).map q).length = len := by simp
    have hget : ∀ j (hj : j < ((List.range len).map q).length), ((List.range len).map q)[j] = q j := fun j hj => by simp
    refine ⟨(List.range len).map q, ⟨some a, cap, by rw [hlen]; exact hv, ?_⟩, by rw [hlen]; exact Nat.le_trans hl hm, fun o ho => ?_⟩
    · by_cases h0 : len = 0
      · exact Or.inl (hlen.trans h0)
      right
      obtain ⟨b, off, spot⟩ := a
      have k0 := (hq 0 (by omega)).1
      have hspot : spot = none := by simpa [Addr.add] using World.cell?_spot k0
      subst hspot
      refine ⟨b, off, rfl, ?_, fun j hj => ?_⟩
      · rw [Go.WideShapes.add_plain] at k0
        exact lt_of_cell0 k0
      · obtain ⟨f0, f1, f2, f3, f4, r⟩ := hq j (by simpa using hj)
        rw [Go.WideShapes.add_plain] at f0 f1 f2 f3 f4
        rw [hget j hj]
        exact ⟨f0, by rw [Nat.add_assoc]; exact f1, by rw [Nat.add_assoc]; exact f2, by rw [Nat.add_assoc]; exact f3, by rw [Nat.add_assoc]; exact f4⟩
    · obtain ⟨i, hi, rfl⟩ := List.mem_map.1 ho
      exact (hq i (List.mem_range.1 hi)).2.2.2.2.2
set_option maxRecDepth 100000 in
theorem ops_arg {H : Type} {enc : TypeId × Value → H} {W : World} {base : Nat} {v : Value} {d : DataW H} {p : List MemPlace} (hv : Value.okWide Tryd.prog W .any base 39 v) (h : DataW.Trod enc Tryd.prog W 0 (fun _ => true) true 39 v d p) : ∃ os, ItemsO W v os ∧ GoodO os := by
  obtain ⟨a, len, cap, rfl⟩ := okWide_slice Tryd.underlying39 hv
  obtain ⟨fuel, hf⟩ := h
  exact ops_open (y := (d, p)) (by simpa [Value.cells] using hf)
end Go.Proofs.YtdhjoimiejdgbabDoor.L
