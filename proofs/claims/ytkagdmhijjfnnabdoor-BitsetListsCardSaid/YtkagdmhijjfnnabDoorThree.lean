import Derived.Test.YtkagdmhijjfnnabDoorCards
import Derived.Test.YtkagdmhijjfnnabDoorTie
import Derived.Test.YtkagdmhijjfnnabDoorNew
import Derived.ProofKit
import Derived.OpenShut
import Derived.Deep.DeepHandedRow
import Derived.Lib.LaidTab
import Derived.Lib.SmallJoins
namespace Go.Proofs.YtkagdmhijjfnnabDoor
open Go.ChangeShapes Go.WideShapes Go.ChangeAt Go.RowKit Go.Joins Bs

theorem own : ownKnob Tryd.prog.godebug = none := by kernel_rfl
theorem laidOut : laidOutB Tryd.prog = true := by kernel_rfl
theorem gTab : Tryd.prog.globalNamed "math/bits.deBruijn64tab" = some 0 := by kernel_rfl
theorem gTabType : (Tryd.prog.globals[0]?).map (·.type) = some 77 := by kernel_rfl
theorem cells96 : Tryd.prog.cellsOf 77 = 64 := by kernel_rfl
theorem cells5 : Tryd.prog.cellsOf 5 = 1 := by kernel_rfl
theorem cells3 : Tryd.prog.cellsOf 3 = 1 := by kernel_rfl
theorem cells40 : Tryd.prog.cellsOf 24 = 4 := by kernel_rfl
theorem bytes3 : Tryd.prog.bytesOf 3 = 8 := by kernel_rfl
theorem read40 : Tryd.prog.readableRec 24 = true := by kernel_rfl
theorem row40 : 24 < Tryd.prog.types.size := of_decide_eq_true (by kernel_rfl)

def tabInts : List Int := Lib.deBruijn64tab.map fun x : Nat => (x : Int)
/-- WHAT THE ROW's LIST GIVES: the table's cells hold its numbers. -/
theorem tab_of {W : World} (h : laidMetH Tryd.prog [("math/bits.deBruijn64tab", Rows.laid_math_bits_deBruijn64tab)] W) : Tab W := by
  have ht : Lib.TabIs Tryd.prog W "math/bits.deBruijn64tab" .u8 tabInts := Lib.tabIs_of_head (rest := []) gTab gTabType Tryd.underlying77 Tryd.underlying5 cells5 cells96 h
  intro k hk
  have e : tabInts.length = 64 := by decide
  rw [ht.cell gTab k (by omega)]
  simp [tabInts]
  cases Lib.deBruijn64tab[k]? <;> rfl
/-- A slice of numbers, opened. -/
theorem ints_open {H : Type} {enc : TypeId × Value → H} {W : World} {fuel : Nat} {v : Value} {y : DataW H × List MemPlace} (h : DataW.trod enc Tryd.prog W 0 (fun _ => true) true fuel 22 [v] = some y) :
    ∃ zs : List Int, Ints W v zs ∧ ((∃ el sp, y.1 = .slice el sp ∧ zs.length ≤ el.length + sp.length) ∨ zs = []) := by
  rcases open_ints Tryd.underlying22 Tryd.underlying3 cells3 h with ⟨hv, hx⟩ | ⟨a, len, cap, zs, hv, _, hl, hm, hz, hx, hc, hw⟩
  · simp at hv
    subst hv
    exact ⟨[], Or.inl ⟨_, _, rfl, rfl⟩, Or.inr rfl⟩
  · simp at hv
    subst hv
    simp at hz
    have hlen : (zs.take len).length = len := by rw [List.length_take]; omega
    refine ⟨zs.take len, ?_, Or.inl ⟨_, _, by rw [hx], ?_⟩⟩
    · by_cases h0 : len = 0
      · subst h0
        exact Or.inl ⟨_, _, rfl, by simp⟩
      · obtain ⟨b, off, rfl, hc'⟩ := ints_at hc (by omega)
        refine Or.inr ⟨b, off, cap, by rw [hlen], block_lt_of_cell (hc' 0 (by omega)), fun j hj => ?_⟩
        rw [hlen] at hj
        rw [hc' j (by omega)]
        simp [hj]
    · simp [lits]
theorem all_le {l : List Nat} {b : Nat} (h : l.all (fun x => decide (x ≤ b)) = true) {x : Nat} (hx : x ∈ l) : x ≤ b := by
  rw [List.all_eq_true] at h
  simpa using h x hx
theorem reach_num : reachBytes = 140737488351232 := by kernel_rfl
theorem reach_ints {H : Type} {d : DataW H} {zs : List Int} (h : ∀ x ∈ d.weights Tryd.prog 22, x ≤ reachBytes) (hz : (∃ el sp, d = .slice el sp ∧ zs.length ≤ el.length + sp.length) ∨ zs = []) : zs.length * 8 ≤ 140737488351232 := by
  rcases hz with ⟨el, sp, rfl, hl⟩ | rfl
  · have := h ((el.length + sp.length) * 8) (by simp [DataW.weights, Tryd.underlying22, bytes3])
    rw [reach_num] at this
    have : zs.length * 8 ≤ (el.length + sp.length) * 8 := Nat.mul_le_mul_right 8 hl
    omega
  · decide
/-- The law's argument, opened. -/
theorem three_open {H : Type} {enc : TypeId × Value → H} {W : World} {base : Nat} {v : Value} {d : DataW H} {p : List MemPlace} (hv : Value.okWide Tryd.prog W .any base 24 v) (h : DataW.Trod enc Tryd.prog W 0 (fun _ => true) true 24 v d p)
    (hsz : (DataW.weightsEach Tryd.prog [24] [d]).all (fun x => decide (x ≤ reachBytes)) = true) :
    ∃ (N : Int) (vA vB vC : Value) (zA zB zC : List Int), v = .agg #[.int .i64 N, vA, vB, vC] ∧ -9223372036854775808 ≤ N ∧ N ≤ 9223372036854775807 ∧ Ints W vA zA ∧ Ints W vB zB ∧ Ints W vC zC ∧
      zA.length * 8 ≤ 140737488351232 ∧ zB.length * 8 ≤ 140737488351232 ∧ zC.length * 8 ≤ 140737488351232 := by
  obtain ⟨v0, v1, v2, v3, y0, y1, y2, y3, n, rfl, rfl, rfl, h0, h1, h2, h3⟩ := open_agg4 Tryd.underlying24 (by kernel_rfl) cells40 hv h
  obtain ⟨N, e0, _, wN⟩ := DataW.trod_int Tryd.underlying3 h0
  simp at e0
  subst e0
  obtain ⟨zA, iA, lA⟩ := ints_open h1
  obtain ⟨zB, iB, lB⟩ := ints_open h2
  obtain ⟨zC, iC, lC⟩ := ints_open h3
  have hw : DataW.weightsEach Tryd.prog [24] [.agg [y0.1, y1.1, y2.1, y3.1]] = y0.1.weights Tryd.prog 3 ++ (y1.1.weights Tryd.prog 22 ++ (y2.1.weights Tryd.prog 22 ++ y3.1.weights Tryd.prog 22)) := by
    simp [DataW.weightsEach, DataW.weights, Tryd.underlying24]
  rw [hw] at hsz
  have hb := bounds_i64 wN
  refine ⟨N, v1, v2, v3, zA, zB, zC, rfl, ?_, ?_, iA, iB, iC, reach_ints (fun x hx => all_le hsz (by simp [hx])) lA, reach_ints (fun x hx => all_le hsz (by simp [hx])) lB, reach_ints (fun x hx => all_le hsz (by simp [hx])) lC⟩
  · exact hb.1
  · exact hb.2
/-- A WORLD FOR THE WITNESS: the settled one, the table (block 0) holding what its initialiser lays. -/
theorem reads_stay {H : Type} {enc : TypeId × Value → H} {W W' : World} {v : Value} {d : DataW H} {p : List MemPlace} (h : DataW.Trod enc Tryd.prog W 0 (fun _ => true) true 24 v d p) (hb : Below W.heap.size W W') (hlt : ∀ x ∈ p, x.block < W.heap.size) :
    DataW.Trod enc Tryd.prog W' 0 (fun b => decide (b < W.heap.size)) true 24 v d p := Below.trod laidOut read40 row40 h hb hlt
end Go.Proofs.YtkagdmhijjfnnabDoor
