import Derived.Test.YtdhjoimiejdgbabDoorRows
import Derived.Test.YtdhjoimiejdgbabDoorTie
import Derived.Test.YtdhjoimiejdgbabDoorCards
import Derived.Test.YtdhjoimiejdgbabDoorBl1
import Derived.SliceStrings
import Derived.Deep.Slices
import Derived.ProofKit
import Derived.LaidMore
import Derived.LaidSub
import Derived.OpenShut
import Derived.SizedLaws
import Derived.Deep.DeepHandedRow
import Derived.Lib.SmallJoins
import Derived.Lib.LaidTab
import Derived.SevenTiedAt
import Derived.Lay
namespace Go.Proofs.YtdhjoimiejdgbabDoor.L
open Go.ChangeShapes Go.WideShapes Go.ChangeAt Go.RowKit Go.Joins Go.ChangeMaps
set_option linter.unusedVariables false
theorem own : ownKnob Tryd.prog.godebug = none := by kernel_rfl
theorem laidOut : laidOutB Tryd.prog = true := by kernel_rfl
theorem cells9 : Tryd.prog.cellsOf 9 = 1 := by kernel_rfl
theorem cells3 : Tryd.prog.cellsOf 3 = 1 := by kernel_rfl
theorem reach_num : reachBytes = 140737488351232 := by kernel_rfl
theorem lt_of_cell0 {w : World} {b o : Nat} {v : Value} (h : w.cell? ⟨b, o, none⟩ = some v) : b < w.heap.size := by
  apply Classical.byContradiction
  intro n
  have : w.heap[b]? = none := Array.getElem?_eq_none (by omega)
  simp [World.cell?, this] at h
theorem all_le {l : List Nat} {b : Nat} (h : l.all (fun x => decide (x ≤ b)) = true) {x : Nat} (hx : x ∈ l) : x ≤ b := by
  rw [List.all_eq_true] at h
  simpa using h x hx
theorem gTab : Tryd.prog.globalNamed "math/bits.deBruijn64tab" = some 0 := by kernel_rfl
theorem gTabType : (Tryd.prog.globals[0]?).map (·.type) = some 119 := by kernel_rfl
theorem cellsA : Tryd.prog.cellsOf 119 = 64 := by kernel_rfl
theorem cells5 : Tryd.prog.cellsOf 5 = 1 := by kernel_rfl
def tabInts : List Int := Lib.deBruijn64tab.map fun x : Nat => (x : Int)
theorem tab_is {W : World} (ht : Lib.TabIs Tryd.prog W "math/bits.deBruijn64tab" .u8 tabInts) : Tab W := by
  have e : tabInts.length = 64 := by decide
  have hc : ∀ k, k < 64 → W.cell? ⟨0, k, none⟩ = some (.int .u8 ((Lib.deBruijn64tab.getD k 0 : Nat) : Int)) := fun k hk => by
    rw [ht.cell gTab k (by omega)]
    simp [tabInts]
    cases Lib.deBruijn64tab[k]? <;> rfl
  refine ⟨?_, hc⟩
  have h0 := hc 0 (by decide)
  apply Classical.byContradiction
  intro n
  simp [World.cell?, Array.getElem?_eq_none (show W.heap.size ≤ 0 by omega)] at h0
/-- WHAT THE ROW's LIST GIVES: the table's cells hold its numbers. -/
theorem tab_of {W : World} (h : laidMetH Tryd.prog [("math/bits.deBruijn64tab", Rows.laid_math_bits_deBruijn64tab)] W) : Tab W :=
  tab_is (Lib.tabIs_of_head (rest := []) gTab gTabType Tryd.underlying119 Tryd.underlying5 cells5 cellsA h)
theorem readT : Tryd.prog.readableRec 22 = true := by kernel_rfl
theorem rowT : 22 < Tryd.prog.types.size := of_decide_eq_true (by kernel_rfl)
set_option maxRecDepth 100000 in
/-- A slice of texts, opened. -/
theorem texts_open {H : Type} {enc : TypeId × Value → H} {W : World} {fuel : Nat} {v : Value} {y : DataW H × List MemPlace} (h : DataW.trod enc Tryd.prog W 0 (fun _ => true) true fuel 22 [v] = some y) :
    ∃ a c ss, v = .slice a ss.length c ∧ ItemsS W a ss ∧ (ss.length ≤ c ∧ c ≤ maxLen) ∧ ∀ s ∈ ss, s.size ≤ maxLen := by
  rcases open_strings Tryd.underlying22 Tryd.underlying9 cells9 h with ⟨hv, hx⟩ | ⟨a, len, cap, ss, hv, _, hl, hm, hz, hx, hc, hw⟩
  · simp at hv
    exact ⟨none, 0, [], hv, Or.inl rfl, ⟨Nat.le_refl _, Nat.zero_le _⟩, fun s hs => by cases hs⟩
  · simp at hv
    subst hv
    simp at hz
    have hlen : (ss.take len).length = len := by rw [List.length_take]; omega
    refine ⟨some a, cap, ss.take len, by rw [hlen], ?_, by rw [hlen]; exact ⟨hl, hm⟩, fun s hs => hw s (List.mem_of_mem_take hs)⟩
    by_cases h0 : len = 0
    · exact Or.inl (hlen.trans h0)
    right
    obtain ⟨b, off, spot⟩ := a
    have k0 := hc 0 (by omega)
    have hspot : spot = none := by simpa [Addr.add] using World.cell?_spot k0
    subst hspot
    refine ⟨b, off, rfl, ?_, fun j hj => ?_⟩
    · rw [Go.WideShapes.add_plain] at k0
      exact lt_of_cell0 k0
    · rw [hlen] at hj
      have := hc j (by omega)
      rw [Go.WideShapes.add_plain] at this
      rw [this, nmS_take ss len j hj]
      rfl
set_option maxRecDepth 100000 in
theorem texts_arg {H : Type} {enc : TypeId × Value → H} {W : World} {base : Nat} {v : Value} {d : DataW H} {p : List MemPlace} (hv : Value.okWide Tryd.prog W .any base 22 v) (h : DataW.Trod enc Tryd.prog W 0 (fun _ => true) true 22 v d p) :
    ∃ a c ss, v = .slice a ss.length c ∧ ItemsS W a ss ∧ (ss.length ≤ c ∧ c ≤ maxLen) ∧ ∀ s ∈ ss, s.size ≤ maxLen := by
  obtain ⟨a, len, cap, rfl⟩ := okWide_slice Tryd.underlying22 hv
  obtain ⟨fuel, hf⟩ := h
  exact texts_open (y := (d, p)) (by simpa [Value.cells] using hf)
end Go.Proofs.YtdhjoimiejdgbabDoor.L
