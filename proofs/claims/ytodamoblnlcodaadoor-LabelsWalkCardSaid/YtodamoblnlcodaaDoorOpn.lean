import Derived.Test.YtodamoblnlcodaaDoorRows
import Derived.Test.YtodamoblnlcodaaDoorTie
import Derived.Test.YtodamoblnlcodaaDoorCards
import Derived.Test.YtodamoblnlcodaaDoorLab
import Derived.Deep.SlicePairs
import Derived.ProofKit
import Derived.LaidMore
import Derived.LaidSub
import Derived.OpenShut
import Derived.SizedLaws
import Derived.Deep.DeepHandedRow
import Derived.Lib.SmallJoins
import Derived.SevenTiedAt
import Derived.Lay
namespace Go.Proofs.YtodamoblnlcodaaDoor.L
open Go.ChangeShapes Go.WideShapes Go.ChangeAt Go.RowKit Go.Joins
set_option linter.unusedVariables false
theorem own : ownKnob Tryd.prog.godebug = none := by kernel_rfl
theorem laidOut : laidOutB Tryd.prog = true := by kernel_rfl
theorem cellsL2 : Tryd.prog.cellsOf 27 = 2 := by kernel_rfl
theorem cells9 : Tryd.prog.cellsOf 9 = 1 := by kernel_rfl
theorem bytesL : Tryd.prog.bytesOf 27 = 32 := by kernel_rfl
theorem readL : Tryd.prog.readableRec 22 = true := by kernel_rfl
theorem rowL : 22 < Tryd.prog.types.size := of_decide_eq_true (by kernel_rfl)
theorem readB : Tryd.prog.readableRec 27 = true := by kernel_rfl
theorem rowB : 27 < Tryd.prog.types.size := of_decide_eq_true (by kernel_rfl)
theorem read9 : Tryd.prog.readableRec 9 = true := by kernel_rfl
theorem row9 : 9 < Tryd.prog.types.size := of_decide_eq_true (by kernel_rfl)
theorem reach_num : reachBytes = 140737488351232 := by kernel_rfl
theorem block_lt {w : World} {b o : Nat} {v : Value} (h : w.cell? ⟨b, o, none⟩ = some v) : b < w.heap.size := by
  apply Classical.byContradiction
  intro n
  have : w.heap[b]? = none := Array.getElem?_eq_none (by omega)
  simp [World.cell?, this] at h
theorem all_le {l : List Nat} {b : Nat} (h : l.all (fun x => decide (x ≤ b)) = true) {x : Nat} (hx : x ∈ l) : x ≤ b := by
  rw [List.all_eq_true] at h
  simpa using h x hx
set_option maxRecDepth 100000 in
/-- A list that came in, opened. -/
theorem came_open {H : Type} {enc : TypeId × Value → H} {W : World} {base : Nat} {v : Value} {d : DataW H} {p : List MemPlace} (hv : Value.okWide Tryd.prog W .any base 22 v) (h : DataW.Trod enc Tryd.prog W 0 (fun _ => true) true 22 v d p)
    (hsz : ∀ x ∈ d.weights Tryd.prog 22, x ≤ reachBytes) : ∃ l : List Lb, Came W v l ∧ Good l := by
  obtain ⟨a0, len0, cap0, rfl⟩ := okWide_slice Tryd.underlying22 hv
  obtain ⟨fuel, hf⟩ := h
  rcases Go.Deep.open_slice_pairs Tryd.underlying22 Tryd.underlying27 cellsL2 rfl rfl cells9 cells9 (show DataW.trod enc Tryd.prog W 0 (fun _ => true) true fuel 22 [.slice a0 len0 cap0] = some (d, p) by simpa [Value.cells] using hf) with ⟨hvv, hx⟩ | ⟨a, len, cap, m, n, V0, V1, D0, D1, P0, P1, hvv, hb, hl, hm, hmm, hx, hc⟩
  · simp at hvv
    refine ⟨[], Or.inl ⟨by simpa using hvv, rfl⟩, ⟨by decide, by decide⟩, fun x hx => by simp at hx⟩
  · simp at hvv
    obtain ⟨rfl, rfl, rfl⟩ := hvv
    simp at hmm
    subst hmm
    have hx1 := congrArg Prod.fst hx
    simp only at hx1
    have hbytes : len0 * 32 ≤ 140737488351232 := by
      have := hsz (m * 32) (by rw [hx1]; simp [DataW.weights, Tryd.underlying22, bytesL]; left; omega)
      rw [reach_num] at this
      omega
    have each : ∀ i, i < len0 → ∃ q : Lb, W.cell? (a.add (i * 2)) = some (.string q.1) ∧ W.cell? (a.add (i * 2 + 1)) = some (.string q.2) ∧ q.1.size ≤ maxLen ∧ q.2.size ≤ maxLen := by
      intro i hi
      obtain ⟨c0, c1, t0, t1⟩ := hc i (by omega)
      obtain ⟨z, e1, _, wz⟩ := DataW.trod_string Tryd.underlying9 t1
      obtain ⟨s, e0, _, ws⟩ := DataW.trod_string Tryd.underlying9 t0
      simp at e1 e0
      rw [e0] at c0
      rw [e1] at c1
      exact ⟨(s, z), c0, c1, ws, wz⟩
    obtain ⟨q, hq⟩ := Go.Deep.choose_lt each
    have hlen : ((List.range len0).map q).length = len0 := by simp
    have hget : ∀ j, j < len0 → ((List.range len0).map q).getD j (ByteArray.empty, ByteArray.empty) = q j := by
      intro j hj
      simp [List.getD_eq_getElem?_getD, List.getElem?_range hj]
    refine ⟨(List.range len0).map q, Or.inr ⟨a, m, by rw [hlen], by rw [hlen]; exact ⟨hl, hm⟩, ?_⟩, ⟨by rw [hlen]; omega, by rw [hlen]; exact hbytes⟩, fun x hx => ?_⟩
    · rw [hlen]
      by_cases hz : len0 = 0
      · exact Or.inl hz
      right
      obtain ⟨b, off, spot⟩ := a
      have k0 := (hq 0 (by omega)).1
      have hspot : spot = none := by simpa [Addr.add] using World.cell?_spot k0
      subst hspot
      refine ⟨b, off, rfl, ?_, fun j hj => ?_⟩
      · rw [Go.WideShapes.add_plain] at k0
        exact block_lt k0
      · obtain ⟨a0, a1, r⟩ := hq j hj
        rw [Go.WideShapes.add_plain] at a0 a1
        unfold ky vl
        rw [hget j hj]
        exact ⟨a0, by rw [Nat.add_assoc]; exact a1⟩
    · obtain ⟨i, hi, rfl⟩ := List.mem_map.1 hx
      exact (hq i (by simpa using hi)).2.2
theorem reads_stay {H : Type} {enc : TypeId × Value → H} {W W' : World} {v : Value} {d : DataW H} {p : List MemPlace} (h : DataW.Trod enc Tryd.prog W 0 (fun _ => true) true 22 v d p) (hb : Below W.heap.size W W') (hlt : ∀ x ∈ p, x.block < W.heap.size) :
    DataW.Trod enc Tryd.prog W' 0 (fun b => decide (b < W.heap.size)) true 22 v d p := Below.trod laidOut readL rowL h hb hlt
set_option maxRecDepth 100000 in
/-- A label that came in, opened. -/
theorem label_open {H : Type} {enc : TypeId × Value → H} {W : World} {base : Nat} {v : Value} {d : DataW H} {p : List MemPlace} (hv : Value.okWide Tryd.prog W .any base 27 v) (h : DataW.Trod enc Tryd.prog W 0 (fun _ => true) true 27 v d p) : ∃ k s : ByteArray, v = .agg #[.string k, .string s] ∧ k.size ≤ maxLen ∧ s.size ≤ maxLen := by
  obtain ⟨v0, v1, y0, y1, n, rfl, _, _, t0, t1⟩ := open_agg2 Tryd.underlying27 (by kernel_rfl) cellsL2 hv h
  obtain ⟨z, e1, _, wz⟩ := DataW.trod_string Tryd.underlying9 t1
  obtain ⟨s, e0, _, ws⟩ := DataW.trod_string Tryd.underlying9 t0
  simp at e1 e0
  subst e0 e1
  exact ⟨s, z, rfl, ws, wz⟩
end Go.Proofs.YtodamoblnlcodaaDoor.L
