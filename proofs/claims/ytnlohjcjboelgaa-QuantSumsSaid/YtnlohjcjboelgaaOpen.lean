import Derived.Test.YtnlohjcjboelgaaCopied
import Derived.Deep.SlicePairs
import Derived.ProofKit
import Derived.OpenShut
import Derived.Lib.SmallJoins
namespace Go.Proofs.Ytnlohjcjboelgaa.L
open Go.ChangeShapes Go.WideShapes Go.ChangeAt Go.RowKit Go.Joins
set_option linter.unusedVariables false
theorem own : ownKnob Try.prog.godebug = none := by kernel_rfl
theorem laidOut : laidOutB Try.prog = true := by kernel_rfl
theorem cellsI : Try.prog.cellsOf 41 = 2 := by kernel_rfl
theorem cells3 : Try.prog.cellsOf 3 = 1 := by kernel_rfl
theorem cells9 : Try.prog.cellsOf 9 = 1 := by kernel_rfl
theorem bytesI : Try.prog.bytesOf 41 = 24 := by kernel_rfl
theorem readL : Try.prog.readableRec 24 = true := by kernel_rfl
theorem rowL : 24 < Try.prog.types.size := of_decide_eq_true (by kernel_rfl)
theorem reach_num : reachBytes = 140737488351232 := by kernel_rfl
theorem wf_i64 {a : Int} (h : (Lit.int .i64 a).wf = true) : -9223372036854775808 ≤ a ∧ a ≤ 9223372036854775807 := by
  simp [Lit.wf] at h
  exact h
theorem block_lt {w : World} {b o : Nat} {v : Value} (h : w.cell? ⟨b, o, none⟩ = some v) : b < w.heap.size := by
  apply Classical.byContradiction
  intro n
  have : w.heap[b]? = none := Array.getElem?_eq_none (by omega)
  simp [World.cell?, this] at h
theorem all_le {l : List Nat} {b : Nat} (h : l.all (fun x => decide (x ≤ b)) = true) {x : Nat} (hx : x ∈ l) : x ≤ b := by
  rw [List.all_eq_true] at h
  simpa using h x hx
/-- A list that came in, opened. -/
theorem came_open {H : Type} {enc : TypeId × Value → H} {W : World} {base : Nat} {v : Value} {d : DataW H} {p : List MemPlace} (hv : Value.okWide Try.prog W .any base 24 v) (h : DataW.Trod enc Try.prog W 0 (fun _ => true) true 24 v d p)
    (hsz : ∀ x ∈ d.weights Try.prog 24, x ≤ reachBytes) : ∃ l : List It, Came W v l ∧ Good l := by
  obtain ⟨a0, len0, cap0, rfl⟩ := okWide_slice Try.underlying24 hv
  obtain ⟨fuel, hf⟩ := h
  rcases Go.Deep.open_slice_pairs Try.underlying24 Try.underlying41 cellsI rfl rfl cells9 cells3 (show DataW.trod enc Try.prog W 0 (fun _ => true) true fuel 24 [.slice a0 len0 cap0] = some (d, p) by simpa [Value.cells] using hf) with ⟨hvv, hx⟩ | ⟨a, len, cap, m, n, V0, V1, D0, D1, P0, P1, hvv, hb, hl, hm, hmm, hx, hc⟩
  · simp at hvv
    refine ⟨[], Or.inl ⟨by simpa using hvv, rfl⟩, ⟨by decide, by decide⟩, fun j hj => by simp at hj⟩
  · simp at hvv
    obtain ⟨rfl, rfl, rfl⟩ := hvv
    simp at hmm
    subst hmm
    have hx1 := congrArg Prod.fst hx
    simp only at hx1
    have hbytes : len0 * 24 ≤ 140737488351232 := by
      have := hsz (m * 24) (by rw [hx1]; simp [DataW.weights, Try.underlying24, bytesI]; left; omega)
      rw [reach_num] at this
      omega
    have each : ∀ i, i < len0 → ∃ q : It, W.cell? (a.add (i * 2)) = some (.string q.1) ∧ W.cell? (a.add (i * 2 + 1)) = some (.int .i64 q.2) ∧ q.1.size ≤ maxLen ∧ -9223372036854775808 ≤ q.2 ∧ q.2 ≤ 9223372036854775807 := by
      intro i hi
      obtain ⟨c0, c1, t0, t1⟩ := hc i (by omega)
      obtain ⟨z, e1, _, wz⟩ := DataW.trod_int Try.underlying3 t1
      obtain ⟨s, e0, _, ws⟩ := DataW.trod_string Try.underlying9 t0
      simp at e1 e0
      rw [e0] at c0
      rw [e1] at c1
      exact ⟨(s, z), c0, c1, ws, wf_i64 wz⟩
    obtain ⟨q, hq⟩ := Go.Deep.choose_lt each
    have hlen : ((List.range len0).map q).length = len0 := by simp
    have hget : ∀ j, j < len0 → ((List.range len0).map q).getD j (ByteArray.empty, 0) = q j := by
      intro j hj
      simp [List.getD_eq_getElem?_getD, List.getElem?_range hj]
    refine ⟨(List.range len0).map q, Or.inr ⟨a, m, by rw [hlen], ?_⟩, ⟨by rw [hlen]; omega, by rw [hlen]; exact hbytes⟩, fun j hj => ?_⟩
    · rw [hlen]
      by_cases hz : len0 = 0
      · exact Or.inl hz
      right
      obtain ⟨b, off, spot⟩ := a
      have k0 := (hq 0 (by omega)).1
      have hspot : spot = none := by simpa [Addr.add] using World.cell?_spot k0
      subst hspot
      refine ⟨b, off, rfl, ?_, fun j hj => ?_⟩
      · rw [Go.WideShapes.add_plain] at k0
        exact block_lt k0
      · obtain ⟨a0, a1, r⟩ := hq j hj
        rw [Go.WideShapes.add_plain] at a0 a1
        unfold nm am
        rw [hget j hj]
        exact ⟨a0, by rw [Nat.add_assoc]; exact a1⟩
    · rw [hlen] at hj
      obtain ⟨a0, a1, r⟩ := hq j hj
      unfold nm am
      rw [hget j hj]
      exact r
theorem reads_stay {H : Type} {enc : TypeId × Value → H} {W W' : World} {v : Value} {d : DataW H} {p : List MemPlace} (h : DataW.Trod enc Try.prog W 0 (fun _ => true) true 24 v d p) (hb : Below W.heap.size W W') (hlt : ∀ x ∈ p, x.block < W.heap.size) :
    DataW.Trod enc Try.prog W' 0 (fun b => decide (b < W.heap.size)) true 24 v d p := Below.trod laidOut readL rowL h hb hlt
end Go.Proofs.Ytnlohjcjboelgaa.L
