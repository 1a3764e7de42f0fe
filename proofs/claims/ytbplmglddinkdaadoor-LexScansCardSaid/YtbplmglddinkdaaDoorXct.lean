import Derived.Test.YtbplmglddinkdaaDoorXY
import Derived.Test.YtbplmglddinkdaaDoorXX
namespace Go.Proofs.YtbplmglddinkdaaDoor.L
open Go.ChangeShapes Go.WideShapes Go.ChangeAt Go.RowKit Go.Joins
set_option linter.unusedVariables false
theorem laidOut : laidOutB Tryd.prog = true := by kernel_rfl
theorem cells9 : Tryd.prog.cellsOf 9 = 1 := by kernel_rfl
theorem bytes9 : Tryd.prog.bytesOf 9 = 16 := by kernel_rfl
theorem readS : Tryd.prog.readableRec 22 = true := by kernel_rfl
theorem rowS : 22 < Tryd.prog.types.size := of_decide_eq_true (by kernel_rfl)
theorem all_le {l : List Nat} {n : Nat} (h : l.all (fun x => decide (x ≤ n)) = true) {x : Nat} (hx : x ∈ l) : x ≤ n := by
  have := List.all_eq_true.1 h x hx
  simpa using this
theorem block_lt {w : World} {b o : Nat} {v : Value} (h : w.cell? ⟨b, o, none⟩ = some v) : b < w.heap.size := by
  apply Classical.byContradiction
  intro n
  have : w.heap[b]? = none := Array.getElem?_eq_none (by omega)
  simp [World.cell?, this] at h
/-- The texts that came in, opened. -/
theorem txts_open {H : Type} {enc : TypeId × Value → H} {W : World} {fuel : Nat} {v : Value} {d : DataW H} {p : List MemPlace} (h : DataW.trod enc Tryd.prog W 0 (fun _ => true) true fuel 22 [v] = some (d, p))
    (hk : ∀ x ∈ d.weights Tryd.prog 22, x ≤ reachBytes) : ∃ l : List ByteArray, Txts W v l ∧ l.length ≤ 9000000000000000000 := by
  rcases Go.Deep.open_slice Tryd.underlying22 h with ⟨hv, hx⟩ | ⟨a, len, cap, m, n, D, Pl, hv, hb, hl, hm, hmm, hx, hc⟩
  · simp at hv
    exact ⟨[], ⟨none, 0, hv, Or.inl rfl⟩, by simp⟩
  · simp at hv
    simp at hmm
    rw [cells9] at hc
    have hx1 := congrArg Prod.fst hx
    simp only at hx1
    have hbytes : len ≤ 9000000000000000000 := by
      subst hmm
      have := hk (m * 16) (by rw [hx1]; simp [DataW.weights, Tryd.underlying22, bytes9]; left; omega)
      rw [reach_num] at this
      omega
    have key : ∀ i, i < len → ∃ s : ByteArray, W.cell? (a.add i) = some (.string s) := by
      intro i hi
      obtain ⟨cs', h1, h2⟩ := hc i (by omega)
      obtain ⟨s, e1, e2, _⟩ := DataW.trod_string Tryd.underlying9 h2
      subst e1
      obtain ⟨_, _, hcell⟩ := World.cells?_some h1
      have h0 := hcell 0 (by omega)
      refine ⟨s, ?_⟩
      have e0 : ((a.add (i * 1)).add 0) = a.add i := by rw [Nat.mul_one]; unfold Addr.add; simp
      rw [e0] at h0
      simpa using h0
    obtain ⟨q, hq⟩ := Go.Deep.choose_lt key
    refine ⟨(List.range len).map q, ⟨some a, cap, by simpa using hv, ?_⟩, by simpa using hbytes⟩
    by_cases h0 : len = 0
    · exact Or.inl (by simpa using h0)
    right
    obtain ⟨b, off, spot⟩ := a
    have k0 := hq 0 (by omega)
    have hspot : spot = none := by simpa [Addr.add] using World.cell?_spot k0
    subst hspot
    refine ⟨b, off, rfl, ?_, fun j hj => ?_⟩
    · rw [Go.WideShapes.add_plain] at k0
      exact block_lt k0
    · have hj' : j < len := by simpa using hj
      have := hq j hj'
      rw [Go.WideShapes.add_plain] at this
      rw [this]
      simp [List.getD_eq_getElem?_getD, List.getElem?_range hj']
end Go.Proofs.YtbplmglddinkdaaDoor.L
