import Derived.Test.YtcldglilhhhdoaaGreatDoorMgAF
import Derived.Test.YtcldglilhhhdoaaGreatDoorPeE
namespace Go.Proofs.YtcldglilhhhdoaaGreatDoor.L
open Go.ChangeShapes Go.WideShapes Go.ChangeAt Go.RowKit Go.Joins
set_option linter.unusedVariables false
theorem laidOut : laidOutB Tryz.prog = true := by kernel_rfl
theorem cells3' : Tryz.prog.cellsOf 3 = 1 := by kernel_rfl
theorem bytes3' : Tryz.prog.bytesOf 3 = 8 := by kernel_rfl
theorem readI : Tryz.prog.readableRec 26 = true := by kernel_rfl
theorem rowI : 26 < Tryz.prog.types.size := of_decide_eq_true (by kernel_rfl)
theorem all_le {l : List Nat} {n : Nat} (h : l.all (fun x => decide (x ≤ n)) = true) {x : Nat} (hx : x ∈ l) : x ≤ n := by
  have := List.all_eq_true.1 h x hx
  simpa using this
theorem block_lt {w : World} {b o : Nat} {v : Value} (h : w.cell? ⟨b, o, none⟩ = some v) : b < w.heap.size := by
  apply Classical.byContradiction
  intro n
  have : w.heap[b]? = none := Array.getElem?_eq_none (by omega)
  simp [World.cell?, this] at h
/-- A list of ints that came in, opened. -/
theorem ints_open {H : Type} {enc : TypeId × Value → H} {W : World} {fuel : Nat} {v : Value} {d : DataW H} {p : List MemPlace} (h : DataW.trod enc Tryz.prog W 0 (fun _ => true) true fuel 26 [v] = some (d, p))
    (hk : ∀ x ∈ d.weights Tryz.prog 26, x ≤ reachBytes) : ∃ (a : Option Addr) (zs : List Int) (cap : Nat), v = .slice a zs.length cap ∧ RdI W a zs ∧ (∀ z, z ∈ zs → -9223372036854775808 ≤ z ∧ z ≤ 9223372036854775807) ∧ zs.length ≤ 140737488355328 := by
  rcases Go.Deep.open_slice Tryz.underlying26 h with ⟨hv, hx⟩ | ⟨a, len, cap, m, n, D, Pl, hv, hb, hl, hm, hmm, hx, hc⟩
  · simp at hv
    exact ⟨none, [], 0, hv, Or.inl rfl, (fun _ h => by cases h), by simp⟩
  · simp at hv
    simp at hmm
    rw [cells3'] at hc
    have hx1 := congrArg Prod.fst hx
    simp only at hx1
    have hbytes : len ≤ 140737488355328 := by
      subst hmm
      have := hk (m * 8) (by rw [hx1]; simp [DataW.weights, Tryz.underlying26, bytes3']; left; omega)
      rw [reach_num] at this
      omega
    have key : ∀ i, i < len → ∃ s : Int, W.cell? (a.add i) = some (.int .i64 s) ∧ -9223372036854775808 ≤ s ∧ s ≤ 9223372036854775807 := by
      intro i hi
      obtain ⟨cs', h1, h2⟩ := hc i (by omega)
      obtain ⟨s, e1, e2, e3⟩ := DataW.trod_int Tryz.underlying3 h2
      subst e1
      obtain ⟨_, _, hcell⟩ := World.cells?_some h1
      have h0 := hcell 0 (by omega)
      have e3' : decide (IntKind.i64.min ≤ s) && decide (s ≤ IntKind.i64.max) := e3
      rw [Bool.and_eq_true, decide_eq_true_eq, decide_eq_true_eq] at e3'
      refine ⟨s, ?_, e3'.1, e3'.2⟩
      have e0 : ((a.add (i * 1)).add 0) = a.add i := by rw [Nat.mul_one]; unfold Addr.add; simp
      rw [e0] at h0
      simpa using h0
    obtain ⟨q, hq⟩ := Go.Deep.choose_lt key
    refine ⟨some a, (List.range len).map q, cap, by simpa using hv, ?_, fun z hz => ?_, by simpa using hbytes⟩
    · by_cases h0 : len = 0
      · exact Or.inl (by simpa using h0)
      right
      obtain ⟨b, off, spot⟩ := a
      have k0 := (hq 0 (by omega)).1
      have hspot : spot = none := by simpa [Addr.add] using World.cell?_spot k0
      subst hspot
      refine ⟨b, off, rfl, ?_, fun j hj => ?_⟩
      · rw [Go.WideShapes.add_plain] at k0
        exact block_lt k0
      · have hj' : j < len := by simpa using hj
        have := (hq j hj').1
        rw [Go.WideShapes.add_plain] at this
        rw [this]
        simp [List.getD_eq_getElem?_getD, List.getElem?_range hj']
    · obtain ⟨j, hj, rfl⟩ := List.mem_map.1 hz
      exact (hq j (by simpa using hj)).2
end Go.Proofs.YtcldglilhhhdoaaGreatDoor.L
