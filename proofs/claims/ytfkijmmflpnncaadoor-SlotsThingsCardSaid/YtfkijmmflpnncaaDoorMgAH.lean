import Derived.Test.YtfkijmmflpnncaaDoorMgAD
import Derived.RangeFuncNested
import Derived.RangeFuncBound
import Derived.RangeFuncCalls
import Derived.RangeFuncLeaves
import Derived.Shelf.Abstract
import Derived.Shelf.RegionOpen
import Derived.WalkKit
import Derived.OwnWalkIn
import Derived.TacticsInMore
import Derived.LoopNIn
import Derived.LoopIn
import Derived.Deep.Cut
import Derived.Shelf.SortM.Plain
import Derived.Shelf.SortM.SortNone
import Derived.Test.YtfkijmmflpnncaaDoorProg
import Derived.Test.YtfkijmmflpnncaaDoorStb
import Derived.Sort.OwnSorted
import Derived.Maps.AppendAt
import Derived.Maps.OwnIn
namespace Go.Proofs.YtfkijmmflpnncaaDoor.L
open Go.RowKit Bs Go.Maps
set_option linter.unusedVariables false
/-- No name stands in the slot. -/
def NoS (l : List Rw) (i : Int) : Prop := ∀ j : Nat, i = j → isT l j = false
theorem slot_or (l : List Rw) (i : Int) : NoS l i ∨ ∃ j : Nat, i = j ∧ isT l j = true := by
  by_cases h : ∃ j : Nat, i = j ∧ isT l j = true
  · exact Or.inr h
  · left
    intro j hj
    cases e : isT l j
    · rfl
    · exact absurd ⟨j, hj, e⟩ h
end Go.Proofs.YtfkijmmflpnncaaDoor.L
namespace Go.Proofs.YtfkijmmflpnncaaDoor.L
open Go.RowKit Bs Go.Maps
set_option linter.unusedVariables false
theorem infoS : (Tryd.prog.info? 9).map (fun i => (i.zero, i.size, i.bytes)) = some (some (.string ByteArray.empty), 1, 16) := by kernel_rfl
/-- A row of texts of one's own. -/
abbrev OwnS (w : World) (base : Nat) (v : Value) (ss : List ByteArray) : Prop := w.ownsRow base 9 1 v ss.length (ss.map Value.string)
/-- The names by slot. -/
def bs (l : List Rw) : List ByteArray := l.map (·.1)
/-- As far as k. -/
def bsK (l : List Rw) (k : Nat) : List ByteArray := (List.range l.length).map fun j => if j < k then nm l j else ByteArray.empty
theorem bsK_len (l : List Rw) (k : Nat) : (bsK l k).length = l.length := by unfold bsK; simp
theorem bsK_all (l : List Rw) : bsK l l.length = bs l := by
  unfold bsK bs
  apply List.ext_getElem
  · simp
  · intro j h1 h2
    simp at h1
    simp [h1, nm_at h1]
theorem bsK_zero (l : List Rw) : bsK l 0 = List.replicate l.length ByteArray.empty := by
  unfold bsK
  apply List.ext_getElem
  · simp
  · intro j h1 h2; simp
theorem bsK_set (l : List Rw) (k : Nat) (h : k < l.length) : (bsK l k).set k (nm l k) = bsK l (k + 1) := by
  apply List.ext_getElem
  · simp [bsK_len]
  · intro j h1 h2
    rw [List.getElem_set]
    simp only [bsK, List.getElem_map, List.getElem_range]
    by_cases e : k = j
    · subst e; simp
    · by_cases h3 : j < k
      · simp [e, h3, show j < k + 1 by omega]
      · simp [e, h3, show ¬ j < k + 1 by omega]
theorem made_empty (n : Nat) : (madeCells (Value.string ByteArray.empty).cells (n * 1)).toList = (List.replicate n ByteArray.empty).map Value.string := by
  rw [Nat.mul_one]
  unfold madeCells
  apply List.ext_getElem
  · simp
  · intro j h1 h2
    simp [Value.cells, Nat.mod_one]
theorem grown_low {w w' : World} (h : w.grownBy w' none) : Below w.heap.size w w' := (Below.refl _ _).grown h (Nat.le_refl _) (fun k hk => by cases hk)
theorem ownS_cell {w : World} {base g cap n : Nat} {xs : List Value} (h : w.ownsRow base 9 1 (.slice (some ⟨g, 0, none⟩) n cap) n xs) {j : Nat} {u : Value} (hu : xs[j]? = some u) : w.cell? ⟨g, j, none⟩ = some u := by
  have := h.cells (g := g) rfl j u hu
  rw [Go.WideShapes.add_plain] at this
  simpa using this
end Go.Proofs.YtfkijmmflpnncaaDoor.L
namespace Go.Proofs.YtfkijmmflpnncaaDoor.L
open Go.RowKit Go.Shelf
set_option linter.unusedVariables false
attribute [local go_sem] Oper.semAt_some
/-- A slot and its name. -/
abbrev Sn := Nat × ByteArray
def nmS (ss : List ByteArray) (j : Nat) : ByteArray := ss.getD j ByteArray.empty
/-- The slots in use, with their names, as far as k. -/
def tkK (ss : List ByteArray) : Nat → List Sn
  | 0 => []
  | k + 1 => tkK ss k ++ (if (nmS ss k).size = 0 then [] else [(k, nmS ss k)])
def tk (ss : List ByteArray) : List Sn := tkK ss ss.length
theorem tkK_pre (ss : List ByteArray) (k : Nat) : ∀ d, tkK ss k <+: tkK ss (k + d)
  | 0 => List.prefix_refl _
  | d + 1 => (tkK_pre ss k d).trans (List.prefix_append _ _)
theorem tkK_tk (ss : List ByteArray) {k : Nat} (h : k ≤ ss.length) : tkK ss k <+: tk ss := by
  obtain ⟨d, e⟩ : ∃ d, ss.length = k + d := ⟨ss.length - k, by omega⟩
  unfold tk
  rw [e]
  exact tkK_pre ss k d
structure Mid (m n₀ : Nat) (W W' : World) : Prop where
  size : W.heap.size ≤ W'.heap.size
  block : ∀ k, m ≤ k → k < n₀ → W'.heap[k]? = W.heap[k]?
theorem Mid.cell {m n₀ : Nat} {W W' : World} (h : Mid m n₀ W W') {p : Addr} (h1 : m ≤ p.block) (h2 : p.block < n₀) : W'.cell? p = W.cell? p := by
  unfold World.cell?
  rw [h.block _ h1 h2]
theorem Mid.trans {m n₀ : Nat} {A B C : World} (h : Mid m n₀ A B) (k : Mid m n₀ B C) : Mid m n₀ A C := ⟨Nat.le_trans h.size k.size, fun j h1 h2 => (k.block j h1 h2).trans (h.block j h1 h2)⟩
theorem Mid.refl (m n₀ : Nat) (W : World) : Mid m n₀ W W := ⟨Nat.le_refl _, fun _ _ _ => rfl⟩
theorem Mid.of {m n₀ N : Nat} {W W' : World} (h : Below N W W') (hN : n₀ ≤ N) : Mid m n₀ W W' := ⟨h.size, fun j _ h2 => h.block j (Nat.lt_of_lt_of_le h2 hN)⟩
/-- Texts in blocks between two marks. -/
def SlS (m n₀ : Nat) (W : World) (v : Value) (ss : List ByteArray) : Prop := ∃ a cap, v = .slice a ss.length cap ∧ (ss.length = 0 ∨ ∃ b, a = some ⟨b, 0, none⟩ ∧ m ≤ b ∧ b < n₀ ∧ ∀ j, j < ss.length → W.cell? ⟨b, j, none⟩ = some (.string (nmS ss j)))
theorem SlS.low {m n₀ : Nat} {W W' : World} {v : Value} {ss : List ByteArray} (h : SlS m n₀ W v ss) (hB : Mid m n₀ W W') : SlS m n₀ W' v ss := by
  obtain ⟨a, cap, rfl, h⟩ := h
  refine ⟨a, cap, rfl, ?_⟩
  rcases h with h | ⟨b, rfl, h1, h2, h⟩
  · exact Or.inl h
  · exact Or.inr ⟨b, rfl, h1, h2, fun j hj => (hB.cell (p := ⟨b, j, none⟩) h1 h2).trans (h j hj)⟩
theorem own_slS {W : World} {base n₀ : Nat} {v : Value} {ss : List ByteArray} (h : OwnS W base v ss) (hn : W.heap.size ≤ n₀) : SlS base n₀ W v ss := by
  rcases own_form h with ⟨rfl, h0⟩ | ⟨g, cap, rfl, _, _, hlt⟩
  · exact ⟨none, 0, by rw [h0], Or.inl h0⟩
  · refine ⟨_, cap, rfl, Or.inr ⟨g, rfl, (h.lt g rfl).1, Nat.lt_of_lt_of_le hlt hn, fun j hj => ?_⟩⟩
    refine ownS_cell h ?_
    unfold nmS
    rw [List.getElem?_map, List.getD_eq_getElem?_getD, List.getElem?_eq_getElem hj]
    rfl
def dv (x : Sn) : Array Value := #[.int .i64 (x.1 : Int), .string x.2]
end Go.Proofs.YtfkijmmflpnncaaDoor.L
namespace Go.Proofs.YtfkijmmflpnncaaDoor
open Go.Shelf
def sortS_ren : Go.Shelf.Ren := ⟨fun | 6 => 44 | 8 => 56 | 9 => 55 | 19 => 73 | 20 => 74 | 21 => 64 | 22 => 65 | 23 => 66 | 24 => 67 | 25 => 68 | 26 => 69 | 27 => 70 | 28 => 71 | 29 => 72 | 36 => 79 | 31 => 80 | 32 => 81 | 37 => 82 | 38 => 83 | 39 => 84 | 41 => 86 | n => n, fun | 27 => 61 | 29 => 9 | 3 => 3 | 32 => 101 | 26 => 61 | 0 => 0 | 44 => 117 | 46 => 97 | 4 => 4 | 36 => 110 | 35 => 109 | 41 => 77 | 5 => 5 | 9 => 9 | 53 => 123 | 57 => 127 | 63 => 129 | 64 => 130 | n => n, fun | n => n⟩
theorem sortS : Go.Proofs.SlLaysM.n6 Tryd.prog sortS_ren := {
  mixed := by kernel_rfl
  f6 := ⟨Tryd.f44.name, by decide, Tryd.func44.trans (congrArg some (by kernel_rfl))⟩
  f8 := Tryd.func56.trans (congrArg some (by kernel_rfl))
  f9 := ⟨Tryd.f55.name, by decide, Tryd.func55.trans (congrArg some (by kernel_rfl))⟩
  f19 := Tryd.func73.trans (congrArg some (by kernel_rfl))
  f20 := Tryd.func74.trans (congrArg some (by kernel_rfl))
  f21 := ⟨Tryd.f64.name, by decide, Tryd.func64.trans (congrArg some (by kernel_rfl))⟩
  f22 := ⟨Tryd.f65.name, by decide, Tryd.func65.trans (congrArg some (by kernel_rfl))⟩
  f23 := ⟨Tryd.f66.name, by decide, Tryd.func66.trans (congrArg some (by kernel_rfl))⟩
  f24 := ⟨Tryd.f67.name, by decide, Tryd.func67.trans (congrArg some (by kernel_rfl))⟩
  f25 := ⟨Tryd.f68.name, by decide, Tryd.func68.trans (congrArg some (by kernel_rfl))⟩
  f26 := ⟨Tryd.f69.name, by decide, Tryd.func69.trans (congrArg some (by kernel_rfl))⟩
  f27 := ⟨Tryd.f70.name, by decide, Tryd.func70.trans (congrArg some (by kernel_rfl))⟩
  f28 := ⟨Tryd.f71.name, by decide, Tryd.func71.trans (congrArg some (by kernel_rfl))⟩
  f29 := ⟨Tryd.f72.name, by decide, Tryd.func72.trans (congrArg some (by kernel_rfl))⟩
  f31 := Tryd.func80.trans (congrArg some (by kernel_rfl))
  f32 := Tryd.func81.trans (congrArg some (by kernel_rfl))
  f36 := ⟨Tryd.f79.name, by decide, Tryd.func79.trans (congrArg some (by kernel_rfl))⟩
  f37 := ⟨Tryd.f82.name, by decide, Tryd.func82.trans (congrArg some (by kernel_rfl))⟩
  f38 := ⟨Tryd.f83.name, by decide, Tryd.func83.trans (congrArg some (by kernel_rfl))⟩
  f39 := ⟨Tryd.f84.name, by decide, Tryd.func84.trans (congrArg some (by kernel_rfl))⟩
  f41 := ⟨Tryd.f86.name, by decide, Tryd.func86.trans (congrArg some (by kernel_rfl))⟩
  t0 := Tryd.underlying0
  a0 := Tryd.isAgg0
  z0 := Tryd.sizeOf0
  v0 := Tryd.zeroValue0
  t3 := Tryd.underlying3
  a3 := Tryd.isAgg3
  z3 := Tryd.sizeOf3
  v3 := Tryd.zeroValue3
  t4 := Tryd.underlying4
  a4 := Tryd.isAgg4
  z4 := Tryd.sizeOf4
  v4 := Tryd.zeroValue4
  t5 := Tryd.underlying5
  a5 := Tryd.isAgg5
  z5 := Tryd.sizeOf5
  v5 := Tryd.zeroValue5
  t9 := Tryd.underlying9
  a9 := Tryd.isAgg9
  z9 := Tryd.sizeOf9
  v9 := Tryd.zeroValue9
  t26 := Tryd.underlying61
  a26 := Tryd.isAgg61
  z26 := Tryd.sizeOf61
  v26 := Tryd.zeroValue61
  t27 := Tryd.underlying61
  a27 := Tryd.isAgg61
  z27 := Tryd.sizeOf61
  v27 := Tryd.zeroValue61
  t29 := Tryd.underlying9
  a29 := Tryd.isAgg9
  z29 := Tryd.sizeOf9
  v29 := Tryd.zeroValue9
  t32 := Tryd.underlying101
  a32 := Tryd.isAgg101
  z32 := Tryd.sizeOf101
  v32 := Tryd.zeroValue101
  t35 := Tryd.underlying109
  a35 := Tryd.isAgg109
  z35 := Tryd.sizeOf109
  v35 := Tryd.zeroValue109
  t36 := Tryd.underlying110
  a36 := Tryd.isAgg110
  z36 := Tryd.sizeOf110
  v36 := Tryd.zeroValue110
  t41 := Tryd.underlying77
  a41 := Tryd.isAgg77
  z41 := Tryd.sizeOf77
  v41 := Tryd.zeroValue77
  t44 := Tryd.underlying117
  a44 := Tryd.isAgg117
  z44 := Tryd.sizeOf117
  v44 := Tryd.zeroValue117
  t46 := Tryd.underlying97
  a46 := Tryd.isAgg97
  z46 := Tryd.sizeOf97
  v46 := Tryd.zeroValue97
  t53 := Tryd.underlying123
  a53 := Tryd.isAgg123
  z53 := Tryd.sizeOf123
  v53 := Tryd.zeroValue123
  t57 := Tryd.underlying127
  a57 := Tryd.isAgg127
  z57 := Tryd.sizeOf127
  v57 := Tryd.zeroValue127
  t63 := Tryd.underlying129
  a63 := Tryd.isAgg129
  z63 := Tryd.sizeOf129
  v63 := Tryd.zeroValue129
  t64 := Tryd.underlying130
  a64 := Tryd.isAgg130
  z64 := Tryd.sizeOf130
  v64 := Tryd.zeroValue130 }
end Go.Proofs.YtfkijmmflpnncaaDoor
namespace Go.Proofs.YtfkijmmflpnncaaDoor.L
open Go.RowKit Go.Sort
set_option linter.unusedVariables false
/-- Texts, sorted by their bytes. -/
def srtL (ss : List (List UInt8)) : List (List UInt8) := ss.mergeSort fun x y => decide (x ≤ y)
def lsB (ss : List ByteArray) : List (List UInt8) := ss.map fun s => s.data.toList
def bsL (ss : List (List UInt8)) : List ByteArray := ss.map fun b => ⟨b.toArray⟩
def srt (ss : List ByteArray) : List ByteArray := bsL (srtL (lsB ss))
theorem srt_len (ss : List ByteArray) : (srt ss).length = ss.length := by unfold srt bsL srtL lsB; simp
theorem enc_str (ss : List ByteArray) : (lsB ss).map encStr = ss.map Value.string := by
  unfold lsB
  rw [List.map_map]
  apply List.map_congr_left
  intro s hs
  simp [encStr]
theorem enc_bs (ts : List (List UInt8)) : ts.map encStr = (bsL ts).map Value.string := by
  unfold bsL
  rw [List.map_map]
  apply List.map_congr_left
  intro s hs
  simp [encStr]
theorem sort_own (g cap base : Nat) (ss : List ByteArray) (w : World) (h : w.ownsRow base 9 1 (.slice (some ⟨g, 0, none⟩) ss.length cap) ss.length (ss.map Value.string)) (hl : ss.length ≤ 65536) :
    Calls Tryd.prog 44 #[.slice (some ⟨g, 0, none⟩) ss.length cap] w fun e w' => e = .returned (.tuple #[]) ∧ w'.ownsRow base 9 1 (.slice (some ⟨g, 0, none⟩) ss.length cap) ss.length ((srt ss).map Value.string) ∧ w.grownBy w' (some g) := by
  rcases h.2 with ⟨e, _⟩ | ⟨g', cap', cur, e, hbase, hb, h1, h2, h3, h4⟩
  · cases e
  injection e with e1 _ e3
  injection e1 with e1
  injection e1 with e1 _ _
  subst e1 e3
  have hlen : (lsB ss).length = ss.length := by unfold lsB; simp
  have hH := holds_of_block (ss := lsB ss) hb (by rw [hlen, enc_str]; simpa using h4)
  have hcon := AnyM.slices_Sort_string sortS g 0 cap (lsB ss) w hH (lt_of_block hb) (by rw [hlen]; omega)
  rw [hlen] at hcon
  refine (show Calls Tryd.prog 44 _ _ _ from hcon).mono ?_
  rintro e w' ⟨rfl, n, os, rfl⟩
  refine ⟨rfl, ?_, grownBy_sorted _⟩
  have := ownsRow_sorted (ss := lsB ss) (ts := srtL (lsB ss)) (n := n) (os := os) (by unfold srtL; simp) hbase hb (by rw [hlen]; exact h1) h2 h3
  rw [hlen, enc_bs] at this
  exact this
end Go.Proofs.YtfkijmmflpnncaaDoor.L
namespace Go.Proofs.YtfkijmmflpnncaaDoor.L
open Go.RowKit Go.Shelf
set_option linter.unusedVariables false
attribute [local go_sem] Oper.semAt_some
theorem grown_of {W W' : World} (h : Below W.heap.size W W') : W.grownBy W' none := ⟨h.os, h.tape, h.output, h.size, fun k hk _ => h.block k hk⟩
theorem row_mono {W : World} {base base' : Nat} {e : TypeId} {size : Nat} {v : Value} {k : Nat} {xs : List Value} (h : W.ownsRow base e size v k xs) (hb : base' ≤ base) : W.ownsRow base' e size v k xs := by
  obtain ⟨h1, h2⟩ := h
  refine ⟨h1, ?_⟩
  rcases h2 with h | ⟨g, cap, cur, hv, hg, r⟩
  · exact Or.inl h
  · exact Or.inr ⟨g, cap, cur, hv, Nat.le_trans hb hg, r⟩
theorem mid_app {W w1 : World} {m0 n0 Bo : Nat} {tmp : Obj} {v v' : Value} (hgrow : (W.alloc tmp).grownBy w1 v.ownBlock) (hown : ∀ k, v.ownBlock = some k → k < m0 ∨ n0 ≤ k) (hN : n0 ≤ W.heap.size) (hBo : Bo < m0) : Mid m0 n0 W (w1.setCell ⟨Bo, 0, none⟩ v') := by
  have e1 : ∀ k, m0 ≤ k → k < n0 → w1.heap[k]? = W.heap[k]? := by
    intro k h1 h2
    refine (hgrow.block k (by simp; omega) (fun e => ?_)).trans (Below.heap_alloc W _ k (by omega))
    rcases hown k e.symm with c | c <;> omega
  refine ⟨?_, fun k h1 h2 => ?_⟩
  · have := hgrow.size
    simp at this
    simp [World.setCell]
    omega
  · exact (Below.heap_setCell w1 ⟨Bo, 0, none⟩ v' k (by simp; omega)).trans (e1 k h1 h2)
theorem tkK_len (ss : List ByteArray) : ∀ k, (tkK ss k).length ≤ k
  | 0 => Nat.le_refl _
  | k + 1 => by
    have := tkK_len ss k
    rw [tkK, List.length_append]
    split <;> simp <;> omega
def cellsN (l : List Sn) : List Value := l.map fun x => .string x.2
theorem cellsN_snoc (l : List Sn) (x : Sn) : cellsN (l ++ [x]) = cellsN l ++ [.string x.2] := by simp [cellsN]
end Go.Proofs.YtfkijmmflpnncaaDoor.L
