import Derived.Test.YtnlohjcjboelgaaOrder
import Derived.Test.YtnlohjcjboelgaaCopied
namespace Go.Proofs.Ytnlohjcjboelgaa.L
open Go.RowKit
set_option linter.unusedVariables false
theorem items_blk {W : World} {b cap : Nat} {l : List It} {arr : Array Value} {t : TypeId} {fz : Nat × Nat} (h : W.heap[b]? = some (.cells arr t fz)) (hc : arr.toList = cellsL l) : Items W (.slice (some ⟨b, 0, none⟩) l.length cap) l := by
  refine ⟨_, cap, rfl, ?_⟩
  by_cases hz : l.length = 0
  · exact Or.inl hz
  have hlt : b < W.heap.size := by
    apply Classical.byContradiction
    intro n
    rw [Array.getElem?_eq_none (by omega)] at h
    cases h
  refine Or.inr ⟨b, 0, rfl, hlt, fun j hj => ?_⟩
  have key : ∀ k u, (cellsL l)[k]? = some u → W.cell? ⟨b, k, none⟩ = some u := by
    intro k u hu
    unfold World.cell?
    rw [h]
    rw [← hc] at hu
    simpa using hu
  obtain ⟨a1, a2⟩ := cellsL_at l j hj
  exact ⟨by simpa using key _ _ a1, by simpa using key _ _ a2⟩
theorem belowA (w : World) (o : Obj) : Below w.heap.size w (w.alloc o) := (Below.refl _ _).alloc (Nat.le_refl _) _
theorem items_new (w : World) (l : List It) (arr : Array Value) (t : TypeId) (hc : arr.toList = cellsL l) : Items (w.alloc (.cells arr t)) (.slice (some ⟨w.heap.size, 0, none⟩) l.length l.length) l := by
  refine items_blk (arr := arr) (t := t) (fz := (0, 0)) ?_ hc
  show (w.heap.push _)[w.heap.size]? = _
  simp
theorem items_new' (w : World) (l : List It) (arr : Array Value) (t : TypeId) (b : Nat) (hb : b = w.heap.size) (hc : arr.toList = cellsL l) : Items (w.alloc (.cells arr t)) (.slice (some ⟨b, 0, none⟩) l.length l.length) l := by
  rw [hb]
  exact items_new w l arr t hc
def cpu : ByteArray := ⟨#[99, 112, 117]⟩
def mem : ByteArray := ⟨#[109, 101, 109]⟩
theorem good_of (l : List It) (h1 : l.length ≤ 16) (h2 : ∀ x ∈ l, x.1.size ≤ 32 ∧ 0 ≤ x.2 ∧ x.2 ≤ 100) : Good l := by
  refine ⟨⟨by unfold maxLen; omega, by omega⟩, fun j hj => ?_⟩
  have e : l.getD j (ByteArray.empty, 0) = l[j] := by simp [hj]
  have := h2 (l[j]) (List.getElem_mem hj)
  unfold nm am
  rw [e]
  refine ⟨by unfold maxLen; omega, by omega, by omega⟩
end Go.Proofs.Ytnlohjcjboelgaa.L
