import Derived.Test.YtdhjoimiejdgbaaDoorMgD
import Derived.Deep.RegionHeld3
namespace Go.Proofs.YtdhjoimiejdgbaaDoor.L
open Go.RowKit Bs Go.Maps
set_option linter.unusedVariables false
/-- The box of an Op that was handed in. -/
structure Bo (w W : World) (k oa ot ov : Int) (s : ByteArray) : Prop where
  o0 : W.cell? ⟨w.heap.size, 0, none⟩ = some (.int .i64 k)
  o1 : W.cell? ⟨w.heap.size, 1, none⟩ = some (.int .i64 oa)
  o2 : W.cell? ⟨w.heap.size, 2, none⟩ = some (.int .i64 ot)
  o3 : W.cell? ⟨w.heap.size, 3, none⟩ = some (.string s)
  o4 : W.cell? ⟨w.heap.size, 4, none⟩ = some (.int .i64 ov)
  sz : w.heap.size < W.heap.size
def opC (k oa ot ov : Int) (s : ByteArray) : Array Value := #[.int .i64 k, .int .i64 oa, .int .i64 ot, .string s, .int .i64 ov]
theorem Bo.mk5 (w : World) (k oa ot ov : Int) (s : ByteArray) (t : TypeId) : Bo w (w.alloc (.cells #[.int .i64 k, .int .i64 oa, .int .i64 ot, .string s, .int .i64 ov] t)) k oa ot ov s := by
  have h : (w.alloc (.cells #[.int .i64 k, .int .i64 oa, .int .i64 ot, .string s, .int .i64 ov] t)).heap[w.heap.size]? = some (.cells #[.int .i64 k, .int .i64 oa, .int .i64 ot, .string s, .int .i64 ov] t) := heap_alloc_new w _
  refine ⟨?_, ?_, ?_, ?_, ?_, by simp⟩
  · unfold World.cell?; rw [h]; rfl
  · unfold World.cell?; rw [h]; rfl
  · unfold World.cell?; rw [h]; rfl
  · unfold World.cell?; rw [h]; rfl
  · unfold World.cell?; rw [h]; rfl
theorem Bo.of {w W W' : World} {k oa ot ov : Int} {s : ByteArray} (h : Bo w W k oa ot ov s) (e : W'.heap[w.heap.size]? = W.heap[w.heap.size]?) (hs : W.heap.size ≤ W'.heap.size) : Bo w W' k oa ot ov s := by
  have c : ∀ j, W'.cell? ⟨w.heap.size, j, none⟩ = W.cell? ⟨w.heap.size, j, none⟩ := fun j => World.cell?_of_block (w := W) (a := ⟨w.heap.size, j, none⟩) e
  exact ⟨(c 0).trans h.o0, (c 1).trans h.o1, (c 2).trans h.o2, (c 3).trans h.o3, (c 4).trans h.o4, Nat.lt_of_lt_of_le h.sz hs⟩
theorem Bo.low {w W W' : World} {k oa ot ov : Int} {s : ByteArray} (h : Bo w W k oa ot ov s) (hb : Below W.heap.size W W') : Bo w W' k oa ot ov s := h.of (hb.block _ h.sz) hb.size
theorem Bo.mv {w W W' : World} {k oa ot ov : Int} {s : ByteArray} {F F' : List Nat} (h : Bo w W k oa ot ov s) (M : Mv F F' W W') (hF : ∀ q ∈ F, q < w.heap.size) : Bo w W' k oa ot ov s := h.of (M.1.block _ h.sz (fun c => by have := hF _ c; omega)) M.1.size
theorem wh_tb {w0 W : World} {B : Nat} {G : List Nat} {st : Nat → St} (hW : Wh w0 W B G st) {i : Nat} (hi : i < 4) {p m : Nat} {l : List Rw} {F : List Nat} {mo : Int} {v : Value} {d : List Dr} (hst : st i = ⟨.pointer (some ⟨p, 0, none⟩), m, l, F, mo, v, d⟩) : Tb W p m l F ∧ OwnD W v d := by
  have t := hW.tq i hi
  have o := hW.od i hi
  rw [hst] at t o
  rcases t with ⟨e, _⟩ | ⟨p', e, t⟩
  · cases e
  · injection e with e
    injection e with e
    injection e with e _ _
    subst e
    exact ⟨t, o⟩
theorem cell_oth {W : World} {g o : Nat} {v : Value} {b j : Nat} (h : b ≠ g) : (W.setCell ⟨g, o, none⟩ v).cell? ⟨b, j, none⟩ = W.cell? ⟨b, j, none⟩ := World.cell?_of_block (w := W) (a := ⟨b, j, none⟩) (set_other W v h)
theorem belowDr (w : World) : Below w.heap.size w w.drew := ⟨rfl, rfl, rfl, Nat.le_refl _, fun _ _ => rfl⟩
end Go.Proofs.YtdhjoimiejdgbaaDoor.L
