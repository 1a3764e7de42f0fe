import Derived.Laws.AppendOwn
import Derived.Lib.AppendStr
import Derived.WalkMore
import Derived.Lib.ConvBytes
import Derived.Laws.MakeOwn
import Derived.Test.YtnclpdgbjefpmaaEk
namespace Go.Proofs.Ytnclpdgbjefpmaa.L
open Go.RowKit
set_option linter.unusedVariables false
set_option linter.unusedSimpArgs false
/-- A byte as the number that it is. -/
def iv (c : UInt8) : Int := (c.toNat : Int)
abbrev OwnB (w : World) (base : Nat) (v : Value) (l : List UInt8) : Prop := w.ownsRow base 5 1 v l.length (Lib.byteCells l)
theorem byteCells_eq (l : List UInt8) : Lib.byteCells l = l.map (fun b => Value.int .u8 (iv b)) := rfl
theorem ownb_form {w : World} {base : Nat} {v : Value} {l : List UInt8} (h : OwnB w base v l) : ∃ a cap, v = .slice a l.length cap := by
  rcases h.2 with ⟨e, n0⟩ | ⟨g, cap, cur, e, _⟩
  · exact ⟨none, 0, by rw [e, n0]⟩
  · exact ⟨_, _, e⟩
theorem row_ge {w : World} {base e s n : Nat} {v : Value} {xs : List Value} (h : w.ownsRow base e s v n xs) : ∀ k, v.ownBlock = some k → base ≤ k := by
  intro k hk
  rcases h.2 with ⟨rfl, _⟩ | ⟨g, cap, cur, rfl, hb, _⟩
  · cases hk
  · cases hk; exact hb
theorem infoB : (Try.prog.info? 5).map (fun i => (i.zero, i.size, i.bytes)) = some (some (.int .u8 0), 1, 1) := by kernel_rfl
theorem cell_one_new (w : World) (a : Value) (t : TypeId) : ∀ (j : Nat) (u : Value), [a][j]? = some u → (w.alloc (.cells #[a] t)).cell? ((⟨w.heap.size, 0, none⟩ : Addr).add j) = some u := by
  intro j u h
  rw [Go.WideShapes.add_plain]
  rw [cell_of_row (w.alloc (.cells #[a] t)) w.heap.size (0 + j) _ _ _ (heap_alloc_new w _)]
  simpa using h
/-- The writer's bytes: what stands in its block, and that it is a row of its own. -/
structure Wv (B g : Nat) (v : Value) (l : List UInt8) (W : World) : Prop where
  box : W.heap[g]? = some (.cells #[v] 62 (0, 0))
  own : OwnB W B v l
  lt : g < B
  le : B ≤ W.heap.size
/-- No row of bytes. -/
def NoB (W : World) (k : Nat) : Prop := ∀ cs fr, W.heap[k]? ≠ some (.cells cs 5 fr)
/-- The writer has gone on: its block and its row may change. -/
structure Kp (B g : Nat) (W W' : World) : Prop where
  os : W'.os = W.os
  tape : W'.tape = W.tape
  output : W'.output = W.output
  size : W.heap.size ≤ W'.heap.size
  old : ∀ k, k < B → k ≠ g → W'.heap[k]? = W.heap[k]?
  block : ∀ k, k < W.heap.size → k ≠ g → NoB W k → W'.heap[k]? = W.heap[k]?
theorem Kp.refl (B g : Nat) (W : World) : Kp B g W W := ⟨rfl, rfl, rfl, Nat.le_refl _, fun _ _ _ => rfl, fun _ _ _ _ => rfl⟩
theorem Kp.trans {B g : Nat} {W W' W'' : World} (h : Kp B g W W') (k : Kp B g W' W'') : Kp B g W W'' := by
  refine ⟨k.os.trans h.os, k.tape.trans h.tape, k.output.trans h.output, Nat.le_trans h.size k.size, fun j h1 h2 => (k.old j h1 h2).trans (h.old j h1 h2), fun j hj hg hv => ?_⟩
  have e := h.block j hj hg hv
  exact (k.block j (Nat.lt_of_lt_of_le hj h.size) hg (fun cs fr h2 => hv cs fr (e.symm.trans h2))).trans e
theorem Kp.below {B g : Nat} {W W' W'' : World} (h : Kp B g W W') (k : Below W'.heap.size W' W'') (hB : B ≤ W.heap.size) : Kp B g W W'' := by
  refine ⟨k.os.trans h.os, k.tape.trans h.tape, k.output.trans h.output, Nat.le_trans h.size k.size, fun j h1 h2 => ?_, fun j hj hg hv => ?_⟩
  · exact (k.block j (by have := h.size; omega)).trans (h.old j h1 h2)
  · exact (k.block j (by have := h.size; omega)).trans (h.block j hj hg hv)
/-- What came ahead of the base can be read on. -/
def KeepB (B g : Nat) (W W' : World) : Prop := W.heap.size ≤ W'.heap.size ∧ ∀ k, k < B → k ≠ g → W'.heap[k]? = W.heap[k]?
theorem Wv.low {B g : Nat} {v : Value} {l : List UInt8} {W W' : World} (h : Wv B g v l W) (k : Below W.heap.size W W') : Wv B g v l W' :=
  ⟨(k.block g (lt_blk h.box)).trans h.box, World.ownsRow.kept (row := none) h.own ⟨k.os, k.tape, k.output, k.size, fun j hj _ => k.block j hj⟩ (by cases v.ownBlock <;> simp), h.lt, Nat.le_trans h.le k.size⟩
theorem row_at {W : World} {B : Nat} {v : Value} {l : List UInt8} (h : OwnB W B v l) {k : Nat} (hk : v.ownBlock = some k) : B ≤ k ∧ ∃ cs, W.heap[k]? = some (.cells cs 5 (0, 0)) := by
  rcases h.2 with ⟨rfl, _⟩ | ⟨g', cap, cur, rfl, hb, hg, _⟩
  · cases hk
  · cases hk
    exact ⟨hb, _, hg⟩
/-- The row that has grown is put back into the writer. -/
theorem wv_put {B g : Nat} {v v' : Value} {l l' : List UInt8} {W W1 : World} (h : Wv B g v l W) (hg : W.grownBy W1 v.ownBlock) (ho : OwnB W1 B v' l') : Wv B g v' l' (W1.setCell ⟨g, 0, none⟩ v') ∧ Kp B g W (W1.setCell ⟨g, 0, none⟩ v') := by
  have hgl := lt_blk h.box
  have hgn : some g ≠ v.ownBlock := fun e => by
    have := (row_at h.own e.symm).1
    have := h.lt
    omega
  have hb1 : W1.heap[g]? = some (.cells #[v] 62 (0, 0)) := (hg.block g hgl hgn).trans h.box
  have hset : ∀ k, k ≠ g → (W1.setCell ⟨g, 0, none⟩ v').heap[k]? = W1.heap[k]? := fun k hk => by
    rw [setCell_eq_setRow _ _ _ _ _ _ _ hb1]
    exact setRow_other _ _ _ _ hk
  refine ⟨⟨?_, ?_, h.lt, ?_⟩, ⟨?_, ?_, ?_, ?_, ?_, ?_⟩⟩
  · rw [setCell_eq_setRow _ _ _ _ _ _ _ hb1, setRow_heap _ _ _ _ _ _ hb1]
    rfl
  · refine World.ownsRow.kept (row := some g) ho ⟨rfl, rfl, rfl, by simp, fun k _ hk => hset k (fun e => hk (by rw [e]))⟩ ?_
    cases hv : v'.ownBlock with
    | none => simp
    | some k =>
      have := (row_at ho hv).1
      have := h.lt
      simp
      omega
  · have := h.le
    have := hg.size
    simp
    omega
  · exact hg.os
  · exact hg.tape
  · exact hg.output
  · have := hg.size
    simp
    omega
  · intro k h1 h2
    rw [hset k h2]
    exact hg.block k (by have := h.le; omega) (fun e => by have := (row_at h.own e.symm).1; omega)
  · intro k h1 h2 h3
    rw [hset k h2]
    refine hg.block k h1 (fun e => ?_)
    obtain ⟨cs, hcs⟩ := (row_at h.own e.symm).2
    exact h3 _ _ hcs
end Go.Proofs.Ytnclpdgbjefpmaa.L
