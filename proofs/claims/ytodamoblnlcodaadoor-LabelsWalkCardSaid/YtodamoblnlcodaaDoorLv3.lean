import Derived.Test.YtodamoblnlcodaaDoorLv2
import Derived.Test.YtodamoblnlcodaaDoorRd2
import Derived.Test.YtodamoblnlcodaaDoorLw2
namespace Go.Proofs.YtodamoblnlcodaaDoor.L
open Go.RowKit Go.Shelf
set_option linter.unusedVariables false
attribute [local go_sem] Oper.semAt_some
theorem ItemsD.low {W W' : World} {v : Value} {L : List Df} (h : ItemsD W v L) (hb : Below W.heap.size W W') : ItemsD W' v L := by
  obtain ⟨a, cap, rfl, h⟩ := h
  refine ⟨a, cap, rfl, ?_⟩
  rcases h with h | ⟨b, off, rfl, hl, hc⟩
  · exact Or.inl h
  · refine Or.inr ⟨b, off, rfl, Nat.lt_of_lt_of_le hl hb.size, fun j hj => ?_⟩
    obtain ⟨d0, d1, d2, d3, d4⟩ := hc j hj
    exact ⟨(hb.cell (p := ⟨b, off + j * 5, none⟩) hl).trans d0, (hb.cell (p := ⟨b, off + j * 5 + 1, none⟩) hl).trans d1, (hb.cell (p := ⟨b, off + j * 5 + 2, none⟩) hl).trans d2, (hb.cell (p := ⟨b, off + j * 5 + 3, none⟩) hl).trans d3, (hb.cell (p := ⟨b, off + j * 5 + 4, none⟩) hl).trans d4⟩
def rtC : Code → Code
  | .seq _ b => b
  | c => c
def hdC : Code → Code
  | .seq a _ => a
  | c => c
theorem Lk.refl (l : Nat) (W : World) : Lk l W W := ⟨rfl, rfl, rfl, Nat.le_refl _, fun _ _ _ => rfl⟩
theorem Lk.trans {l : Nat} {A B C : World} (h : Lk l A B) (k : Lk l B C) : Lk l A C := ⟨k.os.trans h.os, k.tape.trans h.tape, k.output.trans h.output, Nat.le_trans h.size k.size, fun j hj hn => (k.block j (Nat.lt_of_lt_of_le hj h.size) hn).trans (h.block j hj hn)⟩
theorem Lk.low {l : Nat} {A B : World} (h : Below A.heap.size A B) : Lk l A B := ⟨h.os, h.tape, h.output, h.size, fun j hj _ => h.block j hj⟩
theorem Lk.set {l : Nat} {A B : World} (h : Lk l A B) (v : Value) : Lk l A (B.setCell ⟨l, 0, none⟩ v) := ⟨h.os, h.tape, h.output, by simpa using h.size, fun j hj hn => (block_set _ _ _ _ _ hn).trans (h.block j hj hn)⟩
theorem Lk.put {l : Nat} {A B : World} (h : Lk l A B) {k : Nat} (o : Obj) (hk : A.heap.size ≤ k) : Lk l A (B.putObj k o) := ⟨h.os, h.tape, h.output, by rw [World.putObj_size]; exact h.size, fun j hj hn => (World.putObj_heap_other (by omega)).trans (h.block j hj hn)⟩
theorem Lk.then {l l' : Nat} {A B C : World} (h : Lk l A B) (k : Lk l' B C) (hl : A.heap.size ≤ l') : Lk l A C := ⟨k.os.trans h.os, k.tape.trans h.tape, k.output.trans h.output, Nat.le_trans h.size k.size, fun j hj hn => (k.block j (Nat.lt_of_lt_of_le hj h.size) (by omega)).trans (h.block j hj hn)⟩
theorem Lk.below {l B : Nat} {A C W : World} (h : Below B A C) (k : Lk l C W) (hl : B ≤ l) (hB : B ≤ C.heap.size) : Below B A W := ⟨k.os.trans h.os, k.tape.trans h.tape, k.output.trans h.output, Nat.le_trans h.size k.size, fun j hj => (k.block j (Nat.lt_of_lt_of_le hj hB) (by omega)).trans (h.block j hj)⟩
theorem Lk.drew {l : Nat} {A B : World} (h : Lk l A B) (n : Nat) : Lk l A (B.drewN n) := ⟨h.os, h.tape, h.output, h.size, h.block⟩
/-- What a walk keeps: a number in its box, all else as it lay. -/
structure Ik (W0 : World) (b : Nat) (k : Int) (W : World) : Prop where
  lk : Lk b W0 W
  num : Boxed W b 3 (.int .i64 k)
theorem Ik.low {W0 W W' : World} {b : Nat} {k : Int} (h : Ik W0 b k W) (hb : Below W.heap.size W W') : Ik W0 b k W' := ⟨h.lk.trans (Lk.low hb), boxed_low h.num hb⟩
theorem Ik.put {W0 W : World} {b l : Nat} {k : Int} {q q' : Loop} (h : Ik W0 b k W) (hz : W0.heap.size ≤ l) (hl : W.heap[l]? = some (.loop q)) : Ik W0 b k (W.putObj l (.loop q')) := ⟨h.lk.put _ hz, boxed_put h.num hl⟩
theorem Ik.reco {W0 W W' : World} {b l : Nat} {k : Int} (h : Ik W0 b k W) (hk : Lk l W W') (hz : W0.heap.size ≤ l) (hl : ∃ q, W.heap[l]? = some (.loop q)) : Ik W0 b k W' := by
  refine ⟨h.lk.then hk hz, boxed_lk h.num hk ?_⟩
  obtain ⟨q, hq⟩ := hl
  intro e
  have := h.num
  unfold Boxed at this
  rw [e, hq] at this
  cases this
theorem Ik.set {W0 W : World} {b : Nat} {k : Int} (h : Ik W0 b k W) (k' : Int) : Ik W0 b k' (W.setCell ⟨b, 0, none⟩ (.int .i64 k')) := ⟨h.lk.set _, h.num.set _⟩
theorem Ik.drew {W0 W : World} {b : Nat} {k : Int} (h : Ik W0 b k W) (n : Nat) : Ik W0 b k (W.drewN n) := ⟨h.lk.drew n, h.num⟩
/-- The books and the lists stay while a number is written into its box. -/
theorem kb_draw {W : World} {q b base B n0 : Nat} (y : Value) (h2 : b < base) (hB : n0 ≤ b) : Kb base W ((W.drewN q).setCell ⟨b, 0, none⟩ y) ∧ Mid B n0 W ((W.drewN q).setCell ⟨b, 0, none⟩ y) := by
  have bl : ∀ k, k ≠ b → ((W.drewN q).setCell ⟨b, 0, none⟩ y).heap[k]? = W.heap[k]? := fun k hk => block_set _ _ _ _ _ hk
  have sz : ((W.drewN q).setCell ⟨b, 0, none⟩ y).heap.size = W.heap.size := by simp [World.drewN]
  exact ⟨⟨by omega, fun k o hk h _ => (bl k (by omega)).trans h⟩, ⟨by omega, fun k hk hl => bl k (by omega)⟩⟩
theorem kb_seg {W' W4 W2 : World} {b base B n0 : Nat} (y : Value) (h1 : Below W'.heap.size W' W4) (h2 : Below W4.heap.size W4 W2) (hb : b < base) (hB : n0 ≤ b) (hn : n0 ≤ W'.heap.size) : Kb base W' (W2.setCell ⟨b, 0, none⟩ y) ∧ Mid B n0 W' (W2.setCell ⟨b, 0, none⟩ y) := by
  have hz := h1.size
  have hz2 := h2.size
  have bl : ∀ k, k ≠ b → k < W'.heap.size → (W2.setCell ⟨b, 0, none⟩ y).heap[k]? = W'.heap[k]? := fun k hk hl => (block_set _ _ _ _ _ hk).trans ((h2.block k (by omega)).trans (h1.block k hl))
  have sz : (W2.setCell ⟨b, 0, none⟩ y).heap.size = W2.heap.size := by simp
  exact ⟨⟨by omega, fun k o hk h _ => (bl k (by omega) (lt_blk h)).trans h⟩, ⟨by omega, fun k hk hl => bl k (by omega) (by omega)⟩⟩
/-- What the law lays ahead of its walks. -/
structure Wf (W : World) (b5 b6 b7 b12 B n0 : Nat) (E : Int) (wv x1 x2 : Value) (LA LC : List Lb) : Prop where
  stp : Boxed W b5 3 (.int .i64 E)
  res : Boxed W b6 4 (.bool false)
  want : Boxed W b7 24 wv
  seq : Boxed W b12 31 (diffV B)
  lst : ItemsD W wv (df LA LC)
  c1 : W.cell? ⟨B, 0, none⟩ = some x1
  c2 : W.cell? ⟨B + 1, 0, none⟩ = some x2
  s1 : Sl B n0 W x1 LA
  s2 : Sl B n0 W x2 LC
  hB : B + 1 < n0
  hn : n0 ≤ W.heap.size
  len : (df LA LC).length ≤ 64
theorem Wf.low {W W' : World} {b5 b6 b7 b12 B n0 : Nat} {E : Int} {wv x1 x2 : Value} {LA LC : List Lb} (h : Wf W b5 b6 b7 b12 B n0 E wv x1 x2 LA LC) (hb : Below W.heap.size W W') : Wf W' b5 b6 b7 b12 B n0 E wv x1 x2 LA LC :=
  ⟨boxed_low h.stp hb, boxed_low h.res hb, boxed_low h.want hb, boxed_low h.seq hb, h.lst.low hb, (hb.cell (p := ⟨B, 0, none⟩) (by have := h.hB; have := h.hn; show B < _; omega)).trans h.c1, (hb.cell (p := ⟨B + 1, 0, none⟩) (by have := h.hB; have := h.hn; show B + 1 < _; omega)).trans h.c2, h.s1.low (Mid.of hb h.hn), h.s2.low (Mid.of hb h.hn), h.hB, Nat.le_trans h.hn hb.size, h.len⟩
/-- The difference at a place. -/
theorem item_at {W : World} {v : Value} {L pre : List Df} {t : Df} (h : ItemsD W v L) (hp : pre ++ [t] <+: L) : ∃ wb wo wc, v = .slice (some ⟨wb, wo, none⟩) L.length wc ∧ wb < W.heap.size ∧ W.cell? ⟨wb, wo + pre.length * 5, none⟩ = some (.string t.k) ∧ W.cell? ⟨wb, wo + pre.length * 5 + 1, none⟩ = some (.string t.o) ∧ W.cell? ⟨wb, wo + pre.length * 5 + 2, none⟩ = some (.string t.n) ∧ W.cell? ⟨wb, wo + pre.length * 5 + 3, none⟩ = some (.bool t.had) ∧ W.cell? ⟨wb, wo + pre.length * 5 + 4, none⟩ = some (.bool t.has) := by
  obtain ⟨z, hz⟩ := hp
  subst hz
  obtain ⟨a, c, e, h⟩ := h
  rcases h with h0 | ⟨b, o, rfl, hb, hc⟩
  · simp at h0
  · have := hc pre.length (by simp)
    refine ⟨b, o, c, e, hb, ?_⟩
    simpa using this
theorem at_pre {L pre : List Df} {t : Df} (h : pre ++ [t] <+: L) : ∃ hj : pre.length < L.length, L[pre.length] = t := by
  obtain ⟨z, hz⟩ := h
  subst hz
  exact ⟨by simp, by simp⟩
end Go.Proofs.YtodamoblnlcodaaDoor.L
