import Derived.Test.YtbplmglddinkdaaDoorXS
import Derived.Test.YtbplmglddinkdaaDoorXX
import Derived.Sort.QuietIn
namespace Go.Proofs.YtbplmglddinkdaaDoor.L
open Go.RowKit Go.Shelf
set_option linter.unusedVariables false
attribute [local go_sem] Oper.semAt_some
/-- What the law lays ahead of its walks. -/
structure St (W : World) (b3 b4 b5 b6 b7 b8 X : Nat) (E : Int) (v : Value) (c0 a0 : Nat) (T : List Tok) (s : ByteArray) : Prop where
  early : Boxed W b3 3 (.int .i64 E)
  res : Boxed W b4 4 (.bool false)
  want : Boxed W b5 24 v
  e : Boxed W b6 3 (.int .i64 c0)
  at_ : Boxed W b7 3 (.int .i64 a0)
  walk : Boxed W b8 35 (eachB X)
  src : W.heap[X]? = some (.cells #[.string s] 9 (0, 0))
  lst : TokL W v T
  vars : Vars W
theorem St.low {W W' : World} {b3 b4 b5 b6 b7 b8 X : Nat} {E : Int} {v : Value} {c0 a0 : Nat} {T : List Tok} {s : ByteArray} (h : St W b3 b4 b5 b6 b7 b8 X E v c0 a0 T s) (hb : Below W.heap.size W W') : St W' b3 b4 b5 b6 b7 b8 X E v c0 a0 T s :=
  ⟨boxed_low h.early hb, boxed_low h.res hb, boxed_low h.want hb, boxed_low h.e hb, boxed_low h.at_ hb, boxed_low h.walk hb, (hb.block X (lt_blk h.src)).trans h.src, h.lst.low hb, h.vars.low hb⟩
/-- The rounds' deferred calls. -/
def Ds (Dl : List Nat) : List Deferred := Dl.map fun D => { target := .collected D, args := #[] }
/-- What stands between the rounds. -/
structure Bk (WS W : World) (r b9 : Nat) (Dl : List Nat) : Prop where
  low : Below WS.heap.size WS W
  rnd : Boxed W b9 3 (.int .i64 r)
  hb9 : WS.heap.size ≤ b9
  dl : ∀ D, D ∈ Dl → WS.heap.size ≤ D ∧ W.heap[D]? = some (.deferred (some []))
theorem below_pt {W : World} {B l : Nat} {o : Obj} (hb : B ≤ l) : Below B W (W.putObj l o) :=
  ⟨rfl, rfl, rfl, by rw [World.putObj_size]; exact Nat.le_refl _, fun k hk => World.putObj_heap_other (by omega)⟩
/-- What stands in a round of the first walks. -/
structure Ic (WS W1 W : World) (r b9 : Nat) (Dl : List Nat) (b10 b11 k : Nat) (dn : Bool) : Prop where
  bk : Bk WS W r b9 Dl
  kb : Boxed W b10 3 (.int .i64 k)
  db : Boxed W b11 4 (.bool dn)
  sz : W1.heap.size ≤ W.heap.size
theorem Ic.put {WS W1 W : World} {r b9 : Nat} {Dl : List Nat} {b10 b11 k : Nat} {dn : Bool} {l : Nat} {q q' : Loop} (h : Ic WS W1 W r b9 Dl b10 b11 k dn) (hz : WS.heap.size ≤ l) (hl : W.heap[l]? = some (.loop q)) : Ic WS W1 (W.putObj l (.loop q')) r b9 Dl b10 b11 k dn :=
  ⟨⟨h.bk.low.trans (below_pt hz), boxed_put h.bk.rnd hl, h.bk.hb9, fun D hD => ⟨(h.bk.dl D hD).1, (World.putObj_heap_other (by intro e; have := (h.bk.dl D hD).2; rw [e, hl] at this; cases this)).trans (h.bk.dl D hD).2⟩⟩, boxed_put h.kb hl, boxed_put h.db hl, by rw [World.putObj_size]; exact h.sz⟩
theorem Ic.lk {WS W1 W W' : World} {r b9 : Nat} {Dl : List Nat} {b10 b11 k : Nat} {dn : Bool} {l : Nat} (h : Ic WS W1 W r b9 Dl b10 b11 k dn) (hk : Lk l W W') (hz : WS.heap.size ≤ l) (hl : ∃ q, W.heap[l]? = some (.loop q)) : Ic WS W1 W' r b9 Dl b10 b11 k dn := by
  obtain ⟨q, hl⟩ := hl
  have nb : ∀ b t v, Boxed W b t v → b ≠ l := by
    intro b t v hb e
    unfold Boxed at hb
    rw [e, hl] at hb
    cases hb
  refine ⟨⟨⟨hk.os.trans h.bk.low.os, hk.tape.trans h.bk.low.tape, hk.output.trans h.bk.low.output, Nat.le_trans h.bk.low.size hk.size, fun j hj => (hk.block j (by have := h.bk.low.size; omega) (by omega)).trans (h.bk.low.block j hj)⟩, boxed_lk h.bk.rnd hk (nb _ _ _ h.bk.rnd), h.bk.hb9, fun D hD => ⟨(h.bk.dl D hD).1, (hk.block D (lt_blk (h.bk.dl D hD).2) (by intro e; have := (h.bk.dl D hD).2; rw [e, hl] at this; cases this)).trans (h.bk.dl D hD).2⟩⟩, boxed_lk h.kb hk (nb _ _ _ h.kb), boxed_lk h.db hk (nb _ _ _ h.db), Nat.le_trans h.sz hk.size⟩
theorem Ic.low {WS W1 W W' : World} {r b9 : Nat} {Dl : List Nat} {b10 b11 k : Nat} {dn : Bool} (h : Ic WS W1 W r b9 Dl b10 b11 k dn) (hb : Below W.heap.size W W') : Ic WS W1 W' r b9 Dl b10 b11 k dn :=
  ⟨⟨h.bk.low.trans (hb.mono h.bk.low.size), boxed_low h.bk.rnd hb, h.bk.hb9, fun D hD => ⟨(h.bk.dl D hD).1, (hb.block D (lt_blk (h.bk.dl D hD).2)).trans (h.bk.dl D hD).2⟩⟩, boxed_low h.kb hb, boxed_low h.db hb, Nat.le_trans h.sz hb.size⟩
/-- Two boxes written. -/
theorem Ic.set2 {WS W1 W : World} {r b9 : Nat} {Dl : List Nat} {b10 b11 k k' : Nat} {dn dn' : Bool} (h : Ic WS W1 W r b9 Dl b10 b11 k dn) (n1 : b9 < b10) (n2 : b10 < b11) : Ic WS W1 ((W.setCell ⟨b10, 0, none⟩ (.int .i64 k')).setCell ⟨b11, 0, none⟩ (.bool dn')) r b9 Dl b10 b11 k' dn' := by
  have hb := h.bk.hb9
  have ne : ∀ D, D ∈ Dl → D ≠ b10 ∧ D ≠ b11 := by
    intro D hD
    have hd := (h.bk.dl D hD).2
    constructor
    · intro e; have := h.kb; unfold Boxed at this; rw [← e, hd] at this; cases this
    · intro e; have := h.db; unfold Boxed at this; rw [← e, hd] at this; cases this
  refine ⟨⟨below_set (below_set h.bk.low _ _ _ (by omega)) _ _ _ (by omega), (block_set _ _ _ _ _ (by omega)).trans ((block_set _ _ _ _ _ (by omega)).trans h.bk.rnd), hb, fun D hD => ⟨(h.bk.dl D hD).1, (block_set _ _ _ _ _ (ne D hD).2).trans ((block_set _ _ _ _ _ (ne D hD).1).trans (h.bk.dl D hD).2)⟩⟩, (block_set _ _ _ _ _ (by omega)).trans (h.kb.set _), ?_, ?_⟩
  · exact Boxed.set _ (show Boxed _ b11 4 (.bool dn) from (block_set _ _ _ _ _ (by omega)).trans h.db)
  · have := h.sz
    simpa using this
theorem loop3 {F : Fence} {n : Nat} {P : Program} {Q : Exit → Act → World → Prop} {c : Code} {a : Act} {w : World} (Inv : Nat → Act → World → Prop) (h0 : Inv 0 a w) (hstep : ∀ r a w, r < 3 → Inv r a w → c.wpIn F n P (Exit.then (fun a' w' => Inv (r + 1) a' w') Q) a w) (hend : ∀ a w, Inv 3 a w → c.wpIn F n P (Exit.then (fun _ _ => False) Q) a w) : (Code.loop c).wpIn F n P Q a w := by
  refine wpIn_loop_rounds 4 ?_
  rw [roundsIn_succ]
  refine wpIn_mono (hstep 0 a w (by omega) h0) ?_
  have nx : ∀ (m r : Nat) (e : Exit) (a' : Act) (w' : World), (∀ a w, Inv (r + 1) a w → Code.roundsIn F n P c Q m a w) → Exit.then (fun a' w' => Inv (r + 1) a' w') Q e a' w' → Exit.then (Code.roundsIn F n P c Q m) Q e a' w' := by
    intro m r e a' w' h1 h2
    cases e <;> first | exact h1 _ _ h2 | exact h2
  intro e a' w' h
  refine nx 3 0 e a' w' (fun a w hi => ?_) h
  rw [roundsIn_succ]
  refine wpIn_mono (hstep 1 a w (by omega) hi) ?_
  intro e a' w' h
  refine nx 2 1 e a' w' (fun a w hi => ?_) h
  rw [roundsIn_succ]
  refine wpIn_mono (hstep 2 a w (by omega) hi) ?_
  intro e a' w' h
  refine nx 1 2 e a' w' (fun a w hi => ?_) h
  rw [roundsIn_succ]
  refine wpIn_mono (hend a w hi) ?_
  intro e a' w' h
  cases e <;> first | exact h.elim | exact h
theorem run_store_fn (P : Program) (w : World) (a : Addr) (m : Mode) (f : Fn) (x y : Array Value) : (store a (.func f x y) m).run P w = stored P w a (.func f x y) m := run_store P w a _ m rfl
theorem run_eql_func_nil (w : World) (f : Fn) (a b : Array Value) : (binOp .eql 35 (.func f a b) .nilFunc).run Tryd.prog w = .ok (.bool false) w := by
  have h : ∀ d, (Op.equalIn (d + 1) 35 (.func f a b) .nilFunc).run Tryd.prog w = .ok false w := fun d => by
    simp [Op.equalIn, run_underlying Tryd.underlying35]
  simp only [binOp]
  simp [Op.equal, Op.maxDepth, h 9999]
/-- What a walk that is left leaves; what one that ended in a fault leaves; whether a walk is done. -/
def Stp (WS W1 : World) (r b9 : Nat) (Dl : List Nat) (b10 b11 : Nat) (W : World) : Prop := r = 1 ∧ ∃ k dn, Ic WS W1 W r b9 Dl b10 b11 k dn
def Ict (WS W1 : World) (r b9 : Nat) (Dl : List Nat) (b10 b11 : Nat) (W : World) : Prop := ∃ k, Ic WS W1 W r b9 Dl b10 b11 k true
def dnB (s : ByteArray) (n k : Nat) : Bool := decide ((scanT s).2 = none ∧ k = n)
theorem dnB_none {s : ByteArray} {n k : Nat} (h : (scanT s).2 = none) : dnB s n (k + 1) = ((k : Int) + 1 == (n : Int)) := by
  unfold dnB
  rw [h, Bool.eq_iff_iff]
  simp
  omega
theorem dnB_some {s : ByteArray} {n k : Nat} (h : (scanT s).2 ≠ none) : dnB s n k = false := by
  unfold dnB
  simp [h]
theorem kb_two {W : World} {q b10 b11 base B : Nat} (x y : Value) (h1 : b10 < base) (h2 : b11 < base) (hB : base ≤ B) : Kb base W (((W.drewN q).setCell ⟨b10, 0, none⟩ x).setCell ⟨b11, 0, none⟩ y) ∧ Kp B W (((W.drewN q).setCell ⟨b10, 0, none⟩ x).setCell ⟨b11, 0, none⟩ y) := by
  have bl : ∀ k, base ≤ k → (((W.drewN q).setCell ⟨b10, 0, none⟩ x).setCell ⟨b11, 0, none⟩ y).heap[k]? = W.heap[k]? := fun k hk => (block_set _ _ _ _ _ (by omega)).trans (block_set _ _ _ _ _ (by omega))
  have sz : (((W.drewN q).setCell ⟨b10, 0, none⟩ x).setCell ⟨b11, 0, none⟩ y).heap.size = W.heap.size := by simp [World.drewN]
  exact ⟨⟨by omega, fun k o hk h _ => (bl k hk).trans h⟩, ⟨by omega, fun k hk _ => bl k (by omega)⟩⟩
theorem ex_u {L : Array Value} {d : List Deferred} {f : (Nat → Value) → Act} {p : Prop} (h : f (fun i => L.toList.getD i undef) = ({ tmps := L, defers := d } : Act)) (hp : p) : ∃ u, ({ tmps := L, defers := d } : Act) = f u ∧ p := ⟨_, h.symm, hp⟩
theorem Ic.next {WS W1 W2 : World} {r b9 : Nat} {Dl : List Nat} {b10 b11 k : Nat} {dn : Bool} {D : Nat} {v : Int} (h : Ic WS W1 W2 r b9 Dl b10 b11 k dn) (hD : WS.heap.size ≤ D) (hd : W2.heap[D]? = some (.deferred (some []))) (hv : v = (r : Int) + 1) : Bk WS (W2.alloc (.cells #[.int .i64 v] 3)) (r + 1) W2.heap.size (D :: Dl) := by
  subst hv
  have hb := belowA W2 (.cells #[.int .i64 ((r : Int) + 1)] 3)
  refine ⟨h.bk.low.trans (hb.mono h.bk.low.size), Boxed.new W2 3 _, h.bk.low.size, ?_⟩
  intro D' hD'
  rcases List.mem_cons.1 hD' with rfl | hm
  · exact ⟨hD, (hb.block _ (lt_blk hd)).trans hd⟩
  · exact ⟨(h.bk.dl D' hm).1, (hb.block _ (lt_blk (h.bk.dl D' hm).2)).trans (h.bk.dl D' hm).2⟩
theorem Ic.set1 {WS W1 W : World} {r b9 : Nat} {Dl : List Nat} {b10 b11 k : Nat} {dn dn' : Bool} (h : Ic WS W1 W r b9 Dl b10 b11 k dn) (n1 : b9 < b10) (n2 : b10 < b11) : Ic WS W1 (W.setCell ⟨b11, 0, none⟩ (.bool dn')) r b9 Dl b10 b11 k dn' := by
  have hb := h.bk.hb9
  have ne : ∀ D, D ∈ Dl → D ≠ b11 := by
    intro D hD e
    have hd := (h.bk.dl D hD).2
    have := h.db
    unfold Boxed at this
    rw [← e, hd] at this
    cases this
  refine ⟨⟨below_set h.bk.low _ _ _ (by omega), (block_set _ _ _ _ _ (by omega)).trans h.bk.rnd, hb, fun D hD => ⟨(h.bk.dl D hD).1, (block_set _ _ _ _ _ (ne D hD)).trans (h.bk.dl D hD).2⟩⟩, (block_set _ _ _ _ _ (by omega)).trans h.kb, h.db.set _, ?_⟩
  have := h.sz
  simpa using this
theorem kb_one {W : World} {b11 base : Nat} (y : Value) (h2 : b11 < base) : Kb base W (W.setCell ⟨b11, 0, none⟩ y) :=
  ⟨by simp, fun k o hk h _ => (block_set _ _ _ _ _ (by omega)).trans h⟩
theorem scanT_pos (s : ByteArray) (h : (scanT s).2 = none) : 0 < (scanT s).1.length := by
  unfold scanT at h ⊢
  split at h
  · rename_i hs
    rw [if_pos hs]
    by_cases hl : gapS s 0 < s.size
    · cases ht : tokS s (gapS s 0) with
      | bad c a => rw [scan_bad hl ht] at h; cases h
      | ok t => rw [scan_go hl ht]; simp
    · rw [scan_fin hl]; simp
  · cases h
theorem dnB_zero {s : ByteArray} {n : Nat} (h : n = (scanT s).1.length) : dnB s n 0 = false := by
  unfold dnB
  simp only [decide_eq_false_iff_not]
  rintro ⟨h1, h2⟩
  have := scanT_pos s h1
  omega
theorem Bk.put {WS W : World} {r b9 : Nat} {Dl : List Nat} {l : Nat} {q q' : Loop} (h : Bk WS W r b9 Dl) (hz : WS.heap.size ≤ l) (hl : W.heap[l]? = some (.loop q)) : Bk WS (W.putObj l (.loop q')) r b9 Dl :=
  ⟨h.low.trans (below_pt hz), boxed_put h.rnd hl, h.hb9, fun D hD => ⟨(h.dl D hD).1, (World.putObj_heap_other (by intro e; have := (h.dl D hD).2; rw [e, hl] at this; cases this)).trans (h.dl D hD).2⟩⟩
theorem Bk.keep {WS W W' : World} {r b9 : Nat} {Dl : List Nat} (h : Bk WS W r b9 Dl) (hb : Below W.heap.size W W') : Bk WS W' r b9 Dl :=
  ⟨h.low.trans (hb.mono h.low.size), boxed_low h.rnd hb, h.hb9, fun D hD => ⟨(h.dl D hD).1, (hb.block D (lt_blk (h.dl D hD).2)).trans (h.dl D hD).2⟩⟩
theorem Bk.lk {WS W W' : World} {r b9 : Nat} {Dl : List Nat} {l : Nat} (h : Bk WS W r b9 Dl) (hk : Lk l W W') (hz : WS.heap.size ≤ l) (hl : ∃ q, W.heap[l]? = some (.loop q)) : Bk WS W' r b9 Dl := by
  obtain ⟨q, hl⟩ := hl
  have nb : ∀ b t v, Boxed W b t v → b ≠ l := by
    intro b t v hb e
    unfold Boxed at hb
    rw [e, hl] at hb
    cases hb
  exact ⟨⟨hk.os.trans h.low.os, hk.tape.trans h.low.tape, hk.output.trans h.low.output, Nat.le_trans h.low.size hk.size, fun j hj => (hk.block j (by have := h.low.size; omega) (by omega)).trans (h.low.block j hj)⟩, boxed_lk h.rnd hk (nb _ _ _ h.rnd), h.hb9, fun D hD => ⟨(h.dl D hD).1, (hk.block D (lt_blk (h.dl D hD).2) (by intro e; have := (h.dl D hD).2; rw [e, hl] at this; cases this)).trans (h.dl D hD).2⟩⟩
/-- What stands in a round of the second walk. -/
def Jw (WS W1 : World) (b14 : Nat) (Dl : List Nat) (k : Nat) (W : World) : Prop := Bk WS W k b14 Dl ∧ W1.heap.size ≤ W.heap.size
end Go.Proofs.YtbplmglddinkdaaDoor.L
