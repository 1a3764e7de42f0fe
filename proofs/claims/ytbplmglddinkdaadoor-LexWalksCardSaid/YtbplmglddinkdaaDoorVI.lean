import Derived.Test.YtbplmglddinkdaaDoorVV
import Derived.Test.YtbplmglddinkdaaDoorQR
namespace Go.Proofs.YtbplmglddinkdaaDoor.L
open Go.RowKit Go.Shelf
set_option linter.unusedVariables false
/-- What stands in a round of the walk within the second walk. -/
def Iw (W4 : World) (b j : Nat) (W : World) : Prop := Below b W4 W ∧ Boxed W b 3 (.int .i64 j)
theorem Iw.put {W4 W : World} {b j l : Nat} {q q' : Loop} (h : Iw W4 b j W) (hz : b ≤ l) (hl : W.heap[l]? = some (.loop q)) : Iw W4 b j (W.putObj l (.loop q')) := ⟨h.1.trans (below_pt hz), boxed_put h.2 hl⟩
theorem Iw.lk {W4 W W' : World} {b j l : Nat} (h : Iw W4 b j W) (hk : Lk l W W') (hz : b ≤ l) (hl : ∃ q, W.heap[l]? = some (.loop q)) : Iw W4 b j W' := by
  obtain ⟨q, hl⟩ := hl
  refine ⟨⟨hk.os.trans h.1.os, hk.tape.trans h.1.tape, hk.output.trans h.1.output, Nat.le_trans h.1.size hk.size, fun i hi => (hk.block i (by have := h.2.lt; omega) (by omega)).trans (h.1.block i hi)⟩, boxed_lk h.2 hk ?_⟩
  intro e
  have := h.2
  unfold Boxed at this
  rw [e, hl] at this
  cases this
theorem Iw.set {W4 W : World} {b j j' : Nat} (h : Iw W4 b j W) : Iw W4 b j' (W.setCell ⟨b, 0, none⟩ (.int .i64 j')) := ⟨below_set h.1 _ _ _ (Nat.le_refl _), h.2.set _⟩
theorem kb_draw {W : World} {q b base B : Nat} (y : Value) (h2 : b < base) (hB : base ≤ B) : Kb base W ((W.drewN q).setCell ⟨b, 0, none⟩ y) ∧ Kp B W ((W.drewN q).setCell ⟨b, 0, none⟩ y) := by
  have bl : ∀ k, base ≤ k → ((W.drewN q).setCell ⟨b, 0, none⟩ y).heap[k]? = W.heap[k]? := fun k hk => block_set _ _ _ _ _ (by omega)
  have sz : ((W.drewN q).setCell ⟨b, 0, none⟩ y).heap.size = W.heap.size := by simp [World.drewN]
  exact ⟨⟨by omega, fun k o hk h _ => (bl k hk).trans h⟩, ⟨by omega, fun k hk _ => bl k (by omega)⟩⟩
theorem kb_seg {W' W4 W2 : World} {b base B : Nat} (y : Value) (h1 : Below W'.heap.size W' W4) (h2 : Below W4.heap.size W4 W2) (hb : b < base) (hB : base ≤ B) : Kb base W' (W2.setCell ⟨b, 0, none⟩ y) ∧ Kp B W' (W2.setCell ⟨b, 0, none⟩ y) := by
  have hz := h1.size
  have hz2 := h2.size
  have bl : ∀ k, base ≤ k → k < W'.heap.size → (W2.setCell ⟨b, 0, none⟩ y).heap[k]? = W'.heap[k]? := fun k hk hl => (block_set _ _ _ _ _ (by omega)).trans ((h2.block k (by omega)).trans (h1.block k hl))
  have sz : (W2.setCell ⟨b, 0, none⟩ y).heap.size = W2.heap.size := by simp
  exact ⟨⟨by omega, fun k o hk h _ => (bl k hk (lt_blk h)).trans h⟩, ⟨by omega, fun k hk hl => bl k (by omega) hl⟩⟩
theorem leaveL (Q : Ending → World → Prop) (tmps : Array Value) (rb : Nat) (h4 : tmps[4]?.getD undef = .pointer (some ⟨rb, 0, none⟩)) (w : World) (hQ : ∀ w', Below w.heap.size w w' → Q (.returned (.bool true)) w') :
    ∀ (Dl : List Nat) (W : World), Dl.Nodup → (∀ D, D ∈ Dl → w.heap.size ≤ D ∧ W.heap[D]? = some (.deferred (some []))) → Boxed W rb 4 (.bool true) → Below w.heap.size w W →
      LeavesInM Fence.wide 4 Tryd.prog Tryd.f4 tmps Q (Ds Dl) .returning W
  | [], W, _, _, xr, hb => by
    have xc := xr.cell
    simp [Ds, LeavesInM, LeavesIn, results, Tryd.results4, go_sem, h4, xc]
    exact hQ W hb
  | D :: Dl, W, hn, hd, xr, hb => by
    have h0 := hd D (List.mem_cons_self ..)
    have hn' := List.nodup_cons.1 hn
    refine ⟨by simp, .inl ⟨_, _, rfl, run_takeDeferred h0.2, ?_⟩⟩
    refine leaveL Q tmps rb h4 w hQ Dl _ hn'.2 (fun D' hm => ⟨(hd D' (List.mem_cons_of_mem _ hm)).1, (World.putObj_heap_other (by intro e; subst e; exact hn'.1 hm)).trans (hd D' (List.mem_cons_of_mem _ hm)).2⟩) ?_ (hb.trans (below_pt h0.1))
    refine (World.putObj_heap_other ?_).trans xr
    intro e
    have := h0.2
    unfold Boxed at xr
    rw [← e, xr] at this
    cases this
theorem Bk.set {WS W : World} {r r' b9 : Nat} {Dl : List Nat} (h : Bk WS W r b9 Dl) : Bk WS (W.setCell ⟨b9, 0, none⟩ (.int .i64 r')) r' b9 Dl := by
  refine ⟨below_set h.low _ _ _ h.hb9, h.rnd.set _, h.hb9, fun D hD => ⟨(h.dl D hD).1, (block_set _ _ _ _ _ ?_).trans (h.dl D hD).2⟩⟩
  intro e
  have hd := (h.dl D hD).2
  have := h.rnd
  unfold Boxed at this
  rw [← e, hd] at this
  cases this
end Go.Proofs.YtbplmglddinkdaaDoor.L
