import Derived.Test.YtodamoblnlcodaaDoorDno
import Derived.Test.YtodamoblnlcodaaDoorDme
import Derived.Test.YtodamoblnlcodaaDoorQR
import Derived.Sort.QuietIn
namespace Go.Proofs.YtodamoblnlcodaaDoor.L
open Go.RowKit Go.Shelf
set_option linter.unusedVariables false
/-- A block in which a loop keeps its books. -/
def isBk : Obj → Bool
  | .loop _ => true
  | .deferred _ => true
  | _ => false
/-- The books from base on lie as they lay. -/
structure Kb (base : Nat) (W W' : World) : Prop where
  size : W.heap.size ≤ W'.heap.size
  same : ∀ k o, base ≤ k → W.heap[k]? = some o → isBk o = true → W'.heap[k]? = some o
theorem Kb.trans {base : Nat} {A B C : World} (h : Kb base A B) (k : Kb base B C) : Kb base A C := ⟨Nat.le_trans h.size k.size, fun j o hj h1 h2 => k.same j o hj (h.same j o hj h1 h2) h2⟩
theorem Kb.refl (base : Nat) (A : World) : Kb base A A := ⟨Nat.le_refl _, fun _ _ _ h _ => h⟩
theorem lt_blk {W : World} {k : Nat} {o : Obj} (h : W.heap[k]? = some o) : k < W.heap.size := (Array.getElem?_eq_some_iff.1 h).1
theorem Kb.low {base : Nat} {W W' : World} (h : Below W.heap.size W W') : Kb base W W' := ⟨h.size, fun k o _ h1 _ => (h.block k (lt_blk h1)).trans h1⟩
/-- All but the walk's own record lies as it lay. -/
structure Lk (l : Nat) (W W' : World) : Prop where
  os : W'.os = W.os
  tape : W'.tape = W.tape
  output : W'.output = W.output
  size : W.heap.size ≤ W'.heap.size
  block : ∀ k, k < W.heap.size → k ≠ l → W'.heap[k]? = W.heap[k]?
theorem below_pt {W : World} {B l : Nat} {o : Obj} (hb : B ≤ l) : Below B W (W.putObj l o) :=
  ⟨rfl, rfl, rfl, by rw [World.putObj_size]; exact Nat.le_refl _, fun k hk => World.putObj_heap_other (by omega)⟩
theorem boxed_put {W : World} {B : Nat} {t : TypeId} {v : Value} {l : Nat} {r : Loop} {o : Obj} (h : Boxed W B t v) (hl : W.heap[l]? = some (.loop r)) : Boxed (W.putObj l o) B t v := by
  unfold Boxed at h ⊢
  rw [World.putObj_heap_other (by intro e; rw [e, hl] at h; cases h)]
  exact h
theorem boxed_lk {W W' : World} {B : Nat} {t : TypeId} {v : Value} {l : Nat} (h : Boxed W B t v) (hk : Lk l W W') (hl : B ≠ l) : Boxed W' B t v := (hk.block B h.lt hl).trans h
theorem boxed_low {W W' : World} {B : Nat} {t : TypeId} {v : Value} (h : Boxed W B t v) (hk : Below W.heap.size W W') : Boxed W' B t v := (hk.block B h.lt).trans h
theorem block_set (W : World) (b o : Nat) (v : Value) (k : Nat) (h : k ≠ b) : (W.setCell ⟨b, o, none⟩ v).heap[k]? = W.heap[k]? := by
  rw [Go.Sort.setCell_eq]
  show (W.heap.modify b _)[k]? = _
  rw [Array.getElem?_modify, if_neg (fun e => h e.symm)]
theorem tcells {W : World} {b : Nat} {a c d e f : Value} {ty : TypeId} (h : W.heap[b]? = some (.cells #[a, c, d, e, f] ty (0, 0))) :
    W.cell? ⟨b, 0, none⟩ = some a ∧ W.cell? ⟨b, 1, none⟩ = some c ∧ W.cell? ⟨b, 2, none⟩ = some d ∧ W.cell? ⟨b, 3, none⟩ = some e ∧ W.cell? ⟨b, 4, none⟩ = some f := by
  refine ⟨?_, ?_, ?_, ?_, ?_⟩ <;> simp [World.cell?, h]
/-- The walks' deferred calls. -/
def Ds (Dl : List Nat) : List Deferred := Dl.map fun D => { target := .collected D, args := #[] }
theorem run_store_fn (P : Program) (w : World) (a : Addr) (m : Mode) (f : Fn) (x y : Array Value) : (store a (.func f x y) m).run P w = stored P w a (.func f x y) m := run_store P w a _ m rfl
theorem ex_u {L : Array Value} {d : List Deferred} {f : (Nat → Value) → Act} {p : Prop} (h : f (fun i => L.toList.getD i undef) = ({ tmps := L, defers := d } : Act)) (hp : p) : ∃ u, ({ tmps := L, defers := d } : Act) = f u ∧ p := ⟨_, h.symm, hp⟩
/-- Diff's func over the boxes B, B + 1. -/
def diffV (B : Nat) : Value := .func (.func 19) #[] #[.pointer (some ⟨B, 0, none⟩), .pointer (some ⟨B + 1, 0, none⟩)]
theorem leaveL (Q : Ending → World → Prop) (tmps : Array Value) (rb : Nat) (h4 : tmps[6]?.getD undef = .pointer (some ⟨rb, 0, none⟩)) (w : World) (hQ : ∀ w', Below w.heap.size w w' → Q (.returned (.bool true)) w') :
    ∀ (Dl : List Nat) (W : World), Dl.Nodup → (∀ D, D ∈ Dl → w.heap.size ≤ D ∧ W.heap[D]? = some (.deferred (some []))) → Boxed W rb 4 (.bool true) → Below w.heap.size w W →
      LeavesInM Fence.wide 4 Tryd.prog Tryd.f3 tmps Q (Ds Dl) .returning W
  | [], W, _, _, xr, hb => by
    have xc := xr.cell
    simp [Ds, LeavesInM, LeavesIn, results, Tryd.results3, go_sem, h4, xc]
    exact hQ W hb
  | D :: Dl, W, hn, hd, xr, hb => by
    have h0 := hd D (List.mem_cons_self ..)
    have hn' := List.nodup_cons.1 hn
    refine ⟨by simp, .inl ⟨_, _, rfl, run_takeDeferred h0.2, ?_⟩⟩
    refine leaveL Q tmps rb h4 w hQ Dl _ hn'.2 (fun D' hm => ⟨(hd D' (List.mem_cons_of_mem _ hm)).1, (World.putObj_heap_other (by intro e; subst e; exact hn'.1 hm)).trans (hd D' (List.mem_cons_of_mem _ hm)).2⟩) ?_ (hb.trans (below_pt h0.1))
    refine (World.putObj_heap_other ?_).trans xr
    intro e
    have := h0.2
    unfold Boxed at xr
    rw [← e, xr] at this
    cases this
end Go.Proofs.YtodamoblnlcodaaDoor.L
