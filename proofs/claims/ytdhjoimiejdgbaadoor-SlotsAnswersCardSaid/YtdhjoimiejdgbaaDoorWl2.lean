import Derived.Test.YtdhjoimiejdgbaaDoorTwo
namespace Go.Proofs.YtdhjoimiejdgbaaDoor.L
open Go.RowKit Bs Go.Maps
set_option linter.unusedVariables false
theorem OwnD.setO {w : World} {v : Value} {d : List Dr} (o : OwnD w v d) {g : Nat} {cur : Array Value} (hg : w.heap[g]? = some (.cells cur 35 (0, 0))) (j : Nat) (x : Value) : OwnD (w.setCell ⟨g, j, none⟩ x) v d :=
  own_stays o (fun k hk => set_other _ _ (fun e => by
    subst e
    obtain ⟨cur2, hc2⟩ := o.kind hk
    rw [hg] at hc2
    injection hc2 with e
    injection e with _ e2 _
    exact absurd e2 (by decide)))
/-- A box of the document's table is written. -/
theorem Wh.setO {w0 w : World} {B : Nat} {st : Nat → St} (h : Wh w0 w B st) {g : Nat} {cur : Array Value} (hg : w.heap[g]? = some (.cells cur 35 (0, 0))) (hw : w0.heap.size ≤ g) (j : Nat) (x : Value) : Wh w0 (w.setCell ⟨g, j, none⟩ x) B st := by
  obtain ⟨cb, hc, hs, r⟩ := h.bb
  have hB : B ≠ g := fun e => by
    subst e
    rw [hg] at hc
    injection hc with e
    injection e with _ e2 _
    exact absurd e2 (by decide)
  refine ⟨⟨cb, (set_other _ _ hB).trans hc, hs, r⟩, fun i hi => (h.tq i hi).frame (fun k hk => set_other _ _ (fun e => by subst e; exact (h.tq i hi).not hg (by decide) hk)), fun i hi => (h.od i hi).setO hg j x, h.ap, h.lo.trans (below_set (Below.refl _ _) _ _ _ hw), h.hB, h.fa⟩
/-- The box b of the document's table, with its two cells. -/
structure Yb (w0 Y : World) (B : Nat) (st : Nat → St) (b : Nat) (m : Int) (v : Value) (d : List Dr) : Prop where
  wh : Wh w0 Y B st
  od : OwnD Y v d
  y0 : Y.cell? ⟨b, 0, none⟩ = some (.int .i64 m)
  y1 : Y.cell? ⟨b, 1, none⟩ = some v
theorem Yb.one {w0 w3 : World} {B : Nat} {st : Nat → St} {b : Nat} {m : Int} {v : Value} {d : List Dr} (h : Wh w0 w3 B st) (o : OwnD w3 v d) (bx : w3.heap[b]? = some (.cells #[.int .i64 0, .slice none 0 0] 35 (0, 0))) (hw : w0.heap.size ≤ b) : Yb w0 ((w3.setCell ⟨b, 0, none⟩ (.int .i64 m)).setCell ⟨b, 1, none⟩ v) B st b m v d := by
  have b1 := cellSet bx 0 (.int .i64 m)
  have b2 := cellSet b1 1 v
  refine ⟨(h.setO bx hw _ _).setO b1 hw _ _, (o.setO bx _ _).setO b1 _ _, ?_, ?_⟩
  · rw [cell_of_row _ b 0 _ _ _ b2]; rfl
  · rw [cell_of_row _ b 1 _ _ _ b2]; rfl
theorem Yb.two {w0 w3 : World} {B : Nat} {st : Nat → St} {m : Int} {v : Value} {d : List Dr} (h : Wh w0 w3 B st) (o : OwnD w3 v d) : Yb w0 (w3.alloc (.cells #[.int .i64 m, v] 35)) B st w3.heap.size m v d := by
  have bl := (Below.refl w3.heap.size w3).alloc (Nat.le_refl _) (.cells #[.int .i64 m, v] 35)
  have b2 : (w3.alloc (.cells #[.int .i64 m, v] 35)).heap[w3.heap.size]? = some (.cells #[.int .i64 m, v] 35) := heap_alloc_new w3 _
  refine ⟨h.low bl, o.low bl, ?_, ?_⟩
  · rw [cell_of_row _ _ 0 _ _ _ b2]; rfl
  · rw [cell_of_row _ _ 1 _ _ _ b2]; rfl
theorem Yb.end {w0 Y : World} {B : Nat} {st : Nat → St} {b : Nat} {v : Value} {d : List Dr} {i p m : Nat} {l l' : List Rw} {F F' : List Nat} {v0 : Value} {d0 : List Dr} (hi : i < 4) (hst : st i = ⟨.pointer (some ⟨p, 0, none⟩), m, l, F, (m : Int), v0, d0⟩) (hr : Re st) (y : Yb w0 Y B (upd st i { st i with l := l', F := F' }) b (m : Int) v d) (hre : Rel l' d) :
    ∃ st', Wh w0 ((Y.setCell ⟨B, 4 + i * 2, none⟩ (.int .i64 (m : Int))).setCell ⟨B, 4 + i * 2 + 1, none⟩ v) B st' ∧ Re st' := by
  refine ⟨_, y.wh.setM hi y.od, ?_⟩
  rw [upd_twice, upd_same]
  refine hr.upd (i := i) ?_ ?_
  · exact hre
  · right
    rw [hst]
end Go.Proofs.YtdhjoimiejdgbaaDoor.L
