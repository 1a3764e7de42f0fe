import Derived.Test.YtfkijmmflpnncaaDoorTh2
import Derived.Deep.RegionHeld3
import Derived.Test.YtfkijmmflpnncaaDoorMgAE
namespace Go.Proofs.YtfkijmmflpnncaaDoor.L
open Go.RowKit Bs Go.Maps
set_option linter.unusedVariables false
theorem kindsLT {w : World} {p m : Nat} {l : List LT.Rw} {F : List Nat} (h : LT.Tb w p m l F) {k : Nat} (hk : k ∈ F) : (∃ es c, w.heap[k]? = some (.map es c)) ∨ ∃ cur t, w.heap[k]? = some (.cells cur t (0, 0)) ∧ (t = 72 ∨ t = 80 ∨ t = 97) := by
  obtain ⟨mb, rs, ks, D, ws, h1, h2, rfl⟩ := h
  unfold fp at hk
  simp at hk
  rcases hk with rfl | rfl | hk | hk
  · exact Or.inr ⟨_, _, h1.hp, Or.inl rfl⟩
  · obtain ⟨es, clock, hb, _⟩ := h1.hm
    exact Or.inl ⟨es, clock, hb⟩
  · rcases h1.hr.2 with ⟨e, _⟩ | ⟨g', cap, cur, e, _, hh, _⟩
    · rw [e] at hk; simp [Value.ownBlock] at hk
    · rw [e] at hk; simp [Value.ownBlock] at hk; subst hk; exact Or.inr ⟨cur, _, hh, Or.inr (Or.inl rfl)⟩
  · rcases h1.hk.2 with ⟨e, _⟩ | ⟨g', cap, cur, e, _, hh, _⟩
    · rw [e] at hk; simp [Value.ownBlock] at hk
    · rw [e] at hk; simp [Value.ownBlock] at hk; subst hk; exact Or.inr ⟨cur, _, hh, Or.inr (Or.inr rfl)⟩
theorem notLT {w : World} {p m : Nat} {l : List LT.Rw} {F : List Nat} (h : LT.Tb w p m l F) {g : Nat} {cur : Array Value} {t : TypeId} (hg : w.heap[g]? = some (.cells cur t (0, 0))) (ht : t ≠ 72 ∧ t ≠ 80 ∧ t ≠ 97) : g ∉ F := fun hk => by
  rcases kindsLT h hk with ⟨es, c, e⟩ | ⟨cur', t', e, ht'⟩
  · rw [hg] at e; cases e
  · rw [hg] at e
    injection e with e
    injection e with _ e2 _
    rcases ht' with q | q | q
    · exact ht.1 (e2.trans q)
    · exact ht.2.1 (e2.trans q)
    · exact ht.2.2 (e2.trans q)
theorem kindsLS {w : World} {p m : Nat} {l : List LS.Rw} {F : List Nat} (h : LS.Tb w p m l F) {k : Nat} (hk : k ∈ F) : (∃ es c, w.heap[k]? = some (.map es c)) ∨ ∃ cur t, w.heap[k]? = some (.cells cur t (0, 0)) ∧ (t = 75 ∨ t = 82 ∨ t = 97) := by
  obtain ⟨mb, rs, ks, D, ws, h1, h2, rfl⟩ := h
  unfold fp at hk
  simp at hk
  rcases hk with rfl | rfl | hk | hk
  · exact Or.inr ⟨_, _, h1.hp, Or.inl rfl⟩
  · obtain ⟨es, clock, hb, _⟩ := h1.hm
    exact Or.inl ⟨es, clock, hb⟩
  · rcases h1.hr.2 with ⟨e, _⟩ | ⟨g', cap, cur, e, _, hh, _⟩
    · rw [e] at hk; simp [Value.ownBlock] at hk
    · rw [e] at hk; simp [Value.ownBlock] at hk; subst hk; exact Or.inr ⟨cur, _, hh, Or.inr (Or.inl rfl)⟩
  · rcases h1.hk.2 with ⟨e, _⟩ | ⟨g', cap, cur, e, _, hh, _⟩
    · rw [e] at hk; simp [Value.ownBlock] at hk
    · rw [e] at hk; simp [Value.ownBlock] at hk; subst hk; exact Or.inr ⟨cur, _, hh, Or.inr (Or.inr rfl)⟩
theorem notLS {w : World} {p m : Nat} {l : List LS.Rw} {F : List Nat} (h : LS.Tb w p m l F) {g : Nat} {cur : Array Value} {t : TypeId} (hg : w.heap[g]? = some (.cells cur t (0, 0))) (ht : t ≠ 75 ∧ t ≠ 82 ∧ t ≠ 97) : g ∉ F := fun hk => by
  rcases kindsLS h hk with ⟨es, c, e⟩ | ⟨cur', t', e, ht'⟩
  · rw [hg] at e; cases e
  · rw [hg] at e
    injection e with e
    injection e with _ e2 _
    rcases ht' with q | q | q
    · exact ht.1 (e2.trans q)
    · exact ht.2.1 (e2.trans q)
    · exact ht.2.2 (e2.trans q)
theorem OwnD.kind {w : World} {v : Value} {d : List Dr} (h : OwnD w v d) {g : Nat} (hg : v.ownBlock = some g) : ∃ cur, w.heap[g]? = some (.cells cur 52 (0, 0)) := by
  rcases h.2 with ⟨e, _⟩ | ⟨g', cap, cur, e, _, hh, _⟩
  · rw [e] at hg; simp [Value.ownBlock] at hg
  · rw [e] at hg; simp [Value.ownBlock] at hg; subst hg; exact ⟨cur, hh⟩
/-- Two tables beside one another, above a mark. -/
structure Sx (w0 W : World) (lt : List LT.Rw) (lu : List LS.Rw) (pt pu : Nat) (Ft Fu : List Nat) : Prop where
  t : LT.Tb W pt 5 lt Ft
  u : LS.Tb W pu 5 lu Fu
  ap : ∀ k ∈ Ft, k ∉ Fu
  ft : ∀ k ∈ Ft, w0.heap.size ≤ k
  fu : ∀ k ∈ Fu, w0.heap.size ≤ k
  lo : Below w0.heap.size w0 W
theorem Sx.low {w0 W W' : World} {lt : List LT.Rw} {lu : List LS.Rw} {pt pu : Nat} {Ft Fu : List Nat} (h : Sx w0 W lt lu pt pu Ft Fu) (hb : Below W.heap.size W W') : Sx w0 W' lt lu pt pu Ft Fu :=
  ⟨h.t.low hb, h.u.low hb, h.ap, h.ft, h.fu, h.lo.trans (hb.mono h.lo.size)⟩
theorem Sx.onT {w0 W W' : World} {lt lt' : List LT.Rw} {lu : List LS.Rw} {pt pu : Nat} {Ft Fu Ft' : List Nat} (h : Sx w0 W lt lu pt pu Ft Fu) (T : LT.Tb W' pt 5 lt' Ft') (M : Mv Ft Ft' W W') : Sx w0 W' lt' lu pt pu Ft' Fu := by
  have z := h.lo.size
  refine ⟨T, h.u.frame (fun k hk => M.1.block k (h.u.lt k hk) (fun hc => h.ap k hc hk)), fun k hk hc => ?_, fun k hk => ?_, h.fu, h.lo.trans (M.1.below z h.ft)⟩
  · rcases M.2 k hk with q | q
    · exact h.ap k q hc
    · have := h.u.lt k hc; omega
  · rcases M.2 k hk with q | q
    · exact h.ft k q
    · omega
theorem Sx.onU {w0 W W' : World} {lt : List LT.Rw} {lu lu' : List LS.Rw} {pt pu : Nat} {Ft Fu Fu' : List Nat} (h : Sx w0 W lt lu pt pu Ft Fu) (T : LS.Tb W' pu 5 lu' Fu') (M : Mv Fu Fu' W W') : Sx w0 W' lt lu' pt pu Ft Fu' := by
  have z := h.lo.size
  refine ⟨h.t.frame (fun k hk => M.1.block k (h.t.lt k hk) (fun hc => h.ap k hk hc)), T, fun k hk hc => ?_, h.ft, fun k hk => ?_, h.lo.trans (M.1.below z h.fu)⟩
  · rcases M.2 k hc with q | q
    · exact h.ap k hk q
    · have := h.t.lt k hk; omega
  · rcases M.2 k hk with q | q
    · exact h.fu k q
    · omega
/-- A box that is no part of a table is written. -/
theorem Sx.box {w0 W W' : World} {lt : List LT.Rw} {lu : List LS.Rw} {pt pu : Nat} {Ft Fu : List Nat} (h : Sx w0 W lt lu pt pu Ft Fu) {b : Nat} (hb : b ∉ Ft) (hc : b ∉ Fu) (hk : ∀ k, k ≠ b → W'.heap[k]? = W.heap[k]?) (lo : Below w0.heap.size w0 W') : Sx w0 W' lt lu pt pu Ft Fu :=
  ⟨h.t.frame (fun k hm => hk k (fun e => hb (e ▸ hm))), h.u.frame (fun k hm => hk k (fun e => hc (e ▸ hm))), h.ap, h.ft, h.fu, lo⟩
/-- What no table is stays, whatever is done to one. -/
structure Oth (t : TypeId) : Prop where
  a : t ≠ 72 ∧ t ≠ 80 ∧ t ≠ 97
  b : t ≠ 75 ∧ t ≠ 82 ∧ t ≠ 97
theorem othM : Oth 35 := ⟨by decide, by decide⟩
theorem othO : Oth 39 := ⟨by decide, by decide⟩
theorem othR : Oth 52 := ⟨by decide, by decide⟩
theorem Sx.keepT {w0 W W' : World} {lt : List LT.Rw} {lu : List LS.Rw} {pt pu : Nat} {Ft Fu Ft' : List Nat} (h : Sx w0 W lt lu pt pu Ft Fu) (M : Mv Ft Ft' W W') {k : Nat} {cur : Array Value} {t : TypeId} (ho : Oth t) (hk : W.heap[k]? = some (.cells cur t (0, 0))) : W'.heap[k]? = some (.cells cur t (0, 0)) :=
  (M.1.block k (lt_of_block hk) (notLT h.t hk ho.a)).trans hk
theorem Sx.keepU {w0 W W' : World} {lt : List LT.Rw} {lu : List LS.Rw} {pt pu : Nat} {Ft Fu Fu' : List Nat} (h : Sx w0 W lt lu pt pu Ft Fu) (M : Mv Fu Fu' W W') {k : Nat} {cur : Array Value} {t : TypeId} (ho : Oth t) (hk : W.heap[k]? = some (.cells cur t (0, 0))) : W'.heap[k]? = some (.cells cur t (0, 0)) :=
  (M.1.block k (lt_of_block hk) (notLS h.u hk ho.b)).trans hk
theorem Sx.ownT {w0 W W' : World} {lt : List LT.Rw} {lu : List LS.Rw} {pt pu : Nat} {Ft Fu Ft' : List Nat} (h : Sx w0 W lt lu pt pu Ft Fu) (M : Mv Ft Ft' W W') {v : Value} {d : List Dr} (O : OwnD W v d) : OwnD W' v d :=
  own_stays O (fun g hg => by obtain ⟨cur, hc⟩ := O.kind hg; exact (h.keepT M othR hc).trans hc.symm)
theorem Sx.ownU {w0 W W' : World} {lt : List LT.Rw} {lu : List LS.Rw} {pt pu : Nat} {Ft Fu Fu' : List Nat} (h : Sx w0 W lt lu pt pu Ft Fu) (M : Mv Fu Fu' W W') {v : Value} {d : List Dr} (O : OwnD W v d) : OwnD W' v d :=
  own_stays O (fun g hg => by obtain ⟨cur, hc⟩ := O.kind hg; exact (h.keepU M othR hc).trans hc.symm)
theorem cells_low {W W' : World} {k : Nat} {cur : Array Value} {t : TypeId} (hk : W.heap[k]? = some (.cells cur t (0, 0))) (hb : Below W.heap.size W W') : W'.heap[k]? = some (.cells cur t (0, 0)) := (hb.block k (lt_of_block hk)).trans hk
/-- The law's boxes: m, the call, n. -/
structure Fr (w0 W : World) (bm bo bn : Nat) (v vn : Value) (o : Opd) : Prop where
  m : W.heap[bm]? = some (.cells #[.int .i64 5, v] 35 (0, 0))
  op : W.heap[bo]? = some (.cells #[.int .i64 o.k, .int .i64 o.a, .int .i64 o.t, .string o.s, .int .i64 o.v] 39 (0, 0))
  n : W.heap[bn]? = some (.cells #[.int .i64 5, vn] 35 (0, 0))
  mo : bm < bo
  on : bo < bn
  hm : w0.heap.size ≤ bm
theorem Fr.low {w0 W W' : World} {bm bo bn : Nat} {v vn : Value} {o : Opd} (h : Fr w0 W bm bo bn v vn o) (hb : Below W.heap.size W W') : Fr w0 W' bm bo bn v vn o := ⟨cells_low h.m hb, cells_low h.op hb, cells_low h.n hb, h.mo, h.on, h.hm⟩
theorem Fr.onT {w0 W W' : World} {lt : List LT.Rw} {lu : List LS.Rw} {pt pu : Nat} {Ft Fu Ft' : List Nat} {bm bo bn : Nat} {v vn : Value} {o : Opd} (h : Fr w0 W bm bo bn v vn o) (s : Sx w0 W lt lu pt pu Ft Fu) (M : Mv Ft Ft' W W') : Fr w0 W' bm bo bn v vn o := ⟨s.keepT M othM h.m, s.keepT M othO h.op, s.keepT M othM h.n, h.mo, h.on, h.hm⟩
theorem Fr.onU {w0 W W' : World} {lt : List LT.Rw} {lu : List LS.Rw} {pt pu : Nat} {Ft Fu Fu' : List Nat} {bm bo bn : Nat} {v vn : Value} {o : Opd} (h : Fr w0 W bm bo bn v vn o) (s : Sx w0 W lt lu pt pu Ft Fu) (M : Mv Fu Fu' W W') : Fr w0 W' bm bo bn v vn o := ⟨s.keepU M othM h.m, s.keepU M othO h.op, s.keepU M othM h.n, h.mo, h.on, h.hm⟩
theorem cell_in {W : World} {k j : Nat} {cur : Array Value} {t : TypeId} {x : Value} (hk : W.heap[k]? = some (.cells cur t (0, 0))) (hx : cur[j]? = some x) : W.cell? ⟨k, j, none⟩ = some x := by
  unfold World.cell?
  rw [hk]
  simpa using hx
theorem free_in {W : World} {k j : Nat} {cur : Array Value} {t : TypeId} (hk : W.heap[k]? = some (.cells cur t (0, 0))) : W.frozen? ⟨k, j, none⟩ = false := frozen_of_row W k j _ _ hk
theorem cellSet {w : World} {B : Nat} {cur : Array Value} {t : TypeId} (h : w.heap[B]? = some (.cells cur t (0, 0))) (o : Nat) (v : Value) : (w.setCell ⟨B, o, none⟩ v).heap[B]? = some (.cells (cur.setIfInBounds o v) t (0, 0)) := set_block v h
/-- Both cells of a box of the document's table are written. -/
theorem set_box {W : World} {b : Nat} {x y u v : Value} (hb : W.heap[b]? = some (.cells #[x, y] 35 (0, 0))) : ((W.setCell ⟨b, 0, none⟩ u).setCell ⟨b, 1, none⟩ v).heap[b]? = some (.cells #[u, v] 35 (0, 0)) ∧ ∀ k, k ≠ b → ((W.setCell ⟨b, 0, none⟩ u).setCell ⟨b, 1, none⟩ v).heap[k]? = W.heap[k]? := by
  constructor
  · have b1 := cellSet hb 0 u
    have b2 := cellSet b1 1 v
    rw [b2]
    rfl
  · intro k hk
    exact (set_other _ _ hk).trans (set_other _ _ hk)
theorem OwnD.box {w : World} {v : Value} {d : List Dr} (o : OwnD w v d) {g : Nat} {cur : Array Value} (hg : w.heap[g]? = some (.cells cur 35 (0, 0))) {w' : World} (hk : ∀ k, k ≠ g → w'.heap[k]? = w.heap[k]?) : OwnD w' v d :=
  own_stays o (fun k hm => hk k (fun e => by
    subst e
    obtain ⟨cur2, hc2⟩ := o.kind hm
    rw [hg] at hc2
    injection hc2 with e
    injection e with _ e2 _
    exact absurd e2 (by decide)))
/-- n's box is written. -/
theorem Fr.setN {w0 W : World} {bm bo bn : Nat} {v vn : Value} {o : Opd} (h : Fr w0 W bm bo bn v vn o) (x : Value) : Fr w0 ((W.setCell ⟨bn, 0, none⟩ (.int .i64 5)).setCell ⟨bn, 1, none⟩ x) bm bo bn v x o := by
  obtain ⟨b1, b2⟩ := set_box (u := .int .i64 5) (v := x) h.n
  have := h.mo
  have := h.on
  exact ⟨(b2 _ (by omega)).trans h.m, (b2 _ (by omega)).trans h.op, b1, h.mo, h.on, h.hm⟩
theorem Fr.setM {w0 W : World} {bm bo bn : Nat} {v vn : Value} {o : Opd} (h : Fr w0 W bm bo bn v vn o) (x : Value) : Fr w0 ((W.setCell ⟨bm, 0, none⟩ (.int .i64 5)).setCell ⟨bm, 1, none⟩ x) bm bo bn x vn o := by
  obtain ⟨b1, b2⟩ := set_box (u := .int .i64 5) (v := x) h.m
  have := h.mo
  have := h.on
  exact ⟨b1, (b2 _ (by omega)).trans h.op, (b2 _ (by omega)).trans h.n, h.mo, h.on, h.hm⟩
theorem Sx.setB {w0 W : World} {lt : List LT.Rw} {lu : List LS.Rw} {pt pu : Nat} {Ft Fu : List Nat} (h : Sx w0 W lt lu pt pu Ft Fu) {b : Nat} {x y : Value} (hb : W.heap[b]? = some (.cells #[x, y] 35 (0, 0))) (hw : w0.heap.size ≤ b) (u v : Value) : Sx w0 ((W.setCell ⟨b, 0, none⟩ u).setCell ⟨b, 1, none⟩ v) lt lu pt pu Ft Fu :=
  h.box (notLT h.t hb othM.a) (notLS h.u hb othM.b) (set_box hb).2 (below_set (below_set h.lo _ _ _ hw) _ _ _ hw)
end Go.Proofs.YtfkijmmflpnncaaDoor.L
