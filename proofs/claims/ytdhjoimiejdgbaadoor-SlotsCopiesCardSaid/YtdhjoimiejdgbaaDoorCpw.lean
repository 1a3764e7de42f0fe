import Derived.Test.YtdhjoimiejdgbaaDoorCpf
import Derived.Test.YtdhjoimiejdgbaaDoorAft
import Derived.Test.YtdhjoimiejdgbaaDoorTol
namespace Go.Proofs.YtdhjoimiejdgbaaDoor.L
open Go.RowKit Bs Go.Maps
set_option linter.unusedVariables false
/-- A table beside the document's, above a mark. -/
structure Ct (w W : World) (p : Nat) (l : List Rw) (F : List Nat) (v : Value) (d : List Dr) : Prop where
  t : Tb W p 5 l F
  o : OwnD W v d
  r : Rel l d
  fa : ∀ k ∈ F, w.heap.size ≤ k
theorem Ct.low {w W W' : World} {p : Nat} {l : List Rw} {F : List Nat} {v : Value} {d : List Dr} (h : Ct w W p l F v d) (hb : Below W.heap.size W W') : Ct w W' p l F v d := ⟨h.t.low hb, h.o.low hb, h.r, h.fa⟩
theorem Ct.sd {w W : World} {p : Nat} {l : List Rw} {F : List Nat} {v : Value} {d : List Dr} (h : Ct w W p l F v d) : Sd W (.pointer (some ⟨p, 0, none⟩)) 5 l F v d := ⟨Or.inr ⟨p, rfl, h.t⟩, h.o, h.r⟩
/-- What a call that changes another table leaves. -/
theorem Ct.other {w W W' : World} {p : Nat} {l : List Rw} {F G G' : List Nat} {v : Value} {d : List Dr} {q m : Nat} {l2 : List Rw} (h : Ct w W p l F v d) (T : Tb W q m l2 G) (M : Mv G G' W W') (hd : ∀ k ∈ F, k ∉ G) : Ct w W' p l F v d :=
  ⟨h.t.frame (fun k hk => M.1.block k (h.t.lt k hk) (hd k hk)), h.o.mv T M, h.r, h.fa⟩
theorem Ct.after {w W : World} {p : Nat} {l : List Rw} {F : List Nat} {a : Option Addr} {L cap : Nat} {d : List Dr} (hL : L = d.length) (h : Ct w W p l F (.slice a L cap) d) (hb : Below w.heap.size w W) (tg : TabG W F) (vs : Value) (os : List Opd) (hv : ItemsO w vs os) (hg : GoodO os) :
    Calls Tryd.prog 44 #[.pointer (some ⟨p, 0, none⟩), .agg #[.int .i64 5, .slice a L cap], vs] W fun e w' => ∃ l' F' v' d', e = .returned (.tuple #[.agg #[.int .i64 5, v'], .bool true]) ∧ Ct w w' p l' F' v' d' ∧ Mv F F' W w' := by
  have e5 : ((5 : Nat) : Int) = 5 := rfl
  have h5 := after_any w W p 5 l F a L cap d hL h.t h.o h.r vs os hv hg hb h.fa tg
  rw [e5] at h5
  refine h5.mono ?_
  rintro e w' ⟨l', F', v', d', rfl, t, o, r, M⟩
  exact ⟨l', F', v', d', rfl, ⟨t, o, r, M.above hb.size h.fa⟩, M⟩
theorem Ct.setB {w W : World} {p : Nat} {l : List Rw} {F : List Nat} {v : Value} {d : List Dr} (h : Ct w W p l F v d) {g : Nat} {cur : Array Value} (hg : W.heap[g]? = some (.cells cur 35 (0, 0))) (j : Nat) (x : Value) : Ct w (W.setCell ⟨g, j, none⟩ x) p l F v d :=
  ⟨h.t.frame (fun k hk => set_other _ _ (fun e => Tq.not (pv := .pointer (some ⟨p, 0, none⟩)) (Or.inr ⟨p, rfl, h.t⟩) hg (by decide) (e ▸ hk))), h.o.setO hg j x, h.r, h.fa⟩
/-- Two tables beside the document's, in their boxes. -/
structure Cw (w W : World) (p pu Bm Bn : Nat) (l lu : List Rw) (F Fu : List Nat) (vm vn : Value) (d du : List Dr) : Prop where
  t : Ct w W p l F vm d
  u : Ct w W pu lu Fu vn du
  ap : ∀ k ∈ F, k ∉ Fu
  bm : W.heap[Bm]? = some (.cells #[.int .i64 5, vm] 35 (0, 0))
  bn : W.heap[Bn]? = some (.cells #[.int .i64 5, vn] 35 (0, 0))
  ne : Bm ≠ Bn
  wm : w.heap.size ≤ Bm
  wn : w.heap.size ≤ Bn
  lo : Below w.heap.size w W
section
variable {w W : World} {p pu Bm Bn : Nat} {l lu : List Rw} {F Fu : List Nat} {vm vn : Value} {d du : List Dr}
theorem Cw.low (h : Cw w W p pu Bm Bn l lu F Fu vm vn d du) {W' : World} (hb : Below W.heap.size W W') : Cw w W' p pu Bm Bn l lu F Fu vm vn d du :=
  ⟨h.t.low hb, h.u.low hb, h.ap, (hb.block _ (lt_of_block h.bm)).trans h.bm, (hb.block _ (lt_of_block h.bn)).trans h.bn, h.ne, h.wm, h.wn, h.lo.trans (hb.mono h.lo.size)⟩
theorem Cw.cm (h : Cw w W p pu Bm Bn l lu F Fu vm vn d du) : W.cell? ⟨Bm, 0, none⟩ = some (.int .i64 5) ∧ W.cell? ⟨Bm, 1, none⟩ = some vm ∧ W.frozen? ⟨Bm, 0, none⟩ = false ∧ W.frozen? ⟨Bm, 1, none⟩ = false :=
  ⟨by rw [cell_of_row W _ 0 _ _ _ h.bm]; rfl, by rw [cell_of_row W _ 1 _ _ _ h.bm]; rfl, frozen_of_row W _ 0 _ _ h.bm, frozen_of_row W _ 1 _ _ h.bm⟩
theorem Cw.cn (h : Cw w W p pu Bm Bn l lu F Fu vm vn d du) : W.cell? ⟨Bn, 0, none⟩ = some (.int .i64 5) ∧ W.cell? ⟨Bn, 1, none⟩ = some vn ∧ W.frozen? ⟨Bn, 0, none⟩ = false ∧ W.frozen? ⟨Bn, 1, none⟩ = false :=
  ⟨by rw [cell_of_row W _ 0 _ _ _ h.bn]; rfl, by rw [cell_of_row W _ 1 _ _ _ h.bn]; rfl, frozen_of_row W _ 0 _ _ h.bn, frozen_of_row W _ 1 _ _ h.bn⟩
theorem Cw.notM (h : Cw w W p pu Bm Bn l lu F Fu vm vn d du) : (Bm ∉ F ∧ Bm ∉ Fu) ∧ Bn ∉ F ∧ Bn ∉ Fu :=
  ⟨⟨Tq.not (pv := .pointer (some ⟨p, 0, none⟩)) (Or.inr ⟨p, rfl, h.t.t⟩) h.bm (by decide), Tq.not (pv := .pointer (some ⟨pu, 0, none⟩)) (Or.inr ⟨pu, rfl, h.u.t⟩) h.bm (by decide)⟩, Tq.not (pv := .pointer (some ⟨p, 0, none⟩)) (Or.inr ⟨p, rfl, h.t.t⟩) h.bn (by decide), Tq.not (pv := .pointer (some ⟨pu, 0, none⟩)) (Or.inr ⟨pu, rfl, h.u.t⟩) h.bn (by decide)⟩
theorem Cw.swap (h : Cw w W p pu Bm Bn l lu F Fu vm vn d du) : Cw w W pu p Bn Bm lu l Fu F vn vm du d := ⟨h.u, h.t, fun k hk c => h.ap k c hk, h.bn, h.bm, h.ne.symm, h.wn, h.wm, h.lo⟩
theorem Cw.onT (h : Cw w W p pu Bm Bn l lu F Fu vm vn d du) {W' : World} {l' : List Rw} {F' : List Nat} {vm' : Value} {d' : List Dr} (hT : Ct w W' p l' F' vm' d') (M : Mv F F' W W') : Cw w ((W'.setCell ⟨Bm, 0, none⟩ (.int .i64 5)).setCell ⟨Bm, 1, none⟩ vm') p pu Bm Bn l' lu F' Fu vm' vn d' du := by
  have u1 := h.u.other h.t.t M (fun k hk c => h.ap k c hk)
  have bm1 := (M.1.block Bm (lt_of_block h.bm) h.notM.1.1).trans h.bm
  have bn1 := (M.1.block Bn (lt_of_block h.bn) h.notM.2.1).trans h.bn
  have b2 := cellSet bm1 0 (.int .i64 5)
  have b3 := cellSet b2 1 vm'
  refine ⟨(hT.setB bm1 _ _).setB b2 _ _, (u1.setB bm1 _ _).setB b2 _ _, fun k hk c => ?_, b3, ?_, h.ne, h.wm, h.wn, ?_⟩
  · rcases M.2 k hk with e | e
    · exact h.ap k e c
    · have := h.u.t.lt k c
      omega
  · rw [set_other _ _ h.ne.symm, set_other _ _ h.ne.symm]
    exact bn1
  · exact below_set (below_set (h.lo.trans (M.below h.lo.size h.t.fa)) _ _ _ h.wm) _ _ _ h.wm
end
end Go.Proofs.YtdhjoimiejdgbaaDoor.L
