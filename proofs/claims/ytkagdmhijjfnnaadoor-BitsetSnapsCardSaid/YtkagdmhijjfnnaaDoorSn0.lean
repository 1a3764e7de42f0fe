import Derived.Test.YtkagdmhijjfnnaaDoorSn1
import Derived.Test.YtkagdmhijjfnnaaDoorIt3
namespace Go.Proofs.YtkagdmhijjfnnaaDoor
open Go.RowKit Go.Shelf Bs
set_option linter.unusedVariables false
/-- The law's constants. -/
structure Sc where
  w : World
  n : Nat
  vA : Value
  vB : Value
  vC : Value
  p : Nat
  q : Nat
  sb : Nat
  wbx : Nat
  kb : Nat
  X : Nat
  g : Nat
  lo : Nat
  aw : Option Addr
  cw : Nat
  ms : List Int
  ws : List Nat
  cap : Nat
structure So (x : Sc) : Prop where
  hq : x.w.heap.size + 2 ≤ x.q
  hp : x.w.heap.size + 2 ≤ x.p
  qs : x.q < x.sb
  ps : x.p < x.sb
  sl : x.sb < x.lo
  lw : x.lo ≤ x.wbx
  wX : x.wbx < x.X
  wg : x.wbx < x.g
  gX : x.g ≠ x.X
  Xk : x.X < x.kb
  gk : x.g < x.kb
structure Sk (x : Sc) (W : World) (k : Nat) : Prop where
  xa : XAll W x.w.heap.size x.n x.vA x.vB x.vC
  br : Boxed W (x.w.heap.size + 1) 4 (.bool false)
  bs : Boxed W x.sb 26 (.pointer (some ⟨x.p, 0, none⟩))
  bw : Boxed W x.wbx 28 (.slice x.aw x.ms.length x.cw)
  bk : Boxed W x.kb 3 (.int .i64 (k : Int))
  st : ∃ T, SetAt W x.p x.q x.n T
  hl : x.ms = [] ∨ ∃ b off, x.aw = some ⟨b, off, none⟩ ∧ x.lo ≤ b ∧ b < x.wbx ∧ ∀ j, j < x.ms.length → W.cell? ⟨b, off + j, none⟩ = some (.int .i64 (x.ms.getD j 0))
  wb : Wb W x.X x.g (.slice (some ⟨x.g, 0, none⟩) x.ws.length x.cap) x.ws
  low : Below x.w.heap.size x.w W
theorem Sk.lowr {x : Sc} {W W' : World} {k : Nat} (o : So x) (h : Sk x W k) (b : Below W.heap.size W W') : Sk x W' k := by
  have h1 := h.bk.lt
  have h2 := o.Xk
  have h3 := o.gk
  refine ⟨h.xa.low b, boxed_low h.br b, boxed_low h.bs b, boxed_low h.bw b, boxed_low h.bk b, ?_, ?_, wb_low h.wb b (by omega) (by omega), h.low.trans (b.mono h.low.size)⟩
  · obtain ⟨T, hT⟩ := h.st
    exact ⟨T, hT.low b⟩
  · rcases h.hl with e | ⟨c, off, e1, e2, e3, e4⟩
    · exact Or.inl e
    · exact Or.inr ⟨c, off, e1, e2, e3, fun j hj => (b.cell (p := ⟨c, off + j, none⟩) (block_lt_of_cell (e4 j hj))).trans (e4 j hj)⟩
theorem Sk.put {x : Sc} {W : World} {k l : Nat} {r r' : Loop} (o : So x) (h : Sk x W k) (hl : W.heap[l]? = some (.loop r)) (hk : x.kb < l) : Sk x (W.putObj l (.loop r')) k := by
  have o1 := o.hq
  have o2 := o.hp
  have o3 := o.qs
  have o4 := o.ps
  have o5 := o.sl
  have o6 := o.lw
  have o7 := o.wX
  have o8 := o.wg
  have o9 := o.Xk
  have o10 := o.gk
  have nb : ∀ {j : Nat}, j ≤ x.kb → (W.putObj l (.loop r')).heap[j]? = W.heap[j]? := fun {j} hj => World.putObj_heap_other (by omega)
  have nc : ∀ {a : Addr}, a.block ≤ x.kb → (W.putObj l (.loop r')).cell? a = W.cell? a := fun {a} ha => World.cell?_of_block (w := W) (nb ha)
  refine ⟨⟨(nc (by show x.w.heap.size ≤ _; omega)).trans h.xa.c0, (nc (by show x.w.heap.size ≤ _; omega)).trans h.xa.c1, (nc (by show x.w.heap.size ≤ _; omega)).trans h.xa.c2, (nc (by show x.w.heap.size ≤ _; omega)).trans h.xa.c3⟩, boxed_put h.br hl, boxed_put h.bs hl, boxed_put h.bw hl, boxed_put h.bk hl, ?_, ?_, ?_, low_put h.low (by omega)⟩
  · obtain ⟨T, ws, y, hy⟩ := h.st
    exact ⟨T, ws, ⟨(nb (by omega)).trans y.hp, (nb (by omega)).trans y.hq, y.ne, y.hn, y.hl, y.wd, y.cl⟩, hy⟩
  · rcases h.hl with e | ⟨c, off, e1, e2, e3, e4⟩
    · exact Or.inl e
    · exact Or.inr ⟨c, off, e1, e2, e3, fun j hj => (nc (a := ⟨c, off + j, none⟩) (by show c ≤ _; omega)).trans (e4 j hj)⟩
  · exact h.wb.md ⟨by simp, fun j hj => nb (by simp only [List.mem_cons, List.not_mem_nil, or_false] at hj; omega)⟩
/-- A block that is none of theirs, but the row q or the box kb, has turned. -/
theorem Sk.chg {x : Sc} {W W' : World} {k k' a : Nat} (o : So x) (h : Sk x W k) (c : Chg a W W') (ha : a = x.q ∨ a = x.kb) (hst : ∃ T, SetAt W' x.p x.q x.n T) (hbk : Boxed W' x.kb 3 (.int .i64 (k' : Int))) : Sk x W' k' := by
  have o1 := o.hq
  have o2 := o.hp
  have o3 := o.qs
  have o4 := o.ps
  have o5 := o.sl
  have o6 := o.lw
  have o7 := o.wX
  have o8 := o.wg
  have o9 := o.Xk
  have o10 := o.gk
  have kl := h.bk.lt
  have nb : ∀ {j : Nat}, j ≤ x.kb → j ≠ x.q → j ≠ x.kb → W'.heap[j]? = W.heap[j]? := fun {j} hj h1 h2 => c.block j (by omega) (by omega)
  have nc : ∀ {a : Addr}, a.block ≤ x.kb → a.block ≠ x.q → a.block ≠ x.kb → W'.cell? a = W.cell? a := fun {a} ha h1 h2 => World.cell?_of_block (w := W) (nb ha h1 h2)
  have nx : ∀ j, W'.cell? ⟨x.w.heap.size, j, none⟩ = W.cell? ⟨x.w.heap.size, j, none⟩ := fun j => nc (by show x.w.heap.size ≤ _; omega) (by show x.w.heap.size ≠ _; omega) (by show x.w.heap.size ≠ _; omega)
  refine ⟨⟨(nx 0).trans h.xa.c0, (nx 1).trans h.xa.c1, (nx 2).trans h.xa.c2, (nx 3).trans h.xa.c3⟩, (nb (by omega) (by omega) (by omega)).trans h.br, (nb (by omega) (by omega) (by omega)).trans h.bs, (nb (by omega) (by omega) (by omega)).trans h.bw, hbk, hst, ?_, ?_, Chg.below h.low c (by omega) h.low.size⟩
  · rcases h.hl with e | ⟨d, off, e1, e2, e3, e4⟩
    · exact Or.inl e
    · exact Or.inr ⟨d, off, e1, e2, e3, fun j hj => (nc (a := ⟨d, off + j, none⟩) (by show d ≤ _; omega) (by show d ≠ _; omega) (by show d ≠ _; omega)).trans (e4 j hj)⟩
  · exact h.wb.md ⟨c.size, fun j hj => nb (by simp only [List.mem_cons, List.not_mem_nil, or_false] at hj; omega) (by simp only [List.mem_cons, List.not_mem_nil, or_false] at hj; omega) (by simp only [List.mem_cons, List.not_mem_nil, or_false] at hj; omega)⟩
theorem Sk.chgq {x : Sc} {W W' : World} {k : Nat} {T : Nat → Bool} (o : So x) (h : Sk x W k) (c : Chg x.q W W') (hs : SetAt W' x.p x.q x.n T) : Sk x W' k :=
  h.chg o c (Or.inl rfl) ⟨T, hs⟩ ((c.block _ h.bk.lt (by have := o.qs; have := o.sl; have := o.lw; have := o.wX; have := o.Xk; omega)).trans h.bk)
theorem Sk.setk {x : Sc} {W : World} {k : Nat} {v : Int} (o : So x) (h : Sk x W k) (hv : v = ((k + 1 : Nat) : Int)) : Sk x (W.setCell ⟨x.kb, 0, none⟩ (.int .i64 v)) (k + 1) := by
  have o3 := o.qs
  have o4 := o.ps
  have o5 := o.sl
  have o6 := o.lw
  have o7 := o.wX
  have o9 := o.Xk
  obtain ⟨T, hT⟩ := h.st
  exact h.chg o (Chg.setCell 0 _) (Or.inr rfl) ⟨T, hT.keep (Chg.setCell 0 _) (by omega) (by omega)⟩ (by rw [hv]; exact h.bk.set _)
theorem Sk.kbq {x : Sc} {W W' : World} {k base : Nat} (h : Sk x W k) (c : Chg x.q W W') : Kb base W W' := by
  obtain ⟨T, ws, y, _⟩ := h.st
  exact Kb.chg c (fun o ho => by rw [y.hq] at ho; cases ho; rfl)
theorem Sk.kbk {x : Sc} {W : World} {k base : Nat} {v : Value} (h : Sk x W k) : Kb base W (W.setCell ⟨x.kb, 0, none⟩ v) :=
  Kb.chg (Chg.setCell 0 v) (fun o ho => by rw [show W.heap[x.kb]? = _ from h.bk] at ho; cases ho; rfl)
theorem md_chg {W W' : World} {a X g : Nat} (c : Chg a W W') (hX : X < W.heap.size) (hg : g < W.heap.size) (h1 : X ≠ a) (h2 : g ≠ a) (h3 : 0 ≠ a) : Md [X, g, 0] W W' :=
  ⟨c.size, fun k hk => by
    simp only [List.mem_cons, List.not_mem_nil, or_false] at hk
    exact c.block k (by omega) (by omega)⟩
theorem Sk.mdq {x : Sc} {W W' : World} {k : Nat} (h : Sk x W k) (o : So x) (c : Chg x.q W W') : Md [x.X, x.g, 0] W W' := by
  have o1 := o.hq
  have o3 := o.qs
  have o5 := o.sl
  have o6 := o.lw
  have o7 := o.wX
  have o8 := o.wg
  have o9 := o.Xk
  have o10 := o.gk
  have kl := h.bk.lt
  exact md_chg c (by omega) (by omega) (by omega) (by omega) (by omega)
theorem Sk.mdk {x : Sc} {W : World} {k : Nat} {v : Value} (h : Sk x W k) (o : So x) : Md [x.X, x.g, 0] W (W.setCell ⟨x.kb, 0, none⟩ v) := by
  have o9 := o.Xk
  have o10 := o.gk
  have kl := h.bk.lt
  exact md_chg (Chg.setCell 0 v) (by omega) (by omega) (by omega) (by omega) (by omega)
theorem Sk.mdl {x : Sc} {W W' : World} {k : Nat} (h : Sk x W k) (o : So x) (b : Below W.heap.size W W') : Md [x.X, x.g, 0] W W' := by
  have o9 := o.Xk
  have o10 := o.gk
  have kl := h.bk.lt
  exact ⟨b.size, fun j hj => b.block j (by simp only [List.mem_cons, List.not_mem_nil, or_false] at hj; omega)⟩
theorem Ints.row {w : World} {v : Value} {zs : List Int} (h : Ints w v zs) : ∃ a cap, v = .slice a zs.length cap ∧ (0 < zs.length → ∃ b off, a = some ⟨b, off, none⟩ ∧ ∀ j, j < zs.length → w.cell? ⟨b, off + j, none⟩ = some (.int .i64 (zs.getD j 0))) := by
  rcases h with ⟨a, cap, rfl, rfl⟩ | ⟨b, off, cap, rfl, hb, hc⟩
  · exact ⟨a, cap, rfl, fun h => absurd h (by decide)⟩
  · exact ⟨_, cap, rfl, fun _ => ⟨b, off, rfl, hc⟩⟩
/-- What is left of the law's blocks behind the walk. -/
structure Sj (x : Sc) (W : World) : Prop where
  br : Boxed W (x.w.heap.size + 1) 4 (.bool false)
  bs : Boxed W x.sb 26 (.pointer (some ⟨x.p, 0, none⟩))
  bw : Boxed W x.wbx 28 (.slice x.aw x.ms.length x.cw)
  hl : Hl W x.lo (.slice x.aw x.ms.length x.cw) x.ms
  wb : Wb W x.X x.g (.slice (some ⟨x.g, 0, none⟩) x.ws.length x.cap) x.ws
  sz : x.kb < W.heap.size
  up : x.ms = [] ∨ ∃ b off, x.aw = some ⟨b, off, none⟩ ∧ x.lo ≤ b ∧ b < x.wbx
  low : Below x.w.heap.size x.w W
theorem Sk.sj {x : Sc} {W : World} {k : Nat} (h : Sk x W k) : Sj x W := by
  refine ⟨h.br, h.bs, h.bw, ⟨_, _, rfl, ?_⟩, h.wb, h.bk.lt, ?_, h.low⟩
  · rcases h.hl with e | ⟨b, off, e1, e2, e3, e4⟩
    · exact Or.inl e
    · by_cases hz : x.ms = []
      · exact Or.inl hz
      · exact Or.inr ⟨b, off, e1, e2, block_lt_of_cell (e4 0 (List.length_pos_iff.2 hz)), e4⟩
  · rcases h.hl with e | ⟨b, off, e1, e2, e3, e4⟩
    · exact Or.inl e
    · exact Or.inr ⟨b, off, e1, e2, e3⟩
theorem Sj.lowr {x : Sc} {W W' : World} (o : So x) (h : Sj x W) (b : Below W.heap.size W W') : Sj x W' := by
  have h1 := h.sz
  have h2 := o.Xk
  have h3 := o.gk
  exact ⟨boxed_low h.br b, boxed_low h.bs b, boxed_low h.bw b, h.hl.low b, wb_low h.wb b (by omega) (by omega), Nat.lt_of_lt_of_le h.sz b.size, h.up, h.low.trans (b.mono h.low.size)⟩
theorem Sj.chg {x : Sc} {W W' : World} {a : Nat} (o : So x) (h : Sj x W) (c : Chg a W W') (ha : a = x.p ∨ x.kb < a) : Sj x W' := by
  have o1 := o.hq
  have o2 := o.hp
  have o4 := o.ps
  have o5 := o.sl
  have o6 := o.lw
  have o7 := o.wX
  have o8 := o.wg
  have o9 := o.Xk
  have o10 := o.gk
  have kl := h.sz
  have nb : ∀ {j : Nat}, j ≤ x.kb → j ≠ x.p → W'.heap[j]? = W.heap[j]? := fun {j} hj h1 => c.block j (by omega) (by omega)
  have nc : ∀ {a : Addr}, a.block ≤ x.kb → a.block ≠ x.p → W'.cell? a = W.cell? a := fun {a} ha h1 => World.cell?_of_block (w := W) (nb ha h1)
  refine ⟨(nb (by omega) (by omega)).trans h.br, (nb (by omega) (by omega)).trans h.bs, (nb (by omega) (by omega)).trans h.bw, ?_, h.wb.md ⟨c.size, fun j hj => nb (by simp only [List.mem_cons, List.not_mem_nil, or_false] at hj; omega) (by simp only [List.mem_cons, List.not_mem_nil, or_false] at hj; omega)⟩, Nat.lt_of_lt_of_le h.sz c.size, h.up, Chg.below h.low c (by omega) h.low.size⟩
  obtain ⟨a1, c1, e1, h1⟩ := h.hl
  refine ⟨a1, c1, e1, ?_⟩
  injection e1 with e1 e2 e3
  rcases h1 with h1 | ⟨b, off, g1, g2, g3, g4⟩
  · exact Or.inl h1
  · rcases h.up with u | ⟨b', off', u1, u2, u3⟩
    · exact Or.inl u
    · have eb : b = b' := by
        rw [e1, g1] at u1
        injection u1 with u1; injection u1 with u1
      exact Or.inr ⟨b, off, g1, g2, Nat.lt_of_lt_of_le g3 c.size, fun j hj => (nc (a := ⟨b, off + j, none⟩) (by show b ≤ _; omega) (by show b ≠ _; omega)).trans (g4 j hj)⟩
theorem card_last : card 65536 (putS 65536 (fun _ => false) 65535) = 1 := by
  have h : card (65535 + 1) (putS 65536 (fun _ => false) 65535) = card 65535 (putS 65536 (fun _ => false) 65535) + 1 := by
    have e : putS 65536 (fun _ => false) 65535 65535 = true := by simp [putS]
    generalize 65535 = a at e ⊢
    simp [card, e]
  have z : card 65535 (putS 65536 (fun _ => false) 65535) = 0 := by
    rw [card_zero_iff]
    intro i hi
    have : ¬ ((i : Int) = 65535) := by omega
    simp [putS, this]
  rw [show (65536 : Nat) = 65535 + 1 from rfl, h, z]
theorem count_last {p q : Nat} (w : World) (h : SetAt w p q 65536 (putS 65536 (fun _ => false) 65535)) : Calls Tryd.prog 23 #[.pointer (some ⟨p, 0, none⟩)] w fun e w' => e = .returned (.int .i64 1) ∧ w' = w := by
  have := count_set w h
  rwa [card_last] at this
theorem has_last : putS 65536 (fun _ => false) 65535 65535 = true := by simp [putS]
end Go.Proofs.YtkagdmhijjfnnaaDoor
