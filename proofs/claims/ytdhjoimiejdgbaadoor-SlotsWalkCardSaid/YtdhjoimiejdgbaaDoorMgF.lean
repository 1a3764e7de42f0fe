import Derived.Test.YtdhjoimiejdgbaaDoorMgG
namespace Go.Proofs.YtdhjoimiejdgbaaDoor.L
open Go.RowKit Bs Go.Maps Go.Shelf
set_option linter.unusedVariables false
/-- A block in which a loop keeps its books. -/
def isBk : Obj → Bool
  | .loop _ => true
  | .deferred _ => true
  | _ => false
/-- The books from base on lie as they lay. -/
structure Kb (base : Nat) (W W' : World) : Prop where
  size : W.heap.size ≤ W'.heap.size
  same : ∀ k o, base ≤ k → W.heap[k]? = some o → isBk o = true → W'.heap[k]? = some o
theorem Kb.trans {base : Nat} {A B C : World} (h : Kb base A B) (k : Kb base B C) : Kb base A C := ⟨Nat.le_trans h.size k.size, fun j o hj h1 h2 => k.same j o hj (h.same j o hj h1 h2) h2⟩
theorem Kb.bx {base : Nat} {L : List Nat} {W W' : World} (hx : Bx L W.heap.size W W') (hL : ∀ k ∈ L, ∀ o, W.heap[k]? = some o → isBk o = false) : Kb base W W' :=
  ⟨hx.size, fun k o _ h1 h2 => (hx.block k (lt_of_block h1) (fun c => by rw [hL k c o h1] at h2; cases h2)).trans h1⟩
theorem mid_put {W : World} {b l : Nat} {o' : Obj} (h : l ≠ b) : Mid b (b + 1) W (W.putObj l o') :=
  ⟨by simp, fun k h1 h2 => World.putObj_heap_other (by omega)⟩
/-- A walk over All's func whose body runs to its end each time. -/
theorem all_walk {g : Operand} {ps : Array Tmp} {assign body : Code} {Q : Exit → Act → World → Prop} {a : Act} {w : World} (b X : Nat) (v : Value) (ss : List ByteArray) (hl : ss.length ≤ 65536)
    (hg : a.eval g = allF X) (hps : ps.size = 2) (hX : w.cell? ⟨X, 0, none⟩ = some v) (hXl : X < w.heap.size) (hS : SlS b (b + 1) w v ss) (hb : b < w.heap.size)
    (I : List Sn → World → Prop) (hlow : ∀ pre W W', I pre W → Below W.heap.size W W' → I pre W')
    (hput : ∀ pre W l r r', I pre W → w.heap.size ≤ l → W.heap[l]? = some (.loop r) → I pre (W.putObj l (.loop r')))
    (h0 : I [] w) (a1 : Sn → Act)
    (hassign : ∀ l x W K, K (a1 x) W → assign.wpIn (Fence.wide.inRound l) 1 Tryd.prog (Exit.then K (fun _ _ _ => False)) { tmps := (ps.zip (dv x)).foldl (fun t (p, v) => t.setIfInBounds p v) a.tmps, defers := [] } W)
    (hbody : ∀ l pre x W, I pre W → pre.length < (tk ss).length → body.wpIn (Fence.wide.inRound l) 1 Tryd.prog (fun e _ W' => e = .normal ∧ Kb w.heap.size W W' ∧ Mid b (b + 1) W W' ∧ I (pre ++ [x]) W') (a1 x) W)
    (hdone : ∀ D W, w.heap.size ≤ D → I (tk ss) W → W.heap[D]? = some (.deferred (some [])) → Q .normal { a with defers := { target := .collected D, args := #[] } :: a.defers } W) :
    (Code.rangeFunc g ps assign body).wpIn Fence.wide 3 Tryd.prog Q a w := by
  refine wpIn_rangeFunc ?_
  intro fn hfn
  obtain ⟨rc, hrc⟩ : ∃ rc : LoopState → Loop, rc = fun s => { state := s, pending := none, fn, tmps := a.tmps, params := ps, assign, body, defers := w.heap.size } := ⟨_, rfl⟩
  obtain ⟨V, hV⟩ : ∃ V, V = (w.alloc (.deferred (some []))).alloc (.loop (rc .ready)) := ⟨_, rfl⟩
  have al : Below w.heap.size w V := by rw [hV]; exact ((Below.refl _ w).alloc (Nat.le_refl _) _).alloc (by simp) _
  have vd : V.heap[w.heap.size]? = some (.deferred (some [])) := by
    rw [hV]; exact (Below.heap_alloc _ _ _ (by simp)).trans (World.alloc_heap_new w _)
  have vl : V.heap[w.heap.size + 1]? = some (.loop (rc .ready)) := by
    rw [hV]
    have := World.alloc_heap_new (w.alloc (.deferred (some []))) (.loop (rc .ready))
    rwa [World.size_alloc] at this
  have hbx : ∀ s, (w.heap.size + 1) ≠ b := fun _ => by omega
  refine ⟨w.heap.size + 1, [{ target := .collected w.heap.size, args := #[] }], V, { target := .fn (.func 77) #[.pointer (some ⟨X, 0, none⟩)], args := #[.func (.yield (w.heap.size + 1)) #[] #[]] }, V, 77,
    #[.func (.yield (w.heap.size + 1)) #[] #[], .pointer (some ⟨X, 0, none⟩)], V, ?_, ?_, fun f' _ => trivial, ?_, fun _ => by decide, ?_⟩
  · rw [hV, hrc]
    exact run_enterLoop_outer _ _ _ _ _
  · simp only [resolve, hg, allF]
    simp [go_sem]
  · simp [invoke, go_sem]
  · refine (iter_in 2 (by decide) (w.heap.size + 1) b (b + 1) X v ss hl
      (fun pre W => I pre W ∧ W.heap[w.heap.size + 1]? = some (.loop (rc .ready)) ∧ W.heap[w.heap.size]? = some (.deferred (some []))) (fun _ _ => False)
      (fun pre W W' h hB => ⟨hlow pre W W' h.1 hB, (hB.block _ (lt_of_block h.2.1)).trans h.2.1, (hB.block _ (lt_of_block h.2.2)).trans h.2.2⟩)
      ?_ V (by have := al.size; omega) ((al.cell (p := ⟨X, 0, none⟩) hXl).trans hX) (hS.low (Mid.of al hb)) ⟨hlow _ _ _ h0 al, vl, vd⟩).mono ?_
    · rintro pre x W ⟨hi, hL, hD⟩ hlen
      have hlt := lt_of_block hL
      have hy := run_yield (P := Tryd.prog) (args := dv x) hL (by rw [hrc]; simp [dv, hps])
      rw [hrc] at hy
      refine ⟨fn, _, assign, body, hy, roundIn_of_wpIn hfn (hassign _ x W _ ?_)⟩
      refine ⟨_, run_beginRound hL (by rw [hrc]), ?_⟩
      have L2 : (W.putObj (w.heap.size + 1) (.loop { rc .ready with state := .busy })).heap[w.heap.size + 1]? = some (.loop { rc .ready with state := .busy }) := World.putObj_heap_same hlt
      have D2 : (W.putObj (w.heap.size + 1) (.loop { rc .ready with state := .busy })).heap[w.heap.size]? = some (.deferred (some [])) := (World.putObj_heap_other (by omega)).trans hD
      refine wpIn_mono (hbody _ pre x _ (hput _ _ _ _ _ hi (by omega) hL) hlen) ?_
      rintro e a3 W3 ⟨rfl, hk, hm, hi3⟩
      have L3 := hk.same _ _ (by omega) L2 rfl
      have D3 := hk.same _ _ (Nat.le_refl _) D2 rfl
      have hr := run_endRound (P := Tryd.prog) none L3
      refine ⟨_, _, hr, Or.inl ⟨rfl, ⟨hput _ _ _ _ _ hi3 (by omega) L3, ?_, (World.putObj_heap_other (by omega)).trans D3⟩, ?_⟩⟩
      · rw [World.putObj_heap_same (lt_of_block L3), hrc]
        rfl
      · exact ((mid_put (by omega)).trans hm).trans (mid_put (by omega))
    · rintro e W2 ⟨⟨v', rfl⟩, (⟨ys, rfl, hi, hL, hD⟩ | ⟨_, _, h⟩)⟩
      · have he := run_endLoop (P := Tryd.prog) hL (by rw [hrc]; simp)
        rw [hrc] at he
        exact ⟨none, _, he, hdone _ _ (Nat.le_refl _) (hput _ _ _ _ _ hi (by omega) hL) ((World.putObj_heap_other (by omega)).trans hD)⟩
      · exact h.elim
end Go.Proofs.YtdhjoimiejdgbaaDoor.L
namespace Go.Proofs.YtdhjoimiejdgbaaDoor.L
open Go.RowKit Bs Go.Maps Go.Shelf
set_option linter.unusedVariables false
/-- No block of the World's, of its tables', of the document's rows. -/
def OtO (o : Obj) : Prop := (∀ es c, o ≠ .map es c) ∧ ∀ cur t f, o = .cells cur t f → t ≠ 122 ∧ t ≠ 124 ∧ t ≠ 129 ∧ t ≠ 38 ∧ t ≠ 63
def Ot (W : World) (k : Nat) : Prop := ∀ o, W.heap[k]? = some o → OtO o
theorem OtO.cells {cur : Array Value} {t : TypeId} {f : Nat × Nat} (h : t ≠ 122 ∧ t ≠ 124 ∧ t ≠ 129 ∧ t ≠ 38 ∧ t ≠ 63) : OtO (.cells cur t f) :=
  ⟨fun es c e => (by cases e), fun cur' t' f' e => by injection e with _ e _; subst e; exact h⟩
theorem OtO.loop (r : Loop) : OtO (.loop r) := ⟨fun es c e => (by cases e), fun cur' t' f' e => by cases e⟩
theorem OtO.deferred (r : Option (List Deferred)) : OtO (.deferred r) := ⟨fun es c e => (by cases e), fun cur' t' f' e => by cases e⟩
theorem Ot.of {W : World} {k : Nat} {o : Obj} (h : W.heap[k]? = some o) (ho : OtO o) : Ot W k := fun o' h' => by
  rw [h] at h'
  injection h' with h'
  subst h'
  exact ho
theorem Ot.new {W : World} {k : Nat} (h : W.heap.size ≤ k) : Ot W k := fun o' h' => by
  have := lt_of_block h'
  omega
theorem Ot.same {W W' : World} {k : Nat} (h : Ot W k) (e : W'.heap[k]? = W.heap[k]?) : Ot W' k := fun o ho => h o (e ▸ ho)
theorem Wh.nots {s W : World} {B : Nat} {G : List Nat} {st : Nat → St} (h : Wh s W B G st) {k : Nat} (ho : Ot W k) : k ∉ gsB B st ∧ ∀ i, i < 4 → (st i).v.ownBlock ≠ some k := by
  refine ⟨fun c => ?_, fun i hi c => ?_⟩
  · rcases mem_gs c with rfl | ⟨i, hi, hk⟩
    · obtain ⟨cur, e, _⟩ := h.bb
      exact ((ho _ e).2 cur _ _ rfl).2.2.2.1 rfl
    · rcases (h.tq i hi).kinds hk with ⟨es, cl, e⟩ | ⟨cur, t, e, ht⟩
      · exact (ho _ e).1 es cl rfl
      · have := (ho _ e).2 cur t _ rfl
        rcases ht with q | q | q
        · exact this.1 q
        · exact this.2.1 q
        · exact this.2.2.1 q
  · obtain ⟨cur, e⟩ := (h.od i hi).kind c
    exact ((ho _ e).2 cur _ _ rfl).2.2.2.2 rfl
/-- What turns other blocks leaves the World. -/
theorem Wh.frame {s W W' : World} {B : Nat} {st : Nat → St} {L : List Nat} (h : Wh s W B [] st) (hx : Bx L W.heap.size W W') (hs : ∀ k ∈ L, s.heap.size ≤ k) (hL : ∀ k ∈ L, Ot W k) : Wh s W' B [] st := by
  have nf : ∀ i, i < 4 → ∀ k ∈ (st i).F, k ∉ L := fun i hi k hk c => (h.nots (hL k c)).1 (gs_mem hi hk)
  have nB : B ∉ L := fun c => (h.nots (hL B c)).1 (List.mem_cons_self ..)
  have nv : ∀ i, i < 4 → ∀ g, (st i).v.ownBlock = some g → g ∉ L := fun i hi g hg c => (h.nots (hL g c)).2 i hi hg
  obtain ⟨cur, hc, hsz, r⟩ := h.bb
  exact ⟨⟨cur, (hx.block B h.lt nB).trans hc, hsz, r⟩, fun i hi => (h.tq i hi).frame (fun k hk => hx.block k ((h.tq i hi).lt k hk) (nf i hi k hk)),
    fun i hi => own_stays (h.od i hi) (fun g hg => hx.block g ((h.od i hi).lt g hg).2 (nv i hi g hg)), h.ap, h.lo.trans (Bx.of (hx.below h.lo.size hs)), h.hB, h.fa⟩
theorem Wh.base {s W : World} {B : Nat} {st : Nat → St} (h : Wh s W B [] st) : Below s.heap.size s W := h.lo.below (Nat.le_refl _) (fun k hk => by cases hk)
theorem bx_put (W : World) (l : Nat) (o : Obj) : Bx [l] W.heap.size W (W.putObj l o) :=
  ⟨rfl, rfl, rfl, by simp, fun k _ hn => World.putObj_heap_other (fun e => hn (by rw [e]; simp))⟩
theorem bx_set (W : World) (l j : Nat) (u : Value) : Bx [l] W.heap.size W (W.setCell ⟨l, j, none⟩ u) := (Bx.refl [l] W.heap.size W).setCell (Or.inl (by simp)) u
theorem bx_app {W w4 : World} {tmp : Obj} {v : Value} {Bo : Nat} (hgrow : (W.alloc tmp).grownBy w4 v.ownBlock) (v' : Value) : Bx (Bo :: v.ownBlock.toList) W.heap.size W (w4.setCell ⟨Bo, 0, none⟩ v') := by
  refine Bx.setCell ?_ (Or.inl (by simp)) _
  refine (((Bx.refl (Bo :: v.ownBlock.toList) W.heap.size W).alloc (Nat.le_refl _) tmp)).grown hgrow (by simp) (fun k hk => Or.inl ?_)
  rw [hk]
  simp
/-- The blocks L lie as they lay in V. -/
structure Sm (V : World) (L : List Nat) (W : World) : Prop where
  size : V.heap.size ≤ W.heap.size
  same : ∀ k ∈ L, W.heap[k]? = V.heap[k]?
theorem Sm.refl (V : World) (L : List Nat) : Sm V L V := ⟨Nat.le_refl _, fun _ _ => rfl⟩
theorem Sm.bx {V W W' : World} {L M : List Nat} (h : Sm V L W) (hx : Bx M W.heap.size W W') (hL : ∀ k ∈ L, k < V.heap.size ∧ k ∉ M) : Sm V L W' :=
  ⟨Nat.le_trans h.size hx.size, fun k hk => (hx.block k (Nat.lt_of_lt_of_le (hL k hk).1 h.size) (hL k hk).2).trans (h.same k hk)⟩
theorem Sm.low {V W W' : World} {L : List Nat} (h : Sm V L W) (hb : Below W.heap.size W W') (hL : ∀ k ∈ L, k < V.heap.size) : Sm V L W' := h.bx (Bx.of (F := []) hb) (fun k hk => ⟨hL k hk, by simp⟩)
theorem Sm.boxed {V W : World} {L : List Nat} (h : Sm V L W) {k : Nat} {t : TypeId} {v : Value} (hk : k ∈ L) (hb : Boxed V k t v) : Boxed W k t v := (h.same k hk).trans hb
theorem boxed_bx {W W' : World} {M : List Nat} {k : Nat} {t : TypeId} {v : Value} (h : Boxed W k t v) (hx : Bx M W.heap.size W W') (hn : k ∉ M) : Boxed W' k t v := (hx.block k h.lt hn).trans h
theorem own_bx {W W' : World} {M : List Nat} {base : Nat} {e : TypeId} {size n : Nat} {v : Value} {xs : List Value} (h : W.ownsRow base e size v n xs) (hx : Bx M W.heap.size W W') (hn : ∀ g, v.ownBlock = some g → g ∉ M) : W'.ownsRow base e size v n xs :=
  own_stays h (fun g hg => hx.block g (h.lt g hg).2 (hn g hg))
/-- The snapshot that All keeps, by its one block. -/
theorem seq_one (n : Nat) (hn : 1 ≤ n) (b X : Nat) (v : Value) (ss : List ByteArray) (hl : ss.length ≤ 65536) (w0 : World) (h1 : w0.cell? ⟨X, 0, none⟩ = some v) (hX : X < w0.heap.size) (s1 : SlS b (b + 1) w0 v ss) (hb : b < w0.heap.size) :
    SeqStopsK Fence.wide n Tryd.prog 77 #[.pointer (some ⟨X, 0, none⟩)] dv (Mid b (b + 1)) (fun xs => xs = tk ss) (fun pre => pre <+: tk ss) (tk ss).length w0 := by
  intro l J Jx W hW hJ hJx hY h0
  exact iter_in n hn l b (b + 1) X v ss hl J Jx (fun pre W W' h hb => hJ pre W W' none h (grown_of hb) (fun r e => by cases e)) hY W (by have := hW.size; omega) ((hW.cell (p := ⟨X, 0, none⟩) hX).trans h1) (s1.low (Mid.of hW hb)) h0
theorem own_one {W : World} {base X : Nat} {v : Value} {ss : List ByteArray} (h : OwnS W base v ss) (hX : X < W.heap.size) : ∃ b, b < W.heap.size ∧ SlS b (b + 1) W v ss ∧ (b = X ∨ v.ownBlock = some b ∧ base ≤ b) := by
  rcases own_form h with ⟨rfl, h0⟩ | ⟨g, cap, rfl, _, _, hlt⟩
  · exact ⟨X, hX, ⟨none, 0, by rw [h0], Or.inl h0⟩, Or.inl rfl⟩
  · refine ⟨g, hlt, ⟨_, cap, rfl, Or.inr ⟨g, rfl, Nat.le_refl _, Nat.lt_succ_self _, fun j hj => ?_⟩⟩, Or.inr ⟨rfl, (h.lt g rfl).1⟩⟩
    refine ownS_cell h ?_
    unfold nmS
    rw [List.getElem?_map, List.getD_eq_getElem?_getD, List.getElem?_eq_getElem hj]
    rfl
end Go.Proofs.YtdhjoimiejdgbaaDoor.L
namespace Go.Proofs.YtdhjoimiejdgbaaDoor.L
open Go.RowKit Bs Go.Maps Go.Shelf
set_option linter.unusedVariables false
/-- A block that no step turns. -/
def OkO (o : Obj) : Prop := (∀ es c, o ≠ .map es c) ∧ ∀ cur t f, o = .cells cur t f → t ≠ 122 ∧ t ≠ 124 ∧ t ≠ 129 ∧ t ≠ 38
theorem OkO.cells {cur : Array Value} {t : TypeId} {f : Nat × Nat} (h : t ≠ 122 ∧ t ≠ 124 ∧ t ≠ 129 ∧ t ≠ 38) : OkO (.cells cur t f) :=
  ⟨fun es c e => (by cases e), fun cur' t' f' e => by injection e with _ e _; subst e; exact h⟩
theorem OkO.deferred (r : Option (List Deferred)) : OkO (.deferred r) := ⟨fun es c e => (by cases e), fun cur' t' f' e => by cases e⟩
theorem Wh.not_ok {s W : World} {B : Nat} {G : List Nat} {st : Nat → St} (h : Wh s W B G st) {k : Nat} {o : Obj} (hk : W.heap[k]? = some o) (ho : OkO o) : k ∉ gsB B st := fun c => by
  rcases mem_gs c with rfl | ⟨i, hi, hm⟩
  · obtain ⟨cur, e, _⟩ := h.bb
    rw [hk] at e
    injection e with e
    exact (ho.2 cur _ _ e).2.2.2 rfl
  · rcases (h.tq i hi).kinds hm with ⟨es, cl, e⟩ | ⟨cur, t, e, ht⟩
    · rw [hk] at e
      injection e with e
      exact ho.1 es cl e
    · rw [hk] at e
      injection e with e
      have := ho.2 cur t _ e
      rcases ht with q | q | q
      · exact this.1 q
      · exact this.2.1 q
      · exact this.2.2.1 q
/-- Blocks that stay, with what lies in them. -/
structure Ks (W : World) (C : List (Nat × Obj)) : Prop where
  ok : ∀ p ∈ C, OkO p.2
  has : ∀ p ∈ C, W.heap[p.1]? = some p.2
theorem Ks.nil (W : World) : Ks W [] := ⟨fun p h => (by cases h), fun p h => (by cases h)⟩
theorem Ks.cons {W : World} {C : List (Nat × Obj)} (h : Ks W C) {k : Nat} {o : Obj} (hk : W.heap[k]? = some o) (ho : OkO o) : Ks W ((k, o) :: C) :=
  ⟨fun p hp => by
    rcases List.mem_cons.1 hp with rfl | hp
    · exact ho
    · exact h.ok p hp, fun p hp => by
    rcases List.mem_cons.1 hp with rfl | hp
    · exact hk
    · exact h.has p hp⟩
theorem Ks.bx {W W' : World} {C : List (Nat × Obj)} {M : List Nat} (h : Ks W C) (hx : Bx M W.heap.size W W') (hM : ∀ p ∈ C, p.1 ∉ M) : Ks W' C :=
  ⟨h.ok, fun p hp => (hx.block _ (lt_of_block (h.has p hp)) (hM p hp)).trans (h.has p hp)⟩
theorem Ks.low {W W' : World} {C : List (Nat × Obj)} (h : Ks W C) (hb : Below W.heap.size W W') : Ks W' C := h.bx (Bx.of (F := []) hb) (fun p _ => by simp)
theorem Ks.step {s W W' : World} {B : Nat} {st : Nat → St} {C : List (Nat × Obj)} (h : Ks W C) (hW : Wh s W B [] st) (hx : Bx (gsB B st) W.heap.size W W') : Ks W' C :=
  h.bx hx (fun p hp => hW.not_ok (h.has p hp) (h.ok p hp))
theorem Ks.lt {W : World} {C : List (Nat × Obj)} (h : Ks W C) : ∀ p ∈ C, p.1 < W.heap.size := fun p hp => lt_of_block (h.has p hp)
/-- A row that stays. -/
theorem own_const {V : World} {base : Nat} {e : TypeId} {size n : Nat} {v : Value} {xs : List Value} (h : V.ownsRow base e size v n xs) (he : e ≠ 122 ∧ e ≠ 124 ∧ e ≠ 129 ∧ e ≠ 38) :
    ∃ C : List (Nat × Obj), Ks V C ∧ (∀ p ∈ C, base ≤ p.1 ∧ v.ownBlock = some p.1) ∧ ∀ W, Ks W C → W.ownsRow base e size v n xs := by
  rcases h.2 with ⟨rfl, _⟩ | ⟨g, cap, cur, rfl, hg, hh, _⟩
  · exact ⟨[], Ks.nil V, fun p hp => (by cases hp), fun W _ => own_stays h (fun g hg => by simp [Value.ownBlock] at hg)⟩
  · refine ⟨[(g, .cells cur e (0, 0))], (Ks.nil V).cons hh (OkO.cells he), fun p hp => ?_, fun W hW => own_stays h (fun k hk => ?_)⟩
    · obtain rfl := List.mem_singleton.1 hp
      exact ⟨hg, rfl⟩
    · simp [Value.ownBlock] at hk
      subst hk
      exact (hW.has (g, _) (by simp)).trans hh.symm
theorem Ks.app {W : World} {C C' : List (Nat × Obj)} (h : Ks W C) (h' : Ks W C') : Ks W (C ++ C') :=
  ⟨fun p hp => (List.mem_append.1 hp).elim (h.ok p) (h'.ok p), fun p hp => (List.mem_append.1 hp).elim (h.has p) (h'.has p)⟩
theorem Ks.sub {W : World} {C C' : List (Nat × Obj)} (h : Ks W C) (hs : ∀ p ∈ C', p ∈ C) : Ks W C' := ⟨fun p hp => h.ok p (hs p hp), fun p hp => h.has p (hs p hp)⟩
/-- The lists that the law collects: a box and its row. -/
def Ls (base bo : Nat) (ps : List Sn) (W : World) : Prop := ∃ u, Boxed W bo 90 u ∧ W.ownsRow base 92 2 u ps.length (cellsP ps)
theorem Ls.bx {base bo : Nat} {ps : List Sn} {W W' : World} {M : List Nat} (h : Ls base bo ps W) (hx : Bx M W.heap.size W W') (hM : ∀ k ∈ M, Ot W k) (hn : ∀ k ∈ M, ∀ cur t f, W.heap[k]? = some (.cells cur t f) → t ≠ 92 ∧ t ≠ 90) : Ls base bo ps W' := by
  obtain ⟨u, h1, h2⟩ := h
  refine ⟨u, boxed_bx h1 hx (fun c => (hn _ c _ _ _ h1).2 rfl), own_bx h2 hx (fun g hg c => ?_)⟩
  rcases h2.2 with ⟨e, _⟩ | ⟨g', cap, cur, e, _, hh, _⟩
  · rw [e] at hg; simp [Value.ownBlock] at hg
  · rw [e] at hg; simp [Value.ownBlock] at hg; subst hg
    exact (hn _ c _ _ _ hh).1 rfl
theorem Ls.low {base bo : Nat} {ps : List Sn} {W W' : World} (h : Ls base bo ps W) (hb : Below W.heap.size W W') : Ls base bo ps W' := by
  obtain ⟨u, h1, h2⟩ := h
  exact ⟨u, (hb.block _ h1.lt).trans h1, own_stays h2 (fun g hg => hb.block g (h2.lt g hg).2)⟩
theorem Ls.step {s W W' : World} {B : Nat} {st : Nat → St} {base bo : Nat} {ps : List Sn} (h : Ls base bo ps W) (hW : Wh s W B [] st) (hx : Bx (gsB B st) W.heap.size W W') : Ls base bo ps W' := by
  obtain ⟨u, h1, h2⟩ := h
  refine ⟨u, boxed_bx h1 hx (hW.not_ok h1 (OkO.cells (by decide))), own_bx h2 hx (fun g hg => ?_)⟩
  rcases h2.2 with ⟨e, _⟩ | ⟨g', cap, cur, e, _, hh, _⟩
  · rw [e] at hg; simp [Value.ownBlock] at hg
  · rw [e] at hg; simp [Value.ownBlock] at hg; subst hg
    exact hW.not_ok hh (OkO.cells (by decide))
/-- The law's memory in its first walk. -/
structure Im (s : World) (B : Nat) (C : List (Nat × Obj)) (M B1 Ba n2 : Nat) (pre : List Sn) (W : World) : Prop where
  ks : Ks W C
  wh : ∃ st, Wh s W B [] st ∧ Re st
  ls : Ls M B1 pre W
  aa : ∃ k : Nat, k ≤ n2 ∧ Boxed W Ba 3 (.int .i64 (k : Int))
  sz : M ≤ W.heap.size
theorem Im.low {s : World} {B : Nat} {C : List (Nat × Obj)} {M B1 Ba n2 : Nat} {pre : List Sn} {W W' : World} (h : Im s B C M B1 Ba n2 pre W) (hb : Below W.heap.size W W') : Im s B C M B1 Ba n2 pre W' := by
  obtain ⟨st, h1, h2⟩ := h.wh
  obtain ⟨k, h3, h4⟩ := h.aa
  exact ⟨h.ks.low hb, ⟨st, h1.low hb, h2⟩, h.ls.low hb, ⟨k, h3, (hb.block _ h4.lt).trans h4⟩, Nat.le_trans h.sz hb.size⟩
theorem Im.put {s : World} {B : Nat} {C : List (Nat × Obj)} {M B1 Ba n2 : Nat} {pre : List Sn} {W : World} (h : Im s B C M B1 Ba n2 pre W) (hC : ∀ p ∈ C, p.1 < M) (hs : s.heap.size ≤ M) {l : Nat} {r : Loop} (hl : M ≤ l) (hL : W.heap[l]? = some (.loop r)) (o : Obj) : Im s B C M B1 Ba n2 pre (W.putObj l o) := by
  have hx := bx_put W l o
  have ho : ∀ k ∈ [l], Ot W k := fun k hk => by obtain rfl := List.mem_singleton.1 hk; exact Ot.of hL (OtO.loop r)
  obtain ⟨st, h1, h2⟩ := h.wh
  obtain ⟨k, h3, h4⟩ := h.aa
  refine ⟨h.ks.bx hx (fun p hp c => ?_), ⟨st, h1.frame hx (fun k hk => ?_) ho, h2⟩, h.ls.bx hx ho (fun k hk cur t f hc => ?_), ⟨k, h3, boxed_bx h4 hx (fun c => ?_)⟩, Nat.le_trans h.sz hx.size⟩
  · have := List.mem_singleton.1 c
    have := hC p hp
    omega
  · have := List.mem_singleton.1 hk
    omega
  · obtain rfl := List.mem_singleton.1 hk
    rw [hL] at hc
    cases hc
  · have := List.mem_singleton.1 c
    subst this
    rw [show W.heap[Ba]? = _ from h4] at hL
    cases hL
theorem bx_alloc {F : List Nat} {y z : World} (h : Bx F y.heap.size y z) (o : Obj) : Bx F y.heap.size y (z.alloc o) := h.alloc h.size o
theorem bx_below {F : List Nat} {y z z' : World} (h : Bx F y.heap.size y z) (hb : Below z.heap.size z z') : Bx F y.heap.size y z' := h.trans (Bx.of (hb.mono h.size))
theorem boxed_below {W W' : World} {k : Nat} {t : TypeId} {v : Value} (h : Boxed W k t v) (hb : Below W.heap.size W W') : Boxed W' k t v := (hb.block _ h.lt).trans h
theorem belowUU {w W : World} (h : Below w.drew.heap.size w.drew W) : Below w.heap.size w W := ⟨h.os, h.tape, h.output, h.size, h.block⟩
/-- What the drawn line of two calls and two boxes leaves. -/
structure Rg (wr : World) (l : List Rw) (d : List Dr) (p q : Value) (Y : World) : Prop where
  low : Below wr.heap.size wr Y
  ex : ∃ bk bn X v3 wv, p = .pointer (some ⟨bk, 0, none⟩) ∧ q = .pointer (some ⟨bn, 0, none⟩) ∧ wr.heap.size ≤ bk ∧ wr.heap.size ≤ bn ∧ wr.heap.size ≤ X ∧ Boxed Y bk 87 (allF X) ∧ Boxed Y bn 33 wv ∧
    Boxed Y X 72 v3 ∧ OwnS Y wr.heap.size v3 (bs l) ∧ Y.ownsRow wr.heap.size 63 3 wv (bsD d (spanD d)).length (cellsD (bsD d (spanD d)))
theorem cell_alloc2 (Z : World) (a b : Value) (t t' : TypeId) : ((Z.alloc (.cells #[a] t)).alloc (.cells #[b] t')).cell? ⟨Z.heap.size, 0, none⟩ = some a := ((Boxed.new Z t a).alloc _).cell
theorem frozen_alloc2 (Z : World) (a b : Value) (t t' : TypeId) : ((Z.alloc (.cells #[a] t)).alloc (.cells #[b] t')).frozen? ⟨Z.heap.size, 0, none⟩ = false := ((Boxed.new Z t a).alloc _).frozen
theorem keepA {wr Y : World} (h : Hid (Below wr.heap.size wr Y)) (o : Obj) : Hid (Below wr.heap.size wr (Y.alloc o)) := hid (h.out.alloc h.out.size o)
theorem keepT {wr Y Y' : World} (h : Hid (Below wr.heap.size wr Y)) (hb : Below Y.heap.size Y Y') : Hid (Below wr.heap.size wr Y') := hid (h.out.trans (hb.mono h.out.size))
theorem keepS {wr Y : World} (h : Hid (Below wr.heap.size wr Y)) (b : Nat) (u : Value) (hb : wr.heap.size ≤ b) : Hid (Below wr.heap.size wr (Y.setCell ⟨b, 0, none⟩ u)) := hid (below_set1 h.out b 0 u hb)
theorem run_store_fn (P : Program) (w : World) (a : Addr) (m : Mode) (f : Fn) (x y : Array Value) : (store a (.func f x y) m).run P w = stored P w a (.func f x y) m := run_store P w a _ m rfl
theorem bxn1 (Z : World) (t : TypeId) (v : Value) : Boxed (Z.alloc (.cells #[v] t)) Z.heap.size t v := Boxed.new Z t v
theorem bxn2 (Z : World) (t t' : TypeId) (v v' : Value) : Boxed ((Z.alloc (.cells #[v'] t')).alloc (.cells #[v] t)) (Z.heap.size + 1) t v := by simpa using Boxed.new (Z.alloc (.cells #[v'] t')) t v
theorem bxn3 (Z : World) (t t' : TypeId) (v v' : Value) : Boxed ((Z.alloc (.cells #[v] t)).alloc (.cells #[v'] t')) Z.heap.size t v := (Boxed.new Z t v).alloc _
theorem boxed_drew {W : World} {k : Nat} {t : TypeId} {v : Value} (h : Boxed W k t v) : Boxed W.drew k t v := h
theorem keepD {wr Y : World} (h : Hid (Below wr.heap.size wr Y)) : Hid (Below wr.heap.size wr Y.drew) := hid h.out.drew
theorem rg_mk {wr w3 w4 Y : World} {l : List Rw} {d : List Dr} {bk bn X b3 b4 : Nat} {v3 wv : Value} (L : Below wr.heap.size wr Y) (h1 : wr.heap.size ≤ bk ∧ wr.heap.size ≤ bn ∧ wr.heap.size ≤ b3 ∧ wr.heap.size ≤ b4)
    (k1 : Boxed Y bk 87 (allF X)) (k2 : Boxed Y bn 33 wv) (hb : Boxed w3 X 72 v3) (hX : b3 ≤ X) (O3 : OwnS w3 b3 v3 (bs l)) (x3 : Bx [bk, bn] w3.heap.size w3 Y) (n3 : ∀ k, b3 ≤ k → k < w3.heap.size → k ≠ bk ∧ k ≠ bn)
    (O4 : w4.ownsRow b4 63 3 wv (bsD d (spanD d)).length (cellsD (bsD d (spanD d)))) (x4 : Bx [bk, bn] w4.heap.size w4 Y) (n4 : ∀ k, b4 ≤ k → k < w4.heap.size → k ≠ bk ∧ k ≠ bn) : Rg wr l d (.pointer (some ⟨bk, 0, none⟩)) (.pointer (some ⟨bn, 0, none⟩)) Y := by
  refine ⟨L, bk, bn, X, v3, wv, rfl, rfl, h1.1, h1.2.1, Nat.le_trans h1.2.2.1 hX, k1, k2, boxed_bx hb x3 (fun c => ?_), own_bx (row_mono O3 h1.2.2.1) x3 (fun g hg c => ?_), own_bx (row_mono O4 h1.2.2.2) x4 (fun g hg c => ?_)⟩
  · have := n3 X hX hb.lt
    simp at c
    omega
  · have h := O3.lt g hg
    have := n3 g h.1 h.2
    simp at c
    omega
  · have h := O4.lt g hg
    have := n4 g h.1 h.2
    simp at c
    omega
theorem drew_size (W : World) : W.drew.heap.size = W.heap.size := rfl
end Go.Proofs.YtdhjoimiejdgbaaDoor.L
namespace Go.Proofs.YtdhjoimiejdgbaaDoor.L
open Go.RowKit Bs Go.Maps Go.Shelf
set_option linter.unusedVariables false
def rtC : Code → Code
  | .seq _ b => b
  | c => c
def hdC : Code → Code
  | .seq a _ => a
  | c => c
theorem sf6 : (rtC (rtC (rtC (rtC (rtC (rtC (Option.getD Tryd.f7.body Code.skip))))))) = .seq (hdC (rtC (rtC (rtC (rtC (rtC (rtC (Option.getD Tryd.f7.body Code.skip)))))))) (rtC (rtC (rtC (rtC (rtC (rtC (rtC (Option.getD Tryd.f7.body Code.skip)))))))) := by kernel_rfl
theorem sf7 : (rtC (rtC (rtC (rtC (rtC (rtC (rtC (Option.getD Tryd.f7.body Code.skip)))))))) = .seq (hdC (rtC (rtC (rtC (rtC (rtC (rtC (rtC (Option.getD Tryd.f7.body Code.skip))))))))) (rtC (rtC (rtC (rtC (rtC (rtC (rtC (rtC (Option.getD Tryd.f7.body Code.skip))))))))) := by kernel_rfl
theorem sf8 : (rtC (rtC (rtC (rtC (rtC (rtC (rtC (rtC (Option.getD Tryd.f7.body Code.skip))))))))) = .seq (hdC (rtC (rtC (rtC (rtC (rtC (rtC (rtC (rtC (Option.getD Tryd.f7.body Code.skip)))))))))) (rtC (rtC (rtC (rtC (rtC (rtC (rtC (rtC (rtC (Option.getD Tryd.f7.body Code.skip)))))))))) := by kernel_rfl
theorem sf9 : (rtC (rtC (rtC (rtC (rtC (rtC (rtC (rtC (rtC (Option.getD Tryd.f7.body Code.skip)))))))))) = .seq (hdC (rtC (rtC (rtC (rtC (rtC (rtC (rtC (rtC (rtC (Option.getD Tryd.f7.body Code.skip))))))))))) (rtC (rtC (rtC (rtC (rtC (rtC (rtC (rtC (rtC (rtC (Option.getD Tryd.f7.body Code.skip))))))))))) := by kernel_rfl
theorem sf10 : (rtC (rtC (rtC (rtC (rtC (rtC (rtC (rtC (rtC (rtC (Option.getD Tryd.f7.body Code.skip))))))))))) = .seq (hdC (rtC (rtC (rtC (rtC (rtC (rtC (rtC (rtC (rtC (rtC (Option.getD Tryd.f7.body Code.skip)))))))))))) (rtC (rtC (rtC (rtC (rtC (rtC (rtC (rtC (rtC (rtC (rtC (Option.getD Tryd.f7.body Code.skip)))))))))))) := by kernel_rfl
theorem sf11 : (rtC (rtC (rtC (rtC (rtC (rtC (rtC (rtC (rtC (rtC (rtC (Option.getD Tryd.f7.body Code.skip)))))))))))) = .seq (hdC (rtC (rtC (rtC (rtC (rtC (rtC (rtC (rtC (rtC (rtC (rtC (Option.getD Tryd.f7.body Code.skip))))))))))))) (rtC (rtC (rtC (rtC (rtC (rtC (rtC (rtC (rtC (rtC (rtC (rtC (Option.getD Tryd.f7.body Code.skip))))))))))))) := by kernel_rfl
theorem sf12 : (rtC (rtC (rtC (rtC (rtC (rtC (rtC (rtC (rtC (rtC (rtC (rtC (Option.getD Tryd.f7.body Code.skip))))))))))))) = .seq (hdC (rtC (rtC (rtC (rtC (rtC (rtC (rtC (rtC (rtC (rtC (rtC (rtC (Option.getD Tryd.f7.body Code.skip)))))))))))))) (rtC (rtC (rtC (rtC (rtC (rtC (rtC (rtC (rtC (rtC (rtC (rtC (rtC (Option.getD Tryd.f7.body Code.skip)))))))))))))) := by kernel_rfl
theorem sf13 : (rtC (rtC (rtC (rtC (rtC (rtC (rtC (rtC (rtC (rtC (rtC (rtC (rtC (Option.getD Tryd.f7.body Code.skip)))))))))))))) = .seq (hdC (rtC (rtC (rtC (rtC (rtC (rtC (rtC (rtC (rtC (rtC (rtC (rtC (rtC (Option.getD Tryd.f7.body Code.skip))))))))))))))) (rtC (rtC (rtC (rtC (rtC (rtC (rtC (rtC (rtC (rtC (rtC (rtC (rtC (rtC (Option.getD Tryd.f7.body Code.skip))))))))))))))) := by kernel_rfl
theorem sf14 : (rtC (rtC (rtC (rtC (rtC (rtC (rtC (rtC (rtC (rtC (rtC (rtC (rtC (rtC (Option.getD Tryd.f7.body Code.skip))))))))))))))) = .seq (hdC (rtC (rtC (rtC (rtC (rtC (rtC (rtC (rtC (rtC (rtC (rtC (rtC (rtC (rtC (Option.getD Tryd.f7.body Code.skip)))))))))))))))) (rtC (rtC (rtC (rtC (rtC (rtC (rtC (rtC (rtC (rtC (rtC (rtC (rtC (rtC (rtC (Option.getD Tryd.f7.body Code.skip)))))))))))))))) := by kernel_rfl
theorem sf15 : (rtC (rtC (rtC (rtC (rtC (rtC (rtC (rtC (rtC (rtC (rtC (rtC (rtC (rtC (rtC (Option.getD Tryd.f7.body Code.skip)))))))))))))))) = .seq (hdC (rtC (rtC (rtC (rtC (rtC (rtC (rtC (rtC (rtC (rtC (rtC (rtC (rtC (rtC (rtC (Option.getD Tryd.f7.body Code.skip))))))))))))))))) .ret := by kernel_rfl
/-- What stays from the walk's call on: the boxes, the snapshot, the document's rows. -/
structure Gm (b Bw bk bn B X bb : Nat) (v2 : Value) (ne : Int) (v3 : Value) (wa : Option Addr) (wc : Nat) (ss : List ByteArray) (D : List Dr) (N : Nat) (C : List (Nat × Obj)) : Prop where
  cb : (b, Obj.cells #[v2] 22 (0, 0)) ∈ C
  ce : (b + 1, Obj.cells #[.int .i64 ne] 3 (0, 0)) ∈ C
  cw : (Bw, Obj.cells #[.pointer (some ⟨B, 0, none⟩)] 24 (0, 0)) ∈ C
  ck : (bk, Obj.cells #[allF X] 87 (0, 0)) ∈ C
  cn : (bn, Obj.cells #[.slice wa N wc] 33 (0, 0)) ∈ C
  cx : (X, Obj.cells #[v3] 72 (0, 0)) ∈ C
  sl : ∀ W, Ks W C → SlS bb (bb + 1) W v3 ss ∧ bb < W.heap.size
  cs : ∃ o, (bb, o) ∈ C
  rw_ : ∀ W, Ks W C → ItemsE W wa D
  eq_ : prD D = tk ss
  ln : N = D.length ∧ N ≤ 65536 ∧ ss.length ≤ 65536
theorem Gm.mono {b Bw bk bn B X bb : Nat} {v2 : Value} {ne : Int} {v3 : Value} {wa : Option Addr} {wc : Nat} {ss : List ByteArray} {D : List Dr} {N : Nat} {C C' : List (Nat × Obj)} (h : Gm b Bw bk bn B X bb v2 ne v3 wa wc ss D N C) (hs : ∀ p ∈ C, p ∈ C') : Gm b Bw bk bn B X bb v2 ne v3 wa wc ss D N C' :=
  ⟨hs _ h.cb, hs _ h.ce, hs _ h.cw, hs _ h.ck, hs _ h.cn, hs _ h.cx, fun W hW => h.sl W (hW.sub hs), (by obtain ⟨o, ho⟩ := h.cs; exact ⟨o, hs _ ho⟩), fun W hW => h.rw_ W (hW.sub hs), h.eq_, h.ln⟩
theorem Gm.tlen {b Bw bk bn B X bb : Nat} {v2 : Value} {ne : Int} {v3 : Value} {wa : Option Addr} {wc : Nat} {ss : List ByteArray} {D : List Dr} {N : Nat} {C : List (Nat × Obj)} (h : Gm b Bw bk bn B X bb v2 ne v3 wa wc ss D N C) : (tk ss).length = N := by
  rw [← h.eq_, h.ln.1]
  unfold prD
  rw [List.length_map]
/-- A list of pairs that stays. -/
def Lc (bo : Nat) (ps : List Sn) (C : List (Nat × Obj)) : Prop := ∃ a c, (bo, Obj.cells #[.slice a ps.length c] 90 (0, 0)) ∈ C ∧ ∀ W, Ks W C → ItemsP W a ps
theorem Lc.mono {bo : Nat} {ps : List Sn} {C C' : List (Nat × Obj)} (h : Lc bo ps C) (hs : ∀ p ∈ C, p ∈ C') : Lc bo ps C' := by
  obtain ⟨a, c, h1, h2⟩ := h
  exact ⟨a, c, hs _ h1, fun W hW => h2 W (hW.sub hs)⟩
/-- A finished list is laid among what stays. -/
theorem Ls.const {base bo : Nat} {ps : List Sn} {W : World} (h : Ls base bo ps W) : ∃ C, Ks W C ∧ Lc bo ps C ∧ ∀ p ∈ C, p.1 = bo ∨ base ≤ p.1 := by
  obtain ⟨u, h1, h2⟩ := h
  obtain ⟨C, k1, k2, k3⟩ := own_const h2 (by decide)
  obtain ⟨a, c, hu⟩ := own_len h2
  subst hu
  refine ⟨(bo, Obj.cells #[.slice a ps.length c] 90 (0, 0)) :: C, k1.cons h1 (OkO.cells (by decide)), ⟨a, c, List.mem_cons_self .., fun W' hW' => itemsP_of (k3 W' (hW'.sub (fun p hp => List.mem_cons_of_mem _ hp)))⟩, fun p hp => ?_⟩
  rcases List.mem_cons.1 hp with rfl | hp
  · exact Or.inl rfl
  · exact Or.inr (k2 p hp).1
end Go.Proofs.YtdhjoimiejdgbaaDoor.L
