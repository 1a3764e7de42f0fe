import Derived.WalkKit
import Derived.WalkSpells
import Derived.WalkLawsBesides
import Derived.Handy
import Derived.OwnWalk
import Derived.Laws.MakeOwn
import Derived.Sort.Row
import Derived.Laws.AppendOwnNone
namespace Go.Proofs.YtcldglilhhhdoaaGreatDoor.Ap
open Go.RowKit
set_option linter.unusedVariables false
theorem hid {p : Prop} (h : p) : Hid p := h
section
variable {P : Program} (w : World)
/-- What an append leaves as it was: rows of other blocks, and what was there of the row itself. -/
theorem append_stays (base : Nat) (t ty e : TypeId) (i : TypeInfo) (z : Value) (size bytes : Nat) (ht : P.underlying t = some (.slice e)) (hi : P.info? e = some i) (hz : i.zero = some z)
    (hsize : i.size = size) (hby : i.bytes = bytes)
    (v : Value) (n : Nat) (xs : List Value) (hown : w.ownsRow base e size v n xs)
    (a : Addr) (m c : Nat) (news : List Value) (hl : news.length = m * size) (hnews : ∀ j u, news[j]? = some u → w.cell? (a.add j) = some u) (h1 : ∀ u ∈ news, u.oneCell' = true)
    (h63 : n + m ≤ maxLen) (hbytes : (n + m) * bytes ≤ 140737488355328) (hm : 0 < m) {v' : Value} {w' : World}
    (hr : (Builtin.append_ #[t, t] ty #[v, .slice (some a) m c]).run P w = .ok v' w') :
    (∀ b u n0 ys, w.ownsRow b e size u n0 ys → (n0 ≤ n ∨ u.ownBlock ≠ v.ownBlock) → w'.ownsRow b e size u n0 ys) ∧ (v'.ownBlock = v.ownBlock ∨ v'.ownBlock = some w.heap.size) := by
  subst hsize
  subst hby
  have h63' : n + m ≤ 9223372036854775807 := by simp only [maxLen] at h63; omega
  have moved : ∀ (o : Obj) b u n0 ys, w.ownsRow b e i.size u n0 ys → (w.drew.alloc o).ownsRow b e i.size u n0 ys := fun o b u n0 ys h =>
    h.kept (row := none) ⟨rfl, rfl, rfl, by simp, fun k hk _ => heap_alloc_old w.drew _ hk⟩ (by cases u.ownBlock <;> simp)
  rcases hown.2 with ⟨rfl, rfl⟩ | ⟨g, cap, cur, rfl, hbg, hg, hnc, hcm, hcs, htake⟩
  · have hr' := run_append_nil (P := P) w t ty e i z ht hi hz a m c news hl hnews (by omega) (by omega) (by have hb := hbytes; simp only [Nat.zero_add] at hb; omega)
    rw [hr] at hr'
    injection hr' with e1 e2
    subst e1 e2
    exact ⟨fun b u n0 ys h _ => moved _ b u n0 ys h, Or.inr rfl⟩
  · by_cases hroom : n + m ≤ cap
    · have hfit : n * i.size + news.length ≤ cur.size := by rw [hl, hcs, ← Nat.add_mul]; exact Nat.mul_le_mul_right _ hroom
      have hr' := run_append_room (P := P) w t ty e i ht hi g n cap cur hg a m c news hl hnews h1 hroom hfit
      rw [hr] at hr'
      injection hr' with e1 e2
      subst e1 e2
      refine ⟨fun b u n0 ys h ho => ?_, Or.inl rfl⟩
      by_cases hu : u.ownBlock = some g
      · have hn0 : n0 ≤ n := by
          rcases ho with h | h
          · exact h
          · exact absurd hu h
        rcases h.2 with ⟨rfl, _⟩ | ⟨g', cap', cur', rfl, hb', hg', hnc', hcm', hcs', htake'⟩
        · simp [Value.ownBlock] at hu
        · simp [Value.ownBlock] at hu
          subst hu
          rw [hg] at hg'
          injection hg' with hg'
          injection hg' with hg' _ _
          subst hg'
          have hle : n0 * i.size ≤ n * i.size := Nat.mul_le_mul_right _ hn0
          refine ⟨h.1, Or.inr ⟨g', cap', _, rfl, hb', setRow_heap w g' cur _ e _ hg, hnc', hcm', ?_, ?_⟩⟩
          · simp only [List.size_toArray, List.length_append, List.length_take, List.length_drop, Array.length_toList]
            omega
          · have hcl : n * i.size ≤ cur.toList.length := by rw [Array.length_toList]; omega
            show List.take (n0 * i.size) (cur.toList.take (n * i.size) ++ news ++ cur.toList.drop (n * i.size + news.length)) = ys
            rw [List.append_assoc, List.take_append_of_le_length (by rw [List.length_take]; omega), List.take_take, Nat.min_eq_left hle]
            exact htake'
      · refine h.kept (row := some g) ⟨rfl, rfl, rfl, by simp, fun k _ hk => setRow_other w g k _ (fun e => hk (by rw [e]))⟩ ?_
        exact Or.inr hu
    · have holds : ∀ j u, xs[j]? = some u → w.cell? ((⟨g, 0, none⟩ : Addr).add j) = some u := hown.cells (g := g) rfl
      have hr' := run_append_grow (P := P) w t ty e i z ht hi hz ⟨g, 0, none⟩ n cap xs hown.1 holds a m c news hl hnews (by omega) (by omega) (growslice_fits (by omega) hbytes)
      rw [hr] at hr'
      injection hr' with e1 e2
      subst e1 e2
      exact ⟨fun b u n0 ys h _ => moved _ b u n0 ys h, Or.inr rfl⟩
/-- An append to a row of one's own that tells what stays. -/
theorem wpList_append_stays {ops : Array Oper} {rest : List Oper} {o : Oper} {a : Act} {Q : Exit → Act → World → Prop} (hgd : o.guard = none) (s x : Operand) (t : TypeId)
    (ho : o.op = .call { callee := .builtin .append, args := #[s, x], argTypes := #[t, t] })
    (base : Nat) (e : TypeId) (i : TypeInfo) (z : Value) (size bytes : Nat) (ht : P.underlying t = some (.slice e)) (hi : P.info? e = some i) (hz : i.zero = some z)
    (hsize : i.size = size) (hby : i.bytes = bytes) (hzs : z.cells.size = size) (hsz : 0 < size)
    (v : Value) (n : Nat) (xs : List Value) (hs : a.eval s = v) (hown : w.ownsRow base e size v n xs)
    (ad : Addr) (m c : Nat) (news : List Value) (hx : a.eval x = .slice (some ad) m c) (hl : news.length = m * size) (hnews : ∀ j u, news[j]? = some u → w.cell? (ad.add j) = some u) (h1 : ∀ u ∈ news, u.oneCell' = true)
    (h63 : n + m ≤ maxLen) (hbytes : (n + m) * bytes ≤ 140737488355328) (hbase : base ≤ w.heap.size) (hm : 0 < m)
    (h : ∀ v' w', w'.ownsRow base e size v' (n + m) (xs ++ news) → w.grownBy w' v.ownBlock → (∀ b u n0 ys, w.ownsRow b e size u n0 ys → (n0 ≤ n ∨ u.ownBlock ≠ v.ownBlock) → w'.ownsRow b e size u n0 ys) → (v'.ownBlock = v.ownBlock ∨ v'.ownBlock = some w.heap.size) → wpList P ops Q rest (a.put o.dst v') w') : wpList P ops Q (o :: rest) a w :=
  wpList_plain hgd fun _ hK => by
    obtain ⟨v', w', hr, h2, h3, _⟩ := run_append_own (P := P) w base t o.type e i z size bytes ht hi hz hsize hby hzs hsz v n xs hown ad m c news hl hnews h1 h63 hbytes hbase
    have h4 := append_stays (P := P) w base t o.type e i z size bytes ht hi hz hsize hby v n xs hown ad m c news hl hnews h1 h63 hbytes hm hr
    unfold Oper.wp execOp
    simp only [ho, resolve, invoke, builtin, Sem.run_bind, Sem.run_pure, Result.andThen_ok, List.map_toArray, List.map_cons, List.map_nil, hs, hx, hr]
    exact hK _ _ (h v' w' h2 h3 h4.1 h4.2)
end
theorem set_block {W : World} {g o : Nat} {cur : Array Value} {t : TypeId} {fr : Nat × Nat} (v : Value) (h : W.heap[g]? = some (.cells cur t fr)) : (W.setCell ⟨g, o, none⟩ v).heap[g]? = some (.cells (cur.setIfInBounds o v) t fr) := by
  rw [Go.Sort.setCell_eq]
  show (W.heap.modify g _)[g]? = _
  rw [Array.getElem?_modify, if_pos rfl, h]
  rfl
theorem set_other (W : World) {g o k : Nat} (v : Value) (h : k ≠ g) : (W.setCell ⟨g, o, none⟩ v).heap[k]? = W.heap[k]? := by
  rw [Go.Sort.setCell_eq]
  show (W.heap.modify g _)[k]? = _
  rw [Array.getElem?_modify, if_neg (fun e => h e.symm)]
theorem set_size (W : World) (g o : Nat) (v : Value) : (W.setCell ⟨g, o, none⟩ v).heap.size = W.heap.size := by
  rw [Go.Sort.setCell_eq]
  show (W.heap.modify g _).size = _
  simp
theorem below_set {B : Nat} {a w : World} (h : Below B a w) (b o : Nat) (v : Value) (hb : B ≤ b) : Below B a (w.setCell ⟨b, o, none⟩ v) :=
  ⟨h.os, h.tape, h.output, by simpa using h.size, fun k hk => (heap_setCell_other w ⟨b, o, none⟩ k v (by show k ≠ b; omega)).trans (h.block k hk)⟩
theorem belowA (w : World) (o : Obj) : Below w.heap.size w (w.alloc o) := (Below.refl _ _).alloc (Nat.le_refl _) _
theorem one_at (w : World) (x : Value) (t : TypeId) : ∀ j u, [x][j]? = some u → (w.alloc (.cells #[x] t)).cell? ((⟨w.heap.size, 0, none⟩ : Addr).add j) = some u := by
  intro j u hu
  have hj : j = 0 := by
    apply Classical.byContradiction
    intro n
    rw [List.getElem?_eq_none (by simp; omega)] at hu
    cases hu
  subst hj
  simp at hu
  subst hu
  rw [Go.WideShapes.add_plain, Nat.zero_add]
  have h := cell_of_row (w.alloc (.cells #[x] t)) w.heap.size 0 #[x] t (0, 0) (heap_alloc_new w _)
  rw [h]
  rfl
/-- A row of things of one cell each that its maker owns. -/
abbrev Ow (e : TypeId) (W : World) (base : Nat) (v : Value) (l : List Value) : Prop := W.ownsRow base e 1 v l.length l
theorem ow_low {e : TypeId} {w w' : World} {base : Nat} {v : Value} {l : List Value} (h : Ow e w base v l) (hb : Below w.heap.size w w') : Ow e w' base v l := by
  obtain ⟨h1, h2⟩ := h
  refine ⟨h1, ?_⟩
  rcases h2 with h2 | ⟨g, cap, cur, hv, hg, hh, r⟩
  · exact Or.inl h2
  · refine Or.inr ⟨g, cap, cur, hv, hg, ?_, r⟩
    have hlt : g < w.heap.size := by
      apply Classical.byContradiction
      intro n
      rw [Array.getElem?_eq_none (by omega)] at hh
      cases hh
    rw [hb.block g hlt]
    exact hh
theorem ow_snoc {e : TypeId} {w : World} {base : Nat} {v x : Value} {l : List Value} (h : w.ownsRow base e 1 v (l.length + 1) (l ++ [x])) : Ow e w base v (l ++ [x]) := by
  unfold Ow
  rw [List.length_append]
  exact h
theorem ow_set {e : TypeId} {W : World} {base g n cp : Nat} {l : List Value} {k : Nat} (x : Value) (h : Ow e W base (.slice (some ⟨g, 0, none⟩) l.length cp) l) (hk : k < l.length) : Ow e (W.setCell ⟨g, k, none⟩ x) base (.slice (some ⟨g, 0, none⟩) l.length cp) (l.set k x) := by
  rcases h.2 with ⟨e, _⟩ | ⟨g', cap', cur, e, hb, hg, hnc, hcm, hcs, htake⟩
  · cases e
  injection e with e1 _ e3
  injection e1 with e1
  injection e1 with e1 _ _
  subst e1 e3
  refine ⟨by simp, Or.inr ⟨g, cp, _, by rw [List.length_set], hb, set_block _ hg, by rw [List.length_set]; exact hnc, hcm, by simpa using hcs, ?_⟩⟩
  rw [List.length_set, Nat.mul_one] at *
  rw [Array.toList_setIfInBounds, List.take_set, htake]
theorem ow_at {e : TypeId} {W : World} {base g n cp k : Nat} {l : List Value} {x : Value} (h : W.ownsRow base e 1 (.slice (some ⟨g, 0, none⟩) n cp) n l) (hk : l[k]? = some x) : W.cell? ⟨g, k, none⟩ = some x ∧ g < W.heap.size := by
  have hc := h.cells (g := g) rfl k x hk
  rw [Go.WideShapes.add_plain, Nat.zero_add] at hc
  exact ⟨hc, (h.lt g rfl).2⟩
section
variable (e eS : TypeId) (K : Nat) (mk bh : Nat → Nat → Value)
/-- Rows of one's own, each in a block of its own. -/
structure Fam (W : World) (base : Nat) (f : Nat → Value) (M : Nat → List Value) : Prop where
  own : ∀ j, j < K → Ow e W base (f j) (M j)
  apart : ∀ i j, i < K → j < K → i ≠ j → (f i).ownBlock = none ∨ (f i).ownBlock ≠ (f j).ownBlock
  short : ∀ j, j < K → (M j).length ≤ 17592186043904
variable {e eS K mk bh}
theorem Fam.low {W W' : World} {base : Nat} {f : Nat → Value} {M : Nat → List Value} (h : Fam e K W base f M) (hb : Below W.heap.size W W') : Fam e K W' base f M := ⟨fun j hj => ow_low (h.own j hj) hb, h.apart, h.short⟩
theorem grown_set (W : World) (g o : Nat) (a : Value) : W.grownBy (W.setCell ⟨g, o, none⟩ a) (some g) :=
  ⟨by rw [Go.Sort.setCell_eq]; rfl, by rw [Go.Sort.setCell_eq]; rfl, by rw [Go.Sort.setCell_eq]; rfl, by rw [set_size]; exact Nat.le_refl _, fun k _ hk => set_other W a (fun e => hk (by rw [e]))⟩
theorem Fam.set {W : World} {base : Nat} {f : Nat → Value} {M : Nat → List Value} (h : Fam e K W base f M) {p g cp k : Nat} (hp : p < K) (hf : f p = .slice (some ⟨g, 0, none⟩) (M p).length cp) (hk : k < (M p).length) (x : Value) :
    Fam e K (W.setCell ⟨g, k, none⟩ x) base f (fun j => if j = p then (M p).set k x else M j) := by
  refine ⟨fun j hj => ?_, h.apart, fun j hj => ?_⟩
  · by_cases c : j = p
    · subst c
      simp only [if_true]
      have := h.own j hj
      rw [hf] at this ⊢
      exact ow_set (n := 0) x this hk
    · simp only [if_neg c]
      refine (h.own j hj).kept (grown_set W g _ _) ?_
      have := h.apart j p hj hp c
      rw [hf] at this
      exact this
  · by_cases c : j = p
    · subst c
      simp only [if_true, List.length_set]
      exact h.short j hj
    · simp only [if_neg c]
      exact h.short j hj
variable (mk bh)
/-- The first places of a row are marked. -/
def Mkd (l : List Value) (p q : Nat) : Prop := ∀ k, k < q → l[k]? = some (mk p k)
def BH (p q : Nat) : List Value := (List.range q).map (bh p)
variable {mk bh}
theorem mkd_next {l : List Value} {p q : Nat} (h : Mkd mk l p q) (hq : q < l.length) : Mkd mk (l.set q (mk p q)) p (q + 1) := by
  intro k hk
  rw [List.getElem?_set]
  by_cases c : q = k
  · subst c
    simp [hq]
  · rw [if_neg c]
    exact h k (by omega)
theorem bh_next (p q : Nat) : BH bh p (q + 1) = BH bh p q ++ [bh p q] := by
  unfold BH
  rw [List.range_succ, List.map_append]
  rfl
theorem bh_len (p q : Nat) : (BH bh p q).length = q := by simp [BH]
theorem bh_at (l : List Value) (p q k : Nat) (h : k < q) : (l ++ BH bh p q)[l.length + k]? = some (bh p k) := by
  rw [List.getElem?_append_right (by omega), Nat.add_sub_cancel_left]
  simp [BH, List.getElem?_range h]
theorem fam_slice {W : World} {base p : Nat} {f : Nat → Value} {M : Nat → List Value} (h : Fam e K W base f M) (hp : p < K) : ∃ a cp, f p = .slice a (M p).length cp ∧ (0 < (M p).length → ∃ g, a = some ⟨g, 0, none⟩) := by
  rcases (h.own p hp).2 with ⟨e, h0⟩ | ⟨g, cap, cur, e, _⟩
  · exact ⟨none, 0, by rw [e, h0], fun h => by omega⟩
  · exact ⟨_, cap, e, fun _ => ⟨g, rfl⟩⟩
variable (e eS K mk bh)
/-- What stands while the rows are written over, one by one. -/
structure InvA (w wr : World) (base B off : Nat) (f : Nat → Value) (M Mx : Nat → List Value) (p : Nat) : Prop where
  fam : Fam e K wr base f Mx
  cells : ∀ j, j < K → wr.cell? ⟨B, off + j, none⟩ = some (f j)
  len : ∀ j, j < K → (Mx j).length = (M j).length
  done : ∀ j, j < p → Mkd mk (Mx j) j (Mx j).length
  gs : ∃ cg, wr.heap[w.heap.size]? = some (.cells cg eS (0, 0)) ∧ cg.size = K
  below : Below base w wr
  hB : B < wr.heap.size
  hG : w.heap.size < wr.heap.size
  kept : ∀ k, k < w.heap.size → (∀ j, j < K → (f j).ownBlock ≠ some k) → wr.heap[k]? = w.heap[k]?
variable {e eS K mk bh}
theorem InvA.low {w wr w2 : World} {base B off : Nat} {f : Nat → Value} {M Mx : Nat → List Value} {p : Nat} (h : InvA e eS K mk w wr base B off f M Mx p) (hb : Below wr.heap.size wr w2) (hbase : base ≤ w.heap.size) : InvA e eS K mk w w2 base B off f M Mx p :=
  ⟨h.fam.low hb, fun j hj => (hb.cell (p := ⟨B, off + j, none⟩) h.hB).trans (h.cells j hj), h.len, h.done, by obtain ⟨cg, h1, h2⟩ := h.gs; exact ⟨cg, (hb.block _ h.hG).trans h1, h2⟩, h.below.trans (hb.mono (Nat.le_trans hbase h.below.size)), Nat.lt_of_lt_of_le h.hB hb.size, Nat.lt_of_lt_of_le h.hG hb.size, fun k hk hn => (hb.block k (Nat.lt_of_lt_of_le hk h.below.size)).trans (h.kept k hk hn)⟩
theorem InvA.set {w wr : World} {base B off : Nat} {f : Nat → Value} {M Mx : Nat → List Value} {p : Nat} (h : InvA e eS K mk w wr base B off f M Mx p) {g cp q : Nat} (hp : p < K) (hf : f p = .slice (some ⟨g, 0, none⟩) (Mx p).length cp) (hq : q < (Mx p).length) (hgB : g ≠ B) (hgG : g ≠ w.heap.size) (hm : Mkd mk (Mx p) p q) :
    ∃ My, InvA e eS K mk w (wr.setCell ⟨g, q, none⟩ (mk p q)) base B off f M My p ∧ Mkd mk (My p) p (q + 1) ∧ (My p).length = (Mx p).length := by
  have hbg : base ≤ g := by
    have := (h.fam.own p hp).lt g (by rw [hf]; rfl)
    exact this.1
  refine ⟨_, ⟨h.fam.set hp hf hq (mk p q), fun j hj => ?_, fun j hj => ?_, fun j hj => ?_, ?_, below_set h.below _ _ _ hbg, by rw [set_size]; exact h.hB, by rw [set_size]; exact h.hG, fun k hk hn => (set_other wr _ (fun e => hn p hp (by rw [hf, e]; rfl))).trans (h.kept k hk hn)⟩, ?_, ?_⟩
  · rw [World.cell?_of_block (set_other wr _ (Ne.symm hgB))]
    exact h.cells j hj
  · by_cases c : j = p
    · subst c
      simp only [if_true, List.length_set]
      exact h.len j hj
    · simp only [if_neg c]
      exact h.len j hj
  · simp only [if_neg (Nat.ne_of_lt hj)]
    exact h.done j hj
  · rw [set_other wr _ (Ne.symm hgG)]
    exact h.gs
  · simp only [if_true]
    exact mkd_next hm hq
  · simp
variable (e eS K mk bh)
/-- What stands while the rows are grown. -/
structure InvB (w wr : World) (base B off : Nat) (f h : Nat → Value) (Mx : Nat → List Value) (p : Nat) : Prop where
  fam : Fam e K wr base f Mx
  cells : ∀ j, j < K → wr.cell? ⟨B, off + j, none⟩ = some (f j)
  gs : ∃ cg, wr.heap[w.heap.size]? = some (.cells cg eS (0, 0)) ∧ cg.size = K ∧ ∀ j, j < p → cg[j]? = some (h j)
  own : ∀ j, j < p → Ow e wr base (h j) (Mx j ++ BH bh j 40)
  off : ∀ j, j < p → ∀ i, i < K → i ≠ j → (f i).ownBlock = none ∨ (f i).ownBlock ≠ (h j).ownBlock
  ng : ∀ j, j < p → (h j).ownBlock ≠ some w.heap.size
  below : Below base w wr
  hB : B < wr.heap.size
  hG : w.heap.size < wr.heap.size
  kept : ∀ k, k < w.heap.size → (∀ j, j < K → (f j).ownBlock ≠ some k) → wr.heap[k]? = w.heap[k]?
variable {e eS K mk bh}
end
section
variable {eT eS : TypeId} {K : Nat} {bh : Nat → Nat → Value}
theorem InvB.low {w wr w2 : World} {base B off : Nat} {f h : Nat → Value} {Mx : Nat → List Value} {p : Nat} (i : InvB eT eS K bh w wr base B off f h Mx p) (hb : Below wr.heap.size wr w2) (hbase : base ≤ w.heap.size) : InvB eT eS K bh w w2 base B off f h Mx p :=
  ⟨i.fam.low hb, fun j hj => (hb.cell (p := ⟨B, off + j, none⟩) i.hB).trans (i.cells j hj), by obtain ⟨cg, h1, h2⟩ := i.gs; exact ⟨cg, (hb.block _ i.hG).trans h1, h2⟩, fun j hj => ow_low (i.own j hj) hb, i.off, i.ng, i.below.trans (hb.mono (Nat.le_trans hbase i.below.size)), Nat.lt_of_lt_of_le i.hB hb.size, Nat.lt_of_lt_of_le i.hG hb.size, fun k hk hn => (hb.block k (Nat.lt_of_lt_of_le hk i.below.size)).trans (i.kept k hk hn)⟩
/-- .. and an append to the row that is grown. -/
theorem InvB.app {w wr w' : World} {base B off : Nat} {f h : Nat → Value} {Mx : Nat → List Value} {p n : Nat} {v : Value} (i : InvB eT eS K bh w wr base B off f h Mx p) (hp : p < K) (hn : (Mx p).length ≤ n) (hbase : base ≤ w.heap.size)
    (hv : v.ownBlock = (f p).ownBlock ∨ ∃ b, v.ownBlock = some b ∧ (∀ j, j < K → (f j).ownBlock ≠ some b) ∧ (∀ j, j < p → (h j).ownBlock ≠ some b) ∧ b ≠ B ∧ w.heap.size < b)
    (hfB : (f p).ownBlock ≠ some B) (hfG : (f p).ownBlock ≠ some w.heap.size) (hvb : ∀ b, v.ownBlock = some b → base ≤ b)
    (hg : wr.grownBy w' v.ownBlock) (hst : ∀ b u n0 ys, wr.ownsRow b eT 1 u n0 ys → (n0 ≤ n ∨ u.ownBlock ≠ v.ownBlock) → w'.ownsRow b eT 1 u n0 ys) : InvB eT eS K bh w w' base B off f h Mx p := by
  have nB : some B ≠ v.ownBlock := by
    rcases hv with e | ⟨b, e, _, _, h3, _⟩
    · rw [e]; exact fun e => hfB e.symm
    · rw [e]; exact fun e => h3 (Option.some.inj e).symm
  have nG : some w.heap.size ≠ v.ownBlock := by
    rcases hv with e | ⟨b, e, _, _, _, h4⟩
    · rw [e]; exact fun e => hfG e.symm
    · rw [e]; exact fun e => by have := Option.some.inj e; omega
  refine ⟨⟨fun j hj => ?_, i.fam.apart, i.fam.short⟩, fun j hj => ?_, ?_, fun j hj => ?_, i.off, i.ng, i.below.grown hg (Nat.le_trans hbase i.below.size) (fun k e => hvb k e), Nat.lt_of_lt_of_le i.hB hg.size, Nat.lt_of_lt_of_le i.hG hg.size, fun k hk hn => (hg.block k (Nat.lt_of_lt_of_le hk i.below.size) (by
    rcases hv with e | ⟨b, e, _, _, _, h4⟩
    · rw [e]; exact fun e => hn p hp e.symm
    · rw [e]; exact fun e => by have := Option.some.inj e; omega)).trans (i.kept k hk hn)⟩
  · refine hst _ _ _ _ (i.fam.own j hj) ?_
    by_cases e : j = p
    · subst e; exact Or.inl hn
    · rcases hv with e' | ⟨b, e', h1, _⟩
      · rcases i.fam.apart j p hj hp e with h0 | h0
        · by_cases e9 : (f p).ownBlock = none
          · left
            rcases (i.fam.own j hj).2 with ⟨_, hz⟩ | ⟨g, _, _, hv, _⟩
            · rw [hz]; exact Nat.zero_le _
            · rw [hv] at h0; cases h0
          · right; rw [e', h0]; exact fun e => e9 e.symm
        · right; rw [e']; exact h0
      · right; rw [e']; exact h1 j hj
  · exact (World.cell?_of_block (hg.block B i.hB nB)).trans (i.cells j hj)
  · obtain ⟨cg, h1, h2⟩ := i.gs
    exact ⟨cg, (hg.block _ i.hG nG).trans h1, h2⟩
  · refine hst _ _ _ _ (i.own j hj) (Or.inr ?_)
    rcases hv with e' | ⟨b, e', _, h2, _⟩
    · rw [e']
      rcases i.off j hj p hp (by omega) with h0 | h0
      · rw [h0]
        rcases (i.own j hj).2 with ⟨_, hz⟩ | ⟨g, _, _, hv, _⟩
        · rw [List.length_append, bh_len] at hz; omega
        · rw [hv]; exact fun e => by cases e
      · exact fun e => h0 e.symm
    · rw [e']; exact h2 j hj
/-- .. and the grown row put into its place. -/
theorem InvB.put {w wr : World} {base B off : Nat} {f h : Nat → Value} {Mx : Nat → List Value} {p : Nat} {v : Value} (i : InvB eT eS K bh w wr base B off f h Mx p) (hp : p < K) (hown : Ow eT wr base v (Mx p ++ BH bh p 40)) (hbase : base ≤ w.heap.size) (hBG : B ≠ w.heap.size)
    (hv : v.ownBlock = (f p).ownBlock ∨ ∃ b, v.ownBlock = some b ∧ (∀ j, j < K → (f j).ownBlock ≠ some b) ∧ w.heap.size < b) (hfG : ∀ j, j < K → (f j).ownBlock ≠ some w.heap.size) :
    InvB eT eS K bh w (wr.setCell ⟨w.heap.size, p, none⟩ v) base B off f (fun j => if j = p then v else h j) Mx (p + 1) := by
  have hgr : wr.grownBy (wr.setCell ⟨w.heap.size, p, none⟩ v) (some w.heap.size) := ⟨by rw [Go.Sort.setCell_eq]; rfl, by rw [Go.Sort.setCell_eq]; rfl, by rw [Go.Sort.setCell_eq]; rfl, by rw [set_size]; exact Nat.le_refl _, fun k _ hk => set_other wr v (fun e => hk (by rw [e]))⟩
  have vG : v.ownBlock ≠ some w.heap.size := by
    rcases hv with e | ⟨b, e, _, hb⟩
    · rw [e]; exact hfG p hp
    · rw [e]; exact fun e => by have := Option.some.inj e; omega
  obtain ⟨cg, h1, h2, h3⟩ := i.gs
  refine ⟨⟨fun j hj => (i.fam.own j hj).kept hgr (Or.inr (hfG j hj)), i.fam.apart, i.fam.short⟩, fun j hj => ?_, ⟨_, set_block v h1, by simpa using h2, fun j hj => ?_⟩, fun j hj => ?_, fun j hj k hk hne => ?_, fun j hj => ?_, below_set i.below _ _ _ hbase, by rw [set_size]; exact i.hB, by rw [set_size]; exact i.hG, fun k hk hn => (set_other wr v (by omega)).trans (i.kept k hk hn)⟩
  · exact (World.cell?_of_block (set_other wr v hBG)).trans (i.cells j hj)
  · rw [Array.getElem?_setIfInBounds]
    by_cases e : p = j
    · subst e
      simp [h2, hp]
    · rw [if_neg e, if_neg (Ne.symm e)]
      exact h3 j (by omega)
  · by_cases e : j = p
    · subst e
      simp only [if_true]
      exact World.ownsRow.kept hown hgr (Or.inr vG)
    · simp only [if_neg e]
      exact World.ownsRow.kept (i.own j (by omega)) hgr (Or.inr (i.ng j (by omega)))
  · by_cases e : j = p
    · subst e
      simp only [if_true]
      rcases hv with e | ⟨b, e, hb, _⟩
      · rw [e]; exact i.fam.apart k j hk hp hne
      · rw [e]; exact Or.inr (hb k hk)
    · simp only [if_neg e]
      exact i.off j (by omega) k hk hne
  · by_cases e : j = p
    · subst e
      simp only [if_true]
      exact vG
    · simp only [if_neg e]
      exact i.ng j (by omega)
end
end Go.Proofs.YtcldglilhhhdoaaGreatDoor.Ap
