import Derived.Test.YtnclpdgbjefpmaaGg
namespace Go.Proofs.Ytnclpdgbjefpmaa.L
open Go.RowKit
set_option linter.unusedVariables false
set_option linter.unusedSimpArgs false
/-- An append of what can be read to a row of one's own. -/
theorem wp_app {P : Program} {w : World} {o : Oper} {a : Act} {K : Act → World → Prop} {Q : Exit → Act → World → Prop} (s x : Operand) (t : TypeId)
    (ho : o.op = .call { callee := .builtin .append, args := #[s, x], argTypes := #[t, t] })
    (base : Nat) (e : TypeId) (i : TypeInfo) (z : Value) (size bytes : Nat) (ht : P.underlying t = some (.slice e)) (hi : P.info? e = some i) (hz : i.zero = some z)
    (hsize : i.size = size) (hby : i.bytes = bytes) (hzs : z.cells.size = size) (hsz : 0 < size)
    (v : Value) (n : Nat) (xs : List Value) (hs : a.eval s = v) (hown : w.ownsRow base e size v n xs)
    (xa : Option Addr) (m c : Nat) (news : List Value) (hx : a.eval x = .slice xa m c) (hno : xa = none → c = 0 ∧ m = 0) (hl : news.length = m * size) (hnews : ∀ ad, xa = some ad → ∀ j u, news[j]? = some u → w.cell? (ad.add j) = some u) (h1 : ∀ u ∈ news, u.oneCell' = true)
    (h63 : n + m ≤ maxLen) (hbytes : (n + m) * bytes ≤ 140737488355328) (hbase : base ≤ w.heap.size)
    (h : ∀ v' w', w'.ownsRow base e size v' (n + m) (xs ++ news) → w.grownBy w' v.ownBlock → K (a.put o.dst v') w') : o.wp P a w K Q := by
  cases xa with
  | none =>
    obtain ⟨rfl, rfl⟩ := hno rfl
    have hrun := run_append_owned_none (P := P) (w := w) base t o.type e i size ht hi v n xs hown
    have he : news = [] := List.eq_nil_of_length_eq_zero (by rw [hl, Nat.zero_mul])
    subst he
    unfold Oper.wp
    simp [execOp, ho, resolve, invoke, builtin, hs, hx, hrun, Result.andThen]
    exact h v w (by rw [List.append_nil]; exact hown) ⟨rfl, rfl, rfl, Nat.le_refl _, fun _ _ _ => rfl⟩
  | some ad => exact wp_append_own w s x t ho base e i z size bytes ht hi hz hsize hby hzs hsz v n xs hs hown ad m c news hx hl (hnews ad rfl) h1 h63 hbytes hbase (fun v' w' h2 h3 _ => h v' w' h2 h3)
theorem wpl_app {P : Program} {w : World} {ops : Array Oper} {rest : List Oper} {o : Oper} {a : Act} {Q : Exit → Act → World → Prop} (hgd : o.guard = none) (s x : Operand) (t : TypeId)
    (ho : o.op = .call { callee := .builtin .append, args := #[s, x], argTypes := #[t, t] })
    (base : Nat) (e : TypeId) (i : TypeInfo) (z : Value) (size bytes : Nat) (ht : P.underlying t = some (.slice e)) (hi : P.info? e = some i) (hz : i.zero = some z)
    (hsize : i.size = size) (hby : i.bytes = bytes) (hzs : z.cells.size = size) (hsz : 0 < size)
    (v : Value) (n : Nat) (xs : List Value) (hs : a.eval s = v) (hown : w.ownsRow base e size v n xs)
    (xa : Option Addr) (m c : Nat) (news : List Value) (hx : a.eval x = .slice xa m c) (hno : xa = none → c = 0 ∧ m = 0) (hl : news.length = m * size) (hnews : ∀ ad, xa = some ad → ∀ j u, news[j]? = some u → w.cell? (ad.add j) = some u) (h1 : ∀ u ∈ news, u.oneCell' = true)
    (h63 : n + m ≤ maxLen) (hbytes : (n + m) * bytes ≤ 140737488355328) (hbase : base ≤ w.heap.size)
    (h : ∀ v' w', w'.ownsRow base e size v' (n + m) (xs ++ news) → w.grownBy w' v.ownBlock → wpList P ops Q rest (a.put o.dst v') w') : wpList P ops Q (o :: rest) a w :=
  wpList_plain hgd fun _ hK => wp_app s x t ho base e i z size bytes ht hi hz hsize hby hzs hsz v n xs hs hown xa m c news hx hno hl hnews h1 h63 hbytes hbase fun v' w' h2 h3 => hK _ _ (h v' w' h2 h3)
theorem rdv_news {w : World} {xa : Option Addr} {vs : List Value} (h : RdV w xa vs) : ∀ ad, xa = some ad → ∀ j u, vs[j]? = some u → w.cell? (ad.add j) = some u := by
  intro ad e j u hu
  have hj : j < vs.length := by
    by_cases hj : j < vs.length
    · exact hj
    · rw [List.getElem?_eq_none (by omega)] at hu; cases hu
  rcases h with h0 | ⟨b, off, e', hb, hc⟩
  · omega
  · rw [e] at e'
    cases e'
    have := hc j hj
    rw [List.getD_eq_getElem?_getD, hu] at this
    rw [Go.WideShapes.add_plain]
    exact this
theorem rdc_news {w : World} {xa : Option Addr} {l : List Ins} (h : RdC w xa l) : ∀ ad, xa = some ad → ∀ j u, (insX l)[j]? = some u → w.cell? (ad.add j) = some u := by
  intro ad e j u hu
  have hj : j < l.length * 4 := by
    by_cases hj : j < (insX l).length
    · rw [insX_len] at hj; exact hj
    · rw [List.getElem?_eq_none (by omega)] at hu; cases hu
  rcases h with h0 | ⟨b, off, e', hb, hc⟩
  · omega
  · rw [e] at e'
    cases e'
    obtain ⟨k, q, hq, rfl⟩ : ∃ k q, q < 4 ∧ j = k * 4 + q := ⟨j / 4, j % 4, by omega, by omega⟩
    have hk : k < l.length := by omega
    rw [insX_get l k q hk hq] at hu
    obtain ⟨h0, h1, h2, h3⟩ := hc k hk
    rw [Go.WideShapes.add_plain]
    show w.cell? ⟨b, off + (k * 4 + q), none⟩ = _
    rcases (by omega : q = 0 ∨ q = 1 ∨ q = 2 ∨ q = 3) with rfl | rfl | rfl | rfl
    · injection hu with hu; subst hu; exact h0
    · injection hu with hu; subst hu; exact h1
    · injection hu with hu; subst hu; exact h2
    · injection hu with hu; subst hu; exact h3
theorem insX_one (l : List Ins) : ∀ u ∈ insX l, u.oneCell' = true := by
  intro u hu
  unfold insX at hu
  rw [List.mem_flatMap] at hu
  obtain ⟨i, _, hu⟩ := hu
  simp [insV] at hu
  rcases hu with rfl | rfl | rfl | rfl <;> rfl
theorem own_rdc {W : World} {base n : Nat} {v : Value} {l : List Ins} (h : W.ownsRow base 68 4 v n (insX l)) : ∃ a ca, v = .slice a l.length ca ∧ RdC W a l := by
  have hn : n = l.length := by have := h.1; rw [insX_len] at this; omega
  subst hn
  rcases h.2 with ⟨rfl, h0⟩ | ⟨g, cap, cur, rfl, _, hg, _, _, hc, ht⟩
  · exact ⟨none, 0, by rw [h0], Or.inl h0⟩
  · refine ⟨_, _, rfl, Or.inr ⟨g, 0, rfl, lt_blk hg, fun j hj => ?_⟩⟩
    have key : ∀ q u, q < 4 → (insV (l.getD j default)).toList[q]? = some u → W.cell? ⟨g, 0 + (j * 4 + q), none⟩ = some u := by
      intro q u hq hu
      have h5 := h.cells (g := g) rfl (j * 4 + q) u (by rw [insX_get l j q hj hq]; exact hu)
      rw [Go.WideShapes.add_plain] at h5
      exact h5
    refine ⟨key 0 _ (by omega) rfl, ?_, ?_, ?_⟩
    · have := key 1 _ (by omega) rfl; rw [Nat.add_assoc]; exact this
    · have := key 2 _ (by omega) rfl; rw [Nat.add_assoc]; exact this
    · have := key 3 _ (by omega) rfl; rw [Nat.add_assoc]; exact this
/-- Lists of lists that can be read; where there is no address there is no room. -/
def RdN {α : Type} (inj : α → Value) (W : World) (a : Option Addr) (ls : List (List α)) : Prop := ∃ vs : List Value, vs.length = ls.length ∧ RdV W a vs ∧ ∀ j, j < ls.length → ∃ ea ec, vs.getD j undef = .slice ea (ls.getD j []).length ec ∧ (ea = none → ec = 0) ∧ RdV W ea ((ls.getD j []).map inj)
theorem RdN.l {α : Type} {inj : α → Value} {W : World} {a : Option Addr} {ls : List (List α)} (h : RdN inj W a ls) : RdL inj W a ls := by
  obtain ⟨vs, h1, h2, h3⟩ := h
  exact ⟨vs, h1, h2, fun j hj => by obtain ⟨ea, ec, e, _, r⟩ := h3 j hj; exact ⟨ea, ec, e, r⟩⟩
theorem RdN.low {α : Type} {inj : α → Value} {W W' : World} {a : Option Addr} {ls : List (List α)} (h : RdN inj W a ls) (k : Below W.heap.size W W') : RdN inj W' a ls := by
  obtain ⟨vs, h1, h2, h3⟩ := h
  exact ⟨vs, h1, h2.low k, fun j hj => by obtain ⟨ea, ec, e, n, r⟩ := h3 j hj; exact ⟨ea, ec, e, n, r.low k⟩⟩
theorem rdn_at {α : Type} {inj : α → Value} {W : World} {a : Option Addr} {ls : List (List α)} (h : RdN inj W a ls) {k : Nat} (hk : k < ls.length) : ∃ b off ea ec, a = some ⟨b, off, none⟩ ∧ b < W.heap.size ∧ W.cell? ⟨b, off + k, none⟩ = some (.slice ea (ls.getD k []).length ec) ∧ (ea = none → ec = 0) ∧ RdV W ea ((ls.getD k []).map inj) := by
  obtain ⟨vs, h1, h2, h3⟩ := h
  obtain ⟨ea, ec, e, n, r⟩ := h3 k hk
  rcases h2 with h0 | ⟨b, off, ha, hb, hc⟩
  · omega
  · exact ⟨b, off, ea, ec, ha, hb, by rw [hc k (by omega), e], n, r⟩
/-- A program that came in. -/
structure PgN (w : World) (v : Array Value) (p : Pg) : Prop where
  ex : ∃ a0 c0 a1 c1 a2 c2 a3 c3 a4 c4, v = #[.slice a0 p.tx.length c0, .slice a1 p.nu.length c1, .slice a2 p.st.length c2, .slice a3 p.ns.length c3, .slice a4 p.cd.length c4, .int .i64 p.dep, .int .i64 p.loc] ∧
    RdV w a0 (p.tx.map Value.string) ∧ RdV w a1 (p.nu.map (Value.int .i64)) ∧ RdN Value.string w a2 p.st ∧ RdN (Value.int .i64) w a3 p.ns ∧ RdC w a4 p.cd ∧ (a0 = none → c0 = 0) ∧ (a1 = none → c1 = 0) ∧ (a4 = none → c4 = 0)
theorem PgN.pg {w : World} {v : Array Value} {p : Pg} (h : PgN w v p) : PgR w v p := by
  obtain ⟨a0, c0, a1, c1, a2, c2, a3, c3, a4, c4, e, h0, h1, h2, h3, h4, _⟩ := h.ex
  exact ⟨a0, c0, a1, c1, a2, c2, a3, c3, a4, c4, e, h0, h1, h2.l, h3.l, h4⟩
theorem PgN.low {w w' : World} {v : Array Value} {p : Pg} (h : PgN w v p) (k : Below w.heap.size w w') : PgN w' v p := by
  obtain ⟨a0, c0, a1, c1, a2, c2, a3, c3, a4, c4, e, h0, h1, h2, h3, h4, n⟩ := h.ex
  exact ⟨a0, c0, a1, c1, a2, c2, a3, c3, a4, c4, e, h0.low k, h1.low k, h2.low k, h3.low k, h4.low k, n⟩
/-- Few enough to be copied. -/
structure SmN (p : Pg) : Prop where
  tx : p.tx.length < 8388608
  nu : p.nu.length < 8388608
  st : p.st.length < 8388608
  ns : p.ns.length < 8388608
  cd : p.cd.length < 8388608
  sk : ∀ j, j < p.st.length → (p.st.getD j []).length < 8388608
  nk : ∀ j, j < p.ns.length → (p.ns.getD j []).length < 8388608
/-- Rows of one's own that are collected. -/
structure Rwk {α : Type} (W : World) (base : Nat) (e : TypeId) (inj : α → Value) (l : List (List α)) (vs : List Value) : Prop where
  len : vs.length = l.length
  row : ∀ j, j < l.length → W.ownsRow base e 1 (vs.getD j undef) (l.getD j []).length ((l.getD j []).map inj)
theorem row_low {W W' : World} {b n size : Nat} {e : TypeId} {v : Value} {xs : List Value} (h : W.ownsRow b e size v n xs) (k : Below W.heap.size W W') : W'.ownsRow b e size v n xs :=
  h.kept (row := none) ⟨k.os, k.tape, k.output, k.size, fun b hb _ => k.block b hb⟩ (by cases hv : v.ownBlock <;> simp)
theorem Rwk.low {α : Type} {W W' : World} {base : Nat} {e : TypeId} {inj : α → Value} {l : List (List α)} {vs : List Value} (h : Rwk W base e inj l vs) (k : Below W.heap.size W W') : Rwk W' base e inj l vs := ⟨h.len, fun j hj => row_low (h.row j hj) k⟩
theorem Rwk.grow {α : Type} {W W' : World} {base b2 n2 s2 : Nat} {e e2 : TypeId} {inj : α → Value} {l : List (List α)} {vs : List Value} {v : Value} {xs : List Value} (h : Rwk W base e inj l vs) (hv : W.ownsRow b2 e2 s2 v n2 xs) (hne : e ≠ e2) (k : W.grownBy W' v.ownBlock) : Rwk W' base e inj l vs :=
  ⟨h.len, fun j hj => (h.row j hj).kept k (row_ne (h.row j hj) hv hne)⟩
theorem Rwk.box {α : Type} {W W' : World} {base ob : Nat} {e t : TypeId} {inj : α → Value} {l : List (List α)} {vs : List Value} {cs : Array Value} (h : Rwk W base e inj l vs) (hb : W.heap[ob]? = some (.cells cs t (0, 0))) (hne : e ≠ t) (k : Gb ob W W') : Rwk W' base e inj l vs :=
  ⟨h.len, fun j hj => (h.row j hj).kept k (row_box (h.row j hj) hb hne)⟩
theorem Rwk.snoc {α : Type} {W : World} {base b' : Nat} {e : TypeId} {inj : α → Value} {l : List (List α)} {vs : List Value} {vx : Value} {x : List α} (h : Rwk W base e inj l vs) (hx : W.ownsRow b' e 1 vx x.length (x.map inj)) (hb : base ≤ b') : Rwk W base e inj (l ++ [x]) (vs ++ [vx]) := by
  have hlen := h.len
  refine ⟨by simp [hlen], fun j hj => ?_⟩
  by_cases hj' : j < l.length
  · rw [getD_snoc_lt vs vx undef (by omega), getD_snoc_lt l x [] hj']
    exact h.row j hj'
  · have : j = l.length := by simp at hj; omega
    rw [getD_snoc_eq vs vx undef (by omega), getD_snoc_eq l x [] this]
    exact row_base hx hb
theorem Rwk.rd {α : Type} {W : World} {base n : Nat} {E e : TypeId} {inj : α → Value} {v : Value} {l : List (List α)} {vs : List Value} (h : Rwk W base e inj l vs) (hr : W.ownsRow base E 1 v n vs) : ∃ a c, v = .slice a l.length c ∧ RdL inj W a l := by
  obtain ⟨a, c, e1, r⟩ := own_form hr
  have hn : n = l.length := by have := hr.1; have := h.len; omega
  subst hn
  refine ⟨a, c, e1, vs, h.len, r, fun j hj => ?_⟩
  obtain ⟨ea, ec, e2, r2⟩ := own_form (h.row j hj)
  exact ⟨ea, ec, e2, r2⟩
/-- The copy while it is made. -/
structure Cst (w0 W : World) (ab rb qb : Nat) (av : Array Value) (v0 v1 v2 v3 v4 : Value) (q : Pg) : Prop where
  bl : Below w0.heap.size w0 W
  arg : W.heap[ab]? = some (.cells av 30 (0, 0))
  res : W.heap[rb]? = some (.cells #[.slice none 0 0, .slice none 0 0, .slice none 0 0, .slice none 0 0, .slice none 0 0, .int .i64 0, .int .i64 0] 30 (0, 0))
  box : W.heap[qb]? = some (.cells #[v0, v1, v2, v3, v4, .int .i64 q.dep, .int .i64 q.loc] 30 (0, 0))
  tx : W.ownsRow w0.heap.size 9 1 v0 q.tx.length (q.tx.map Value.string)
  nu : W.ownsRow w0.heap.size 3 1 v1 q.nu.length (q.nu.map (Value.int .i64))
  cd : W.ownsRow w0.heap.size 68 4 v4 q.cd.length (insX q.cd)
  st : ∃ vs, W.ownsRow w0.heap.size 24 1 v2 q.st.length vs ∧ Rwk W w0.heap.size 9 Value.string q.st vs
  ns : ∃ vs, W.ownsRow w0.heap.size 25 1 v3 q.ns.length vs ∧ Rwk W w0.heap.size 3 (Value.int .i64) q.ns vs
  nq : w0.heap.size ≤ qb
  nr : w0.heap.size ≤ rb
  n1 : ab ≠ qb
  n2 : rb ≠ qb
theorem Cst.low {w0 W W' : World} {ab rb qb : Nat} {av : Array Value} {v0 v1 v2 v3 v4 : Value} {q : Pg} (h : Cst w0 W ab rb qb av v0 v1 v2 v3 v4 q) (k : Below W.heap.size W W') : Cst w0 W' ab rb qb av v0 v1 v2 v3 v4 q := by
  refine ⟨bch h.bl k, (k.block _ (lt_blk h.arg)).trans h.arg, (k.block _ (lt_blk h.res)).trans h.res, (k.block _ (lt_blk h.box)).trans h.box, row_low h.tx k, row_low h.nu k, row_low h.cd k, ?_, ?_, h.nq, h.nr, h.n1, h.n2⟩
  · obtain ⟨vs, a, b⟩ := h.st
    exact ⟨vs, row_low a k, b.low k⟩
  · obtain ⟨vs, a, b⟩ := h.ns
    exact ⟨vs, row_low a k, b.low k⟩
/-- A cell of the copy is written: the rows stay, one of them is new. -/
theorem Cst.set {w0 W : World} {ab rb qb : Nat} {av : Array Value} {v0 v1 v2 v3 v4 u0 u1 u2 u3 u4 : Value} {q q' : Pg} (j : Nat) (x : Value) (hbl : Below w0.heap.size w0 W) (harg : W.heap[ab]? = some (.cells av 30 (0, 0))) (hres : W.heap[rb]? = some (.cells #[.slice none 0 0, .slice none 0 0, .slice none 0 0, .slice none 0 0, .slice none 0 0, .int .i64 0, .int .i64 0] 30 (0, 0))) (hbox : W.heap[qb]? = some (.cells #[v0, v1, v2, v3, v4, .int .i64 q.dep, .int .i64 q.loc] 30 (0, 0)))
    (hx : (#[v0, v1, v2, v3, v4, .int .i64 q.dep, .int .i64 q.loc] : Array Value).setIfInBounds j x = #[u0, u1, u2, u3, u4, .int .i64 q'.dep, .int .i64 q'.loc])
    (htx : W.ownsRow w0.heap.size 9 1 u0 q'.tx.length (q'.tx.map Value.string)) (hnu : W.ownsRow w0.heap.size 3 1 u1 q'.nu.length (q'.nu.map (Value.int .i64))) (hcd : W.ownsRow w0.heap.size 68 4 u4 q'.cd.length (insX q'.cd))
    (hst : ∃ vs, W.ownsRow w0.heap.size 24 1 u2 q'.st.length vs ∧ Rwk W w0.heap.size 9 Value.string q'.st vs) (hns : ∃ vs, W.ownsRow w0.heap.size 25 1 u3 q'.ns.length vs ∧ Rwk W w0.heap.size 3 (Value.int .i64) q'.ns vs)
    (nq : w0.heap.size ≤ qb) (nr : w0.heap.size ≤ rb) (n1 : ab ≠ qb) (n2 : rb ≠ qb) : Cst w0 (W.setCell ⟨qb, j, none⟩ x) ab rb qb av u0 u1 u2 u3 u4 q' := by
  have k := gb_set hbox j x
  refine ⟨below_gb hbl k nq, k.at harg n1, k.at hres n2, ?_, htx.kept k (row_box htx hbox (by decide)), hnu.kept k (row_box hnu hbox (by decide)), hcd.kept k (row_box hcd hbox (by decide)), ?_, ?_, nq, nr, n1, n2⟩
  · rw [setCell_eq_setRow _ _ _ _ _ _ _ hbox, setRow_heap _ _ _ _ _ _ hbox, ← hx]
  · obtain ⟨vs, a, b⟩ := hst
    exact ⟨vs, a.kept k (row_box a hbox (by decide)), b.box hbox (by decide) k⟩
  · obtain ⟨vs, a, b⟩ := hns
    exact ⟨vs, a.kept k (row_box a hbox (by decide)), b.box hbox (by decide) k⟩
theorem none_below {W W' : World} (h : W.grownBy W' none) : Below W.heap.size W W' := ⟨h.os, h.tape, h.output, h.size, fun j hj => h.block j hj (by simp)⟩
theorem box_grow {W W' : World} {base n size ob : Nat} {e t : TypeId} {v : Value} {xs : List Value} {cs : Array Value} (h : W.ownsRow base e size v n xs) (hb : W.heap[ob]? = some (.cells cs t (0, 0))) (hne : e ≠ t) (k : W.grownBy W' v.ownBlock) : W'.heap[ob]? = some (.cells cs t (0, 0)) :=
  (k.block ob (lt_blk hb) (fun e1 => by
    rcases row_box h hb hne with h1 | h1
    · rw [h1] at e1; cases e1
    · exact h1 e1.symm)).trans hb
theorem below_grow {w0 W W' : World} {n size : Nat} {e : TypeId} {v : Value} {xs : List Value} (h : Below w0.heap.size w0 W) (hr : W.ownsRow w0.heap.size e size v n xs) (k : W.grownBy W' v.ownBlock) : Below w0.heap.size w0 W' :=
  ⟨k.os.trans h.os, k.tape.trans h.tape, k.output.trans h.output, Nat.le_trans h.size k.size, fun j hj => (k.block j (Nat.lt_of_lt_of_le hj h.size) (fun e => by have := (hr.lt j e.symm).1; omega)).trans (h.block j hj)⟩
theorem cst_st {w0 W w2 w4 : World} {ab rb qb b : Nat} {av : Array Value} {v0 v1 v2 v3 v4 vx v' : Value} {q : Pg} {x : List ByteArray} {vs : List Value} (h : Cst w0 W ab rb qb av v0 v1 v2 v3 v4 q) (hr0 : W.ownsRow w0.heap.size 24 1 v2 q.st.length vs) (hw0 : Rwk W w0.heap.size 9 Value.string q.st vs)
    (l2 : Below W.heap.size W w2) (hx : w2.ownsRow b 9 1 vx x.length (x.map Value.string)) (hb : w0.heap.size ≤ b) (hr4 : w4.ownsRow w0.heap.size 24 1 v' (q.st.length + 1) (vs ++ [vx])) (k : w2.grownBy w4 v2.ownBlock) :
    w4.heap[qb]? = some (.cells #[v0, v1, v2, v3, v4, .int .i64 q.dep, .int .i64 q.loc] 30 (0, 0)) ∧ Below w0.heap.size w0 w4 ∧ w4.heap[ab]? = some (.cells av 30 (0, 0)) ∧ Cst w0 (w4.setCell ⟨qb, 2, none⟩ v') ab rb qb av v0 v1 v' v3 v4 ⟨q.tx, q.nu, q.st ++ [x], q.ns, q.cd, q.dep, q.loc⟩ := by
  have HC := h.low l2
  have hr := row_low hr0 l2
  have hw := hw0.low l2
  have t0 := HC.tx.kept k (row_ne HC.tx hr (by decide))
  have t1 := HC.nu.kept k (row_ne HC.nu hr (by decide))
  have t4 := HC.cd.kept k (row_ne HC.cd hr (by decide))
  have hbx := box_grow hr HC.box (by decide) k
  refine ⟨hbx, below_grow HC.bl hr k, box_grow hr HC.arg (by decide) k, Cst.set 2 v' (below_grow HC.bl hr k) (box_grow hr HC.arg (by decide) k) (box_grow hr HC.res (by decide) k) hbx rfl t0 t1 t4 ?_ ?_ HC.nq HC.nr HC.n1 HC.n2⟩
  ·
    exact ⟨vs ++ [vx], by simpa using hr4, (hw.grow hr (by decide) k).snoc (hx.kept k (row_ne hx hr (by decide))) hb⟩
  · obtain ⟨us, a, b⟩ := HC.ns
    exact ⟨us, a.kept k (row_ne a hr (by decide)), b.grow hr (by decide) k⟩
theorem cst_ns {w0 W w2 w4 : World} {ab rb qb b : Nat} {av : Array Value} {v0 v1 v2 v3 v4 vx v' : Value} {q : Pg} {x : List Int} {vs : List Value} (h : Cst w0 W ab rb qb av v0 v1 v2 v3 v4 q) (hr0 : W.ownsRow w0.heap.size 25 1 v3 q.ns.length vs) (hw0 : Rwk W w0.heap.size 3 (Value.int .i64) q.ns vs)
    (l2 : Below W.heap.size W w2) (hx : w2.ownsRow b 3 1 vx x.length (x.map (Value.int .i64))) (hb : w0.heap.size ≤ b) (hr4 : w4.ownsRow w0.heap.size 25 1 v' (q.ns.length + 1) (vs ++ [vx])) (k : w2.grownBy w4 v3.ownBlock) :
    w4.heap[qb]? = some (.cells #[v0, v1, v2, v3, v4, .int .i64 q.dep, .int .i64 q.loc] 30 (0, 0)) ∧ Below w0.heap.size w0 w4 ∧ w4.heap[ab]? = some (.cells av 30 (0, 0)) ∧ Cst w0 (w4.setCell ⟨qb, 3, none⟩ v') ab rb qb av v0 v1 v2 v' v4 ⟨q.tx, q.nu, q.st, q.ns ++ [x], q.cd, q.dep, q.loc⟩ := by
  have HC := h.low l2
  have hr := row_low hr0 l2
  have hw := hw0.low l2
  have t0 := HC.tx.kept k (row_ne HC.tx hr (by decide))
  have t1 := HC.nu.kept k (row_ne HC.nu hr (by decide))
  have t4 := HC.cd.kept k (row_ne HC.cd hr (by decide))
  have hbx := box_grow hr HC.box (by decide) k
  refine ⟨hbx, below_grow HC.bl hr k, box_grow hr HC.arg (by decide) k, Cst.set 3 v' (below_grow HC.bl hr k) (box_grow hr HC.arg (by decide) k) (box_grow hr HC.res (by decide) k) hbx rfl t0 t1 t4 ?_ ?_ HC.nq HC.nr HC.n1 HC.n2⟩
  · obtain ⟨us, a, b⟩ := HC.st
    exact ⟨us, a.kept k (row_ne a hr (by decide)), b.grow hr (by decide) k⟩
  ·
    exact ⟨vs ++ [vx], by simpa using hr4, (hw.grow hr (by decide) k).snoc (hx.kept k (row_ne hx hr (by decide))) hb⟩
theorem cst_new {w : World} {av : Array Value} {d lo : Int} : Cst w (((w.alloc (.cells av 30)).alloc (.cells #[.slice none 0 0, .slice none 0 0, .slice none 0 0, .slice none 0 0, .slice none 0 0, .int .i64 0, .int .i64 0] 30)).alloc (.cells #[.slice none 0 0, .slice none 0 0, .slice none 0 0, .slice none 0 0, .slice none 0 0, .int .i64 d, .int .i64 lo] 30)) w.heap.size (w.heap.size + 1) (w.heap.size + 2) av nl nl nl nl nl ⟨[], [], [], [], [], d, lo⟩ := by
  have b1 := belowA w (.cells av 30)
  have b2 := belowA (w.alloc (.cells av 30)) (.cells #[.slice none 0 0, .slice none 0 0, .slice none 0 0, .slice none 0 0, .slice none 0 0, .int .i64 0, .int .i64 0] 30)
  have b3 := belowA ((w.alloc (.cells av 30)).alloc (.cells #[.slice none 0 0, .slice none 0 0, .slice none 0 0, .slice none 0 0, .slice none 0 0, .int .i64 0, .int .i64 0] 30)) (.cells #[.slice none 0 0, .slice none 0 0, .slice none 0 0, .slice none 0 0, .slice none 0 0, .int .i64 d, .int .i64 lo] 30)
  have h1 := heap_alloc_new w (.cells av 30)
  have h2 := heap_alloc_new (w.alloc (.cells av 30)) (.cells #[.slice none 0 0, .slice none 0 0, .slice none 0 0, .slice none 0 0, .slice none 0 0, .int .i64 0, .int .i64 0] 30)
  have h3 := heap_alloc_new ((w.alloc (.cells av 30)).alloc (.cells #[.slice none 0 0, .slice none 0 0, .slice none 0 0, .slice none 0 0, .slice none 0 0, .int .i64 0, .int .i64 0] 30)) (.cells #[.slice none 0 0, .slice none 0 0, .slice none 0 0, .slice none 0 0, .slice none 0 0, .int .i64 d, .int .i64 lo] 30)
  simp only [World.size_alloc] at h2 h3 b2 b3
  have bb : Below w.heap.size w (((w.alloc (.cells av 30)).alloc (.cells #[.slice none 0 0, .slice none 0 0, .slice none 0 0, .slice none 0 0, .slice none 0 0, .int .i64 0, .int .i64 0] 30)).alloc (.cells #[.slice none 0 0, .slice none 0 0, .slice none 0 0, .slice none 0 0, .slice none 0 0, .int .i64 d, .int .i64 lo] 30)) := (b1.trans (b2.mono (by omega))).trans (b3.mono (by omega))
  exact ⟨bb, (b3.block _ (by omega)).trans ((b2.block _ (by omega)).trans h1), (b3.block _ (by omega)).trans h2, h3, World.ownsRow_nil _ _ _ _, World.ownsRow_nil _ _ _ _, World.ownsRow_nil _ _ _ _, ⟨[], World.ownsRow_nil _ _ _ _, ⟨rfl, fun j h => absurd h (Nat.not_lt_zero j)⟩⟩, ⟨[], World.ownsRow_nil _ _ _ _, ⟨rfl, fun j h => absurd h (Nat.not_lt_zero j)⟩⟩, by omega, by omega, by omega, by omega⟩
theorem cst_pgr {w0 W W' : World} {ab rb qb : Nat} {av : Array Value} {v0 v1 v2 v3 v4 : Value} {p : Pg} {d lo : Int} (h : Cst w0 W ab rb qb av v0 v1 v2 v3 v4 ⟨p.tx, p.nu, p.st, p.ns, p.cd, d, lo⟩) (k : Gb rb W W') (hd : d = p.dep) (hl : lo = p.loc) : PgR W' #[v0, v1, v2, v3, v4, .int .i64 d, .int .i64 lo] p := by
  obtain ⟨vs, s1, s2⟩ := h.st
  obtain ⟨us, t1, t2⟩ := h.ns
  obtain ⟨a0, c0, rfl, r0⟩ := own_form (h.tx.kept k (row_box h.tx h.res (by decide)))
  obtain ⟨a1, c1, rfl, r1⟩ := own_form (h.nu.kept k (row_box h.nu h.res (by decide)))
  obtain ⟨a2, c2, rfl, r2⟩ := (s2.box h.res (by decide) k).rd (s1.kept k (row_box s1 h.res (by decide)))
  obtain ⟨a3, c3, rfl, r3⟩ := (t2.box h.res (by decide) k).rd (t1.kept k (row_box t1 h.res (by decide)))
  obtain ⟨a4, c4, rfl, r4⟩ := own_rdc (h.cd.kept k (row_box h.cd h.res (by decide)))
  subst hd hl
  exact ⟨a0, c0, a1, c1, a2, c2, a3, c3, a4, c4, rfl, r0, r1, r2, r3, r4⟩
theorem cst_first {w0 W w2 : World} {ab rb qb : Nat} {av : Array Value} {v0 v1 v4 : Value} {q : Pg} (h : Cst w0 W ab rb qb av v0 v1 nl nl v4 q) (hs : q.st = []) (hn : q.ns = []) (l2 : Below W.heap.size W w2) (j : Nat) (x u0 u1 u4 : Value) (q' : Pg) (hs' : q'.st = []) (hn' : q'.ns = [])
    (hx : (#[v0, v1, nl, nl, v4, .int .i64 q.dep, .int .i64 q.loc] : Array Value).setIfInBounds j x = #[u0, u1, nl, nl, u4, .int .i64 q'.dep, .int .i64 q'.loc])
    (htx : w2.ownsRow w0.heap.size 9 1 u0 q'.tx.length (q'.tx.map Value.string)) (hnu : w2.ownsRow w0.heap.size 3 1 u1 q'.nu.length (q'.nu.map (Value.int .i64))) (hcd : w2.ownsRow w0.heap.size 68 4 u4 q'.cd.length (insX q'.cd)) : Cst w0 (w2.setCell ⟨qb, j, none⟩ x) ab rb qb av u0 u1 nl nl u4 q' := by
  have HC := h.low l2
  refine Cst.set j x HC.bl HC.arg HC.res HC.box hx htx hnu hcd ?_ ?_ HC.nq HC.nr HC.n1 HC.n2
  · rw [hs']; exact ⟨[], World.ownsRow_nil _ _ _ _, ⟨rfl, fun j h => absurd h (Nat.not_lt_zero j)⟩⟩
  · rw [hn']; exact ⟨[], World.ownsRow_nil _ _ _ _, ⟨rfl, fun j h => absurd h (Nat.not_lt_zero j)⟩⟩
end Go.Proofs.Ytnclpdgbjefpmaa.L
