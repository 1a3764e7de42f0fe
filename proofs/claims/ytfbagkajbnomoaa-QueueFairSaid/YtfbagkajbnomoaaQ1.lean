import Derived.WalkKit
import Derived.WalkSpells
import Derived.WalkLawsBesides
import Derived.Handy
import Derived.Deep.QuietTactic
import Derived.BigQuiet
import Derived.RegionTactic
import Derived.ChangeAlike
import Derived.BigRegion
import Derived.OwnWalk
import Derived.Deep.Cut
import Derived.Deep.CutRange
import Derived.Shelf.RegionOpen
import Derived.Laws.AppendOwn
import Derived.Laws.AppendOwnNone
import Derived.Laws.Rows
import Derived.Laws.OwnMore
import Derived.Laws.MakeOwn
import Derived.Lib.SmallJoins
import Derived.Deep.RegionHeld3
import Derived.Deep.MidRow
import Derived.Deep.DeepHandedRow
import Derived.Test.YtfbagkajbnomoaaChecked
import Derived.Test.YtfbagkajbnomoaaQc
import Derived.Test.YtfbagkajbnomoaaRg
namespace Go.Proofs.Ytfbagkajbnomoaa.L
open Go.RowKit Rg Qu
set_option linter.unusedVariables false
set_option linter.unusedSimpArgs false
/-! What the queue's walks have in common. -/
theorem hid {p : Prop} (h : p) : Hid p := h
theorem belowA (w : World) (o : Obj) : Below w.heap.size w (w.alloc o) := (Below.refl _ _).alloc (Nat.le_refl _) _
theorem below_drewN {B : Nat} {a w : World} (h : Below B a w) (n : Nat) : Below B a (w.drewN n) := ⟨h.os, h.tape, h.output, h.size, h.block⟩
theorem bch {w a b : World} (h1 : Below w.heap.size w a) (h2 : Below a.heap.size a b) : Below w.heap.size w b := h1.trans (h2.mono h1.size)
theorem lt_blk {W : World} {k : Nat} {o : Obj} (h : W.heap[k]? = some o) : k < W.heap.size := (Array.getElem?_eq_some_iff.1 h).1
theorem row_base {W : World} {b b' n size : Nat} {e : TypeId} {v : Value} {xs : List Value} (h : W.ownsRow b e size v n xs) (hb : b' ≤ b) : W.ownsRow b' e size v n xs := by
  refine ⟨h.1, ?_⟩
  rcases h.2 with ⟨e, n0⟩ | ⟨g, cap, cur, e, hg, r⟩
  · exact Or.inl ⟨e, n0⟩
  · exact Or.inr ⟨g, cap, cur, e, Nat.le_trans hb hg, r⟩
theorem row_blk {W : World} {base n size : Nat} {e : TypeId} {v : Value} {xs : List Value} (h : W.ownsRow base e size v n xs) {k : Nat} (hk : v.ownBlock = some k) : ∃ cur, W.heap[k]? = some (.cells cur e (0, 0)) := by
  rcases h.2 with ⟨rfl, _⟩ | ⟨g, cap, cur, rfl, _, hg, _⟩
  · simp [Value.ownBlock] at hk
  · simp [Value.ownBlock] at hk
    subst hk
    exact ⟨cur, hg⟩
theorem row_ne {W : World} {b1 b2 n1 n2 s1 s2 : Nat} {e1 e2 : TypeId} {v1 v2 : Value} {x1 x2 : List Value} (h1 : W.ownsRow b1 e1 s1 v1 n1 x1) (h2 : W.ownsRow b2 e2 s2 v2 n2 x2) (hne : e1 ≠ e2) : v1.ownBlock = none ∨ v1.ownBlock ≠ v2.ownBlock := by
  cases hv : v1.ownBlock with
  | none => exact Or.inl rfl
  | some k =>
    refine Or.inr (fun he => ?_)
    obtain ⟨c1, g1⟩ := row_blk h1 hv
    obtain ⟨c2, g2⟩ := row_blk h2 he.symm
    rw [g1] at g2
    injection g2 with g2
    injection g2 with _ g2
    exact hne g2
theorem row_box {W : World} {base n size ob : Nat} {e t : TypeId} {v : Value} {xs : List Value} {cs : Array Value} (h : W.ownsRow base e size v n xs) (hb : W.heap[ob]? = some (.cells cs t (0, 0))) (hne : e ≠ t) : v.ownBlock = none ∨ v.ownBlock ≠ some ob := by
  cases hv : v.ownBlock with
  | none => exact Or.inl rfl
  | some k =>
    refine Or.inr (fun he => ?_)
    injection he with he
    subst he
    obtain ⟨c1, g1⟩ := row_blk h hv
    rw [g1] at hb
    injection hb with hb
    injection hb with _ hb
    exact hne hb
/-- An append of what can be read to a row of one's own. -/
theorem wp_app {P : Program} {w : World} {o : Oper} {a : Act} {K : Act → World → Prop} {Q : Exit → Act → World → Prop} (s x : Operand) (t : TypeId)
    (ho : o.op = .call { callee := .builtin .append, args := #[s, x], argTypes := #[t, t] })
    (base : Nat) (e : TypeId) (i : TypeInfo) (z : Value) (size bytes : Nat) (ht : P.underlying t = some (.slice e)) (hi : P.info? e = some i) (hz : i.zero = some z)
    (hsize : i.size = size) (hby : i.bytes = bytes) (hzs : z.cells.size = size) (hsz : 0 < size)
    (v : Value) (n : Nat) (xs : List Value) (hs : a.eval s = v) (hown : w.ownsRow base e size v n xs)
    (xa : Option Addr) (m c : Nat) (news : List Value) (hx : a.eval x = .slice xa m c) (hno : xa = none → c = 0 ∧ m = 0) (hl : news.length = m * size) (hnews : ∀ ad, xa = some ad → ∀ j u, news[j]? = some u → w.cell? (ad.add j) = some u) (h1 : ∀ u ∈ news, u.oneCell' = true)
    (h63 : n + m ≤ maxLen) (hbytes : (n + m) * bytes ≤ 140737488355328) (hbase : base ≤ w.heap.size)
    (h : ∀ v' w', w'.ownsRow base e size v' (n + m) (xs ++ news) → w.grownBy w' v.ownBlock → K (a.put o.dst v') w') : o.wp P a w K Q := by
  cases xa with
  | none =>
    obtain ⟨rfl, rfl⟩ := hno rfl
    have hrun := run_append_owned_none (P := P) (w := w) base t o.type e i size ht hi v n xs hown
    have he : news = [] := List.eq_nil_of_length_eq_zero (by rw [hl, Nat.zero_mul])
    subst he
    unfold Oper.wp
    simp [execOp, ho, resolve, invoke, builtin, hs, hx, hrun, Result.andThen]
    exact h v w (by rw [List.append_nil]; exact hown) ⟨rfl, rfl, rfl, Nat.le_refl _, fun _ _ _ => rfl⟩
  | some ad => exact wp_append_own w s x t ho base e i z size bytes ht hi hz hsize hby hzs hsz v n xs hs hown ad m c news hx hl (hnews ad rfl) h1 h63 hbytes hbase (fun v' w' h2 h3 _ => h v' w' h2 h3)
theorem wpl_app {P : Program} {w : World} {ops : Array Oper} {rest : List Oper} {o : Oper} {a : Act} {Q : Exit → Act → World → Prop} (hgd : o.guard = none) (s x : Operand) (t : TypeId)
    (ho : o.op = .call { callee := .builtin .append, args := #[s, x], argTypes := #[t, t] })
    (base : Nat) (e : TypeId) (i : TypeInfo) (z : Value) (size bytes : Nat) (ht : P.underlying t = some (.slice e)) (hi : P.info? e = some i) (hz : i.zero = some z)
    (hsize : i.size = size) (hby : i.bytes = bytes) (hzs : z.cells.size = size) (hsz : 0 < size)
    (v : Value) (n : Nat) (xs : List Value) (hs : a.eval s = v) (hown : w.ownsRow base e size v n xs)
    (xa : Option Addr) (m c : Nat) (news : List Value) (hx : a.eval x = .slice xa m c) (hno : xa = none → c = 0 ∧ m = 0) (hl : news.length = m * size) (hnews : ∀ ad, xa = some ad → ∀ j u, news[j]? = some u → w.cell? (ad.add j) = some u) (h1 : ∀ u ∈ news, u.oneCell' = true)
    (h63 : n + m ≤ maxLen) (hbytes : (n + m) * bytes ≤ 140737488355328) (hbase : base ≤ w.heap.size)
    (h : ∀ v' w', w'.ownsRow base e size v' (n + m) (xs ++ news) → w.grownBy w' v.ownBlock → wpList P ops Q rest (a.put o.dst v') w') : wpList P ops Q (o :: rest) a w :=
  wpList_plain hgd fun _ hK => wp_app s x t ho base e i z size bytes ht hi hz hsize hby hzs hsz v n xs hs hown xa m c news hx hno hl hnews h1 h63 hbytes hbase fun v' w' h2 h3 => hK _ _ (h v' w' h2 h3)
theorem row_low {W W' : World} {b n size : Nat} {e : TypeId} {v : Value} {xs : List Value} (h : W.ownsRow b e size v n xs) (k : Below W.heap.size W W') : W'.ownsRow b e size v n xs :=
  h.kept (row := none) ⟨k.os, k.tape, k.output, k.size, fun b hb _ => k.block b hb⟩ (by cases hv : v.ownBlock <;> simp)
theorem none_below {W W' : World} (h : W.grownBy W' none) : Below W.heap.size W W' := ⟨h.os, h.tape, h.output, h.size, fun j hj => h.block j hj (by simp)⟩
theorem box_grow {W W' : World} {base n size ob : Nat} {e t : TypeId} {v : Value} {xs : List Value} {cs : Array Value} (h : W.ownsRow base e size v n xs) (hb : W.heap[ob]? = some (.cells cs t (0, 0))) (hne : e ≠ t) (k : W.grownBy W' v.ownBlock) : W'.heap[ob]? = some (.cells cs t (0, 0)) :=
  (k.block ob (lt_blk hb) (fun e1 => by
    rcases row_box h hb hne with h1 | h1
    · rw [h1] at e1; cases e1
    · exact h1 e1.symm)).trans hb
theorem row_form {W : World} {b n size : Nat} {e : TypeId} {v : Value} {xs : List Value} (h : W.ownsRow b e size v n xs) : ∃ a q c, v = .slice a q c := by
  rcases h.2 with ⟨e, _⟩ | ⟨_, _, _, e, _⟩
  · exact ⟨_, _, _, e⟩
  · exact ⟨_, _, _, e⟩
section
variable {P : Program} (w : World)
/-- What an append leaves as it was: rows of other blocks, and what was there of the row itself. -/
theorem append_stays (base : Nat) (t ty e : TypeId) (i : TypeInfo) (z : Value) (size bytes : Nat) (ht : P.underlying t = some (.slice e)) (hi : P.info? e = some i) (hz : i.zero = some z)
    (hsize : i.size = size) (hby : i.bytes = bytes)
    (v : Value) (n : Nat) (xs : List Value) (hown : w.ownsRow base e size v n xs)
    (a : Addr) (m c : Nat) (news : List Value) (hl : news.length = m * size) (hnews : ∀ j u, news[j]? = some u → w.cell? (a.add j) = some u) (h1 : ∀ u ∈ news, u.oneCell' = true)
    (h63 : n + m ≤ maxLen) (hbytes : (n + m) * bytes ≤ 140737488355328) (hm : 0 < m) {v' : Value} {w' : World}
    (hr : (Builtin.append_ #[t, t] ty #[v, .slice (some a) m c]).run P w = .ok v' w') :
    (∀ b u n0 ys, w.ownsRow b e size u n0 ys → (n0 ≤ n ∨ u.ownBlock ≠ v.ownBlock) → w'.ownsRow b e size u n0 ys) ∧ (v'.ownBlock = v.ownBlock ∨ v'.ownBlock = some w.heap.size) := by
  subst hsize
  subst hby
  have h63' : n + m ≤ 9223372036854775807 := by simp only [maxLen] at h63; omega
  have moved : ∀ (o : Obj) b u n0 ys, w.ownsRow b e i.size u n0 ys → (w.drew.alloc o).ownsRow b e i.size u n0 ys := fun o b u n0 ys h =>
    h.kept (row := none) ⟨rfl, rfl, rfl, by simp, fun k hk _ => Below.heap_alloc w.drew _ k hk⟩ (by cases u.ownBlock <;> simp)
  rcases hown.2 with ⟨rfl, rfl⟩ | ⟨g, cap, cur, rfl, hbg, hg, hnc, hcm, hcs, htake⟩
  · have hr' := run_append_nil (P := P) w t ty e i z ht hi hz a m c news hl hnews (by omega) (by omega) (by have hb := hbytes; simp only [Nat.zero_add] at hb; omega)
    rw [hr] at hr'
    injection hr' with e1 e2
    subst e1 e2
    exact ⟨fun b u n0 ys h _ => moved _ b u n0 ys h, Or.inr rfl⟩
  · by_cases hroom : n + m ≤ cap
    · have hfit : n * i.size + news.length ≤ cur.size := by rw [hl, hcs, ← Nat.add_mul]; exact Nat.mul_le_mul_right _ hroom
      have hr' := run_append_room (P := P) w t ty e i ht hi g n cap cur hg a m c news hl hnews h1 hroom hfit
      rw [hr] at hr'
      injection hr' with e1 e2
      subst e1 e2
      refine ⟨fun b u n0 ys h ho => ?_, Or.inl rfl⟩
      by_cases hu : u.ownBlock = some g
      · have hn0 : n0 ≤ n := by
          rcases ho with h | h
          · exact h
          · exact absurd hu h
        rcases h.2 with ⟨rfl, _⟩ | ⟨g', cap', cur', rfl, hb', hg', hnc', hcm', hcs', htake'⟩
        · simp [Value.ownBlock] at hu
        · simp [Value.ownBlock] at hu
          subst hu
          rw [hg] at hg'
          injection hg' with hg'
          injection hg' with hg' _ _
          subst hg'
          have hle : n0 * i.size ≤ n * i.size := Nat.mul_le_mul_right _ hn0
          refine ⟨h.1, Or.inr ⟨g', cap', _, rfl, hb', setRow_heap w g' cur _ e _ hg, hnc', hcm', ?_, ?_⟩⟩
          · simp only [List.size_toArray, List.length_append, List.length_take, List.length_drop, Array.length_toList]
            omega
          · have hcl : n * i.size ≤ cur.toList.length := by rw [Array.length_toList]; omega
            show List.take (n0 * i.size) (cur.toList.take (n * i.size) ++ news ++ cur.toList.drop (n * i.size + news.length)) = ys
            rw [List.append_assoc, List.take_append_of_le_length (by rw [List.length_take]; omega), List.take_take, Nat.min_eq_left hle]
            exact htake'
      · refine h.kept (row := some g) ⟨rfl, rfl, rfl, by simp, fun k _ hk => setRow_other w g k _ (fun e => hk (by rw [e]))⟩ ?_
        exact Or.inr hu
    · have holds : ∀ j u, xs[j]? = some u → w.cell? ((⟨g, 0, none⟩ : Addr).add j) = some u := hown.cells (g := g) rfl
      have hr' := run_append_grow (P := P) w t ty e i z ht hi hz ⟨g, 0, none⟩ n cap xs hown.1 holds a m c news hl hnews (by omega) (by omega) (growslice_fits (by omega) hbytes)
      rw [hr] at hr'
      injection hr' with e1 e2
      subst e1 e2
      exact ⟨fun b u n0 ys h _ => moved _ b u n0 ys h, Or.inr rfl⟩
/-- An append to a row of one's own that tells what stays. -/
theorem wpList_append_stays {ops : Array Oper} {rest : List Oper} {o : Oper} {a : Act} {Q : Exit → Act → World → Prop} (hgd : o.guard = none) (s x : Operand) (t : TypeId)
    (ho : o.op = .call { callee := .builtin .append, args := #[s, x], argTypes := #[t, t] })
    (base : Nat) (e : TypeId) (i : TypeInfo) (z : Value) (size bytes : Nat) (ht : P.underlying t = some (.slice e)) (hi : P.info? e = some i) (hz : i.zero = some z)
    (hsize : i.size = size) (hby : i.bytes = bytes) (hzs : z.cells.size = size) (hsz : 0 < size)
    (v : Value) (n : Nat) (xs : List Value) (hs : a.eval s = v) (hown : w.ownsRow base e size v n xs)
    (ad : Addr) (m c : Nat) (news : List Value) (hx : a.eval x = .slice (some ad) m c) (hl : news.length = m * size) (hnews : ∀ j u, news[j]? = some u → w.cell? (ad.add j) = some u) (h1 : ∀ u ∈ news, u.oneCell' = true)
    (h63 : n + m ≤ maxLen) (hbytes : (n + m) * bytes ≤ 140737488355328) (hbase : base ≤ w.heap.size) (hm : 0 < m)
    (h : ∀ v' w', w'.ownsRow base e size v' (n + m) (xs ++ news) → w.grownBy w' v.ownBlock → (∀ b u n0 ys, w.ownsRow b e size u n0 ys → (n0 ≤ n ∨ u.ownBlock ≠ v.ownBlock) → w'.ownsRow b e size u n0 ys) → (v'.ownBlock = v.ownBlock ∨ v'.ownBlock = some w.heap.size) → wpList P ops Q rest (a.put o.dst v') w') : wpList P ops Q (o :: rest) a w :=
  wpList_plain hgd fun _ hK => by
    obtain ⟨v', w', hr, h2, h3, _⟩ := run_append_own (P := P) w base t o.type e i z size bytes ht hi hz hsize hby hzs hsz v n xs hown ad m c news hl hnews h1 h63 hbytes hbase
    have h4 := append_stays (P := P) w base t o.type e i z size bytes ht hi hz hsize hby v n xs hown ad m c news hl hnews h1 h63 hbytes hm hr
    unfold Oper.wp execOp
    simp only [ho, resolve, invoke, builtin, Sem.run_bind, Sem.run_pure, Result.andThen_ok, List.map_toArray, List.map_cons, List.map_nil, hs, hx, hr]
    exact hK _ _ (h v' w' h2 h3 h4.1 h4.2)
end
theorem wtV_size (x : Wt) : (wtV x).size = 6 := rfl
theorem wtV_one (x : Wt) : ∀ u ∈ (wtV x).toList, u.oneCell' = true := by
  intro u hu
  simp [wtV] at hu
  rcases hu with rfl | rfl | rfl | rfl | rfl | rfl <;> rfl
theorem rowW_len (l : List Wt) : (rowX wtV l).length = l.length * 6 := rowX_len wtV_size l
theorem rowW_one (l : List Wt) : ∀ u ∈ rowX wtV l, u.oneCell' = true := rowX_one wtV_one l
theorem infoW : (Try.prog.info? 40).map (fun i => (i.zero, i.size, i.bytes)) = some (some (.agg #[.string ⟨#[]⟩, .int .i64 0, .int .i64 0, .int .i64 0, .int .i64 0, .bool false]), 6, 56) := by kernel_rfl
theorem infoD : (Try.prog.info? 63).map (fun i => (i.zero, i.size, i.bytes)) = some (some (.agg #[.string ⟨#[]⟩, .int .i64 0, .int .i64 0, .int .i64 0, .int .i64 0, .bool false]), 6, 56) := by kernel_rfl
theorem row_at {W : World} {B e s n : Nat} {v : Value} {xs : List Value} (h : W.ownsRow B e s v n xs) {k : Nat} (hk : v.ownBlock = some k) : B ≤ k ∧ k < W.heap.size ∧ ∃ cs, W.heap[k]? = some (.cells cs e (0, 0)) := by
  rcases h.2 with ⟨rfl, _⟩ | ⟨g', cap, cur, rfl, hb, hg, _⟩
  · cases hk
  · cases hk
    exact ⟨hb, lt_blk hg, _, hg⟩
theorem row_kept {W W' : World} {b n size : Nat} {e : TypeId} {v : Value} {xs : List Value} (h : W.ownsRow b e size v n xs) (k : ∀ k, v.ownBlock = some k → W'.heap[k]? = W.heap[k]?) : W'.ownsRow b e size v n xs := by
  refine ⟨h.1, ?_⟩
  rcases h.2 with h0 | ⟨g, cap, cur, rfl, hb, hg, r⟩
  · exact Or.inl h0
  · exact Or.inr ⟨g, cap, cur, rfl, hb, (k g rfl).trans hg, r⟩
/-- The queue in memory. -/
structure Qm (W : World) (B qb : Nat) (v : Value) (l : List Wt) (nx : Int) : Prop where
  box : W.heap[qb]? = some (.cells #[v, .int .i64 nx] 61 (0, 0))
  row : W.ownsRow B 63 6 v l.length (rowX wtV l)
  lo : B ≤ qb
/-- Nothing has changed but the queue's block and its row. -/
structure Qf (W W' : World) (qb : Nat) (v : Value) : Prop where
  os : W'.os = W.os
  tape : W'.tape = W.tape
  output : W'.output = W.output
  size : W.heap.size ≤ W'.heap.size
  block : ∀ k, k < W.heap.size → k ≠ qb → v.ownBlock ≠ some k → W'.heap[k]? = W.heap[k]?
theorem Qf.of {W W' : World} (qb : Nat) (v : Value) (h : Below W.heap.size W W') : Qf W W' qb v := ⟨h.os, h.tape, h.output, h.size, fun k hk _ _ => h.block k hk⟩
/-- What an operation makes of the queue. -/
def Qr (W : World) (B qb : Nat) (v : Value) (l' : List Wt) (nx' : Int) (W' : World) : Prop := ∃ v', Qm W' B qb v' l' nx' ∧ Qf W W' qb v ∧ ∀ k, v'.ownBlock = some k → v.ownBlock = some k ∨ W.heap.size ≤ k
theorem Qm.low {W W' : World} {B qb : Nat} {v : Value} {l : List Wt} {nx : Int} (h : Qm W B qb v l nx) (k : Below W.heap.size W W') : Qm W' B qb v l nx :=
  ⟨(k.block _ (lt_blk h.box)).trans h.box, row_low h.row k, h.lo⟩
theorem Qm.qr {W W' : World} {B qb : Nat} {v : Value} {l : List Wt} {nx : Int} (h : Qm W B qb v l nx) (k : Below W.heap.size W W') : Qr W B qb v l nx W' :=
  ⟨v, h.low k, Qf.of qb v k, fun k hk => Or.inl hk⟩
theorem Qf.trans {W W1 W2 : World} {qb : Nat} {v v1 : Value} (h : Qf W W1 qb v) (hn : ∀ k, v1.ownBlock = some k → v.ownBlock = some k ∨ W.heap.size ≤ k) (k : Qf W1 W2 qb v1) : Qf W W2 qb v :=
  ⟨k.os.trans h.os, k.tape.trans h.tape, k.output.trans h.output, Nat.le_trans h.size k.size, fun j hj hq hv => (k.block j (Nat.lt_of_lt_of_le hj h.size) hq (fun e => by
    rcases hn j e with e1 | e1
    · exact hv e1
    · omega)).trans (h.block j hj hq hv)⟩
/-- One operation behind another. -/
theorem Qr.then {W W1 W2 : World} {B qb : Nat} {v : Value} {l1 l2 : List Wt} {n1 n2 : Int} (h : Qr W B qb v l1 n1 W1) (k : ∀ v1, Qm W1 B qb v1 l1 n1 → Qr W1 B qb v1 l2 n2 W2) : Qr W B qb v l2 n2 W2 := by
  obtain ⟨v1, m1, f1, b1⟩ := h
  obtain ⟨v2, m2, f2, b2⟩ := k v1 m1
  refine ⟨v2, m2, f1.trans b1 f2, fun k hk => ?_⟩
  rcases b2 k hk with e | e
  · exact b1 k e
  · exact Or.inr (Nat.le_trans f1.size e)
theorem Qr.low {W W1 W2 : World} {B qb : Nat} {v : Value} {l1 : List Wt} {n1 : Int} (h : Qr W B qb v l1 n1 W1) (k : Below W1.heap.size W1 W2) : Qr W B qb v l1 n1 W2 := h.then fun v1 m1 => m1.qr k
theorem Qr.pre {W W1 W2 : World} {B qb : Nat} {v : Value} {l1 : List Wt} {n1 : Int} (k : Below W.heap.size W W1) (h : Qr W1 B qb v l1 n1 W2) : Qr W B qb v l1 n1 W2 := by
  obtain ⟨v1, m1, f1, b1⟩ := h
  exact ⟨v1, m1, (Qf.of qb v k).trans (fun k hk => Or.inl hk) f1, fun j hj => by
    rcases b1 j hj with e | e
    · exact Or.inl e
    · exact Or.inr (Nat.le_trans k.size e)⟩
theorem Qf.below {w0 W W' : World} {B qb : Nat} {v : Value} {l : List Wt} {nx : Int} (hb : Below B w0 W) (hq : Qm W B qb v l nx) (h : Qf W W' qb v) : Below B w0 W' :=
  ⟨h.os.trans hb.os, h.tape.trans hb.tape, h.output.trans hb.output, Nat.le_trans hb.size h.size, fun j hj => by
    have hs := hq.lo
    by_cases hjs : j < W.heap.size
    · refine (h.block j hjs (by omega) (fun e => ?_)).trans (hb.block j hj)
      have := (row_at hq.row e).1
      omega
    · exfalso
      have := lt_blk hq.box
      omega⟩
theorem Qf.at {W W' : World} {B qb : Nat} {v : Value} {l : List Wt} {nx : Int} (h : Qf W W' qb v) (hq : Qm W B qb v l nx) {k : Nat} {cs : Array Value} {t : TypeId} (hk : W.heap[k]? = some (.cells cs t (0, 0))) (h1 : t ≠ 61) (h2 : t ≠ 63) : W'.heap[k]? = some (.cells cs t (0, 0)) := by
  refine (h.block k (lt_blk hk) (fun e => ?_) (fun e => ?_)).trans hk
  · rw [e, hq.box] at hk
    injection hk with hk
    injection hk with _ hk
    exact h1 hk.symm
  · obtain ⟨_, _, cs', hc⟩ := row_at hq.row e
    rw [hc] at hk
    injection hk with hk
    injection hk with _ hk
    exact h2 hk.symm
theorem Qf.row {W W' : World} {B b qb n : Nat} {v u : Value} {l : List Wt} {nx : Int} {xs : List Value} {s : Nat} {t : TypeId} (h : Qf W W' qb v) (hq : Qm W B qb v l nx) (hu : W.ownsRow b t s u n xs) (h1 : t ≠ 61) (h2 : t ≠ 63) : W'.ownsRow b t s u n xs := by
  refine row_kept hu (fun k hk => ?_)
  obtain ⟨_, _, cs, hc⟩ := row_at hu hk
  exact (h.at hq hc h1 h2).trans hc.symm
theorem own_w {W : World} {base n : Nat} {e : TypeId} {v : Value} {l : List Wt} (h : W.ownsRow base e 6 v n (rowX wtV l)) : n = l.length ∧ ∃ a ca, v = .slice a l.length ca ∧ RdG wtV 6 W a l := own_rdg wtV_size (by decide) h
theorem cell_w {W : World} {a : Option Addr} {l : List Wt} (h : RdG wtV 6 W a l) {k : Nat} (hk : k < l.length) : ∃ b off, a = some ⟨b, off, none⟩ ∧ b < W.heap.size ∧ W.cell? ⟨b, off + k * 6, none⟩ = some (.string l[k].name) ∧ W.cell? ⟨b, off + k * 6 + 1, none⟩ = some (.int .i64 l[k].pr) ∧ W.cell? ⟨b, off + k * 6 + 2, none⟩ = some (.int .i64 l[k].seq) ∧ W.cell? ⟨b, off + k * 6 + 3, none⟩ = some (.int .i64 l[k].tries) ∧ W.cell? ⟨b, off + k * 6 + 4, none⟩ = some (.int .i64 l[k].til) ∧ W.cell? ⟨b, off + k * 6 + 5, none⟩ = some (.bool l[k].asl) := by
  rcases h with h0 | ⟨b, off, e, hb, hc⟩
  · omega
  · have g : l.getD k default = l[k] := by rw [List.getD_eq_getElem?_getD, List.getElem?_eq_getElem hk]; rfl
    have c := hc k hk
    rw [g] at c
    exact ⟨b, off, e, hb, c 0 (by omega), c 1 (by omega), c 2 (by omega), c 3 (by omega), c 4 (by omega), c 5 (by omega)⟩
end Go.Proofs.Ytfbagkajbnomoaa.L
