import Derived.Test.YtdhjoimiejdgbabDoorMgG
import Derived.Test.YtdhjoimiejdgbabDoorMgO
namespace Go.Proofs.YtdhjoimiejdgbabDoor.L
open Go.RowKit
set_option linter.unusedVariables false
section
variable {P : Program} (w : World)
/-- What an append leaves as it was: rows of other blocks, and what was there of the row itself. -/
theorem append_stays (base : Nat) (t ty e : TypeId) (i : TypeInfo) (z : Value) (size bytes : Nat) (ht : P.underlying t = some (.slice e)) (hi : P.info? e = some i) (hz : i.zero = some z)
    (hsize : i.size = size) (hby : i.bytes = bytes)
    (v : Value) (n : Nat) (xs : List Value) (hown : w.ownsRow base e size v n xs)
    (a : Addr) (m c : Nat) (news : List Value) (hl : news.length = m * size) (hnews : ∀ j u, news[j]? = some u → w.cell? (a.add j) = some u) (h1 : ∀ u ∈ news, u.oneCell' = true)
    (h63 : n + m ≤ maxLen) (hbytes : (n + m) * bytes ≤ 140737488355328) (hm : 0 < m) {v' : Value} {w' : World}
    (hr : (Builtin.append_ #[t, t] ty #[v, .slice (some a) m c]).run P w = .ok v' w') :
    (∀ b u n0 ys, w.ownsRow b e size u n0 ys → (n0 ≤ n ∨ u.ownBlock ≠ v.ownBlock) → w'.ownsRow b e size u n0 ys) ∧ (v'.ownBlock = v.ownBlock ∨ v'.ownBlock = some w.heap.size) := by
  subst hsize
  subst hby
  have h63' : n + m ≤ 9223372036854775807 := by simp only [maxLen] at h63; omega
  have moved : ∀ (o : Obj) b u n0 ys, w.ownsRow b e i.size u n0 ys → (w.drew.alloc o).ownsRow b e i.size u n0 ys := fun o b u n0 ys h =>
    h.kept (row := none) ⟨rfl, rfl, rfl, by simp, fun k hk _ => Below.heap_alloc w.drew _ k hk⟩ (by cases u.ownBlock <;> simp)
  rcases hown.2 with ⟨rfl, rfl⟩ | ⟨g, cap, cur, rfl, hbg, hg, hnc, hcm, hcs, htake⟩
  · have hr' := run_append_nil (P := P) w t ty e i z ht hi hz a m c news hl hnews (by omega) (by omega) (by have hb := hbytes; simp only [Nat.zero_add] at hb; omega)
    rw [hr] at hr'
    injection hr' with e1 e2
    subst e1 e2
    exact ⟨fun b u n0 ys h _ => moved _ b u n0 ys h, Or.inr rfl⟩
  · by_cases hroom : n + m ≤ cap
    · have hfit : n * i.size + news.length ≤ cur.size := by rw [hl, hcs, ← Nat.add_mul]; exact Nat.mul_le_mul_right _ hroom
      have hr' := run_append_room (P := P) w t ty e i ht hi g n cap cur hg a m c news hl hnews h1 hroom hfit
      rw [hr] at hr'
      injection hr' with e1 e2
      subst e1 e2
      refine ⟨fun b u n0 ys h ho => ?_, Or.inl rfl⟩
      by_cases hu : u.ownBlock = some g
      · have hn0 : n0 ≤ n := by
          rcases ho with h | h
          · exact h
          · exact absurd hu h
        rcases h.2 with ⟨rfl, _⟩ | ⟨g', cap', cur', rfl, hb', hg', hnc', hcm', hcs', htake'⟩
        · simp [Value.ownBlock] at hu
        · simp [Value.ownBlock] at hu
          subst hu
          rw [hg] at hg'
          injection hg' with hg'
          injection hg' with hg' _ _
          subst hg'
          have hle : n0 * i.size ≤ n * i.size := Nat.mul_le_mul_right _ hn0
          refine ⟨h.1, Or.inr ⟨g', cap', _, rfl, hb', setRow_heap w g' cur _ e _ hg, hnc', hcm', ?_, ?_⟩⟩
          · simp only [List.size_toArray, List.length_append, List.length_take, List.length_drop, Array.length_toList]
            omega
          · have hcl : n * i.size ≤ cur.toList.length := by rw [Array.length_toList]; omega
            show List.take (n0 * i.size) (cur.toList.take (n * i.size) ++ news ++ cur.toList.drop (n * i.size + news.length)) = ys
            rw [List.append_assoc, List.take_append_of_le_length (by rw [List.length_take]; omega), List.take_take, Nat.min_eq_left hle]
            exact htake'
      · refine h.kept (row := some g) ⟨rfl, rfl, rfl, by simp, fun k _ hk => setRow_other w g k _ (fun e => hk (by rw [e]))⟩ ?_
        exact Or.inr hu
    · have holds : ∀ j u, xs[j]? = some u → w.cell? ((⟨g, 0, none⟩ : Addr).add j) = some u := hown.cells (g := g) rfl
      have hr' := run_append_grow (P := P) w t ty e i z ht hi hz ⟨g, 0, none⟩ n cap xs hown.1 holds a m c news hl hnews (by omega) (by omega) (growslice_fits (by omega) hbytes)
      rw [hr] at hr'
      injection hr' with e1 e2
      subst e1 e2
      exact ⟨fun b u n0 ys h _ => moved _ b u n0 ys h, Or.inr rfl⟩
/-- An append to a row of one's own that tells what stays. -/
theorem wpList_append_stays {ops : Array Oper} {rest : List Oper} {o : Oper} {a : Act} {Q : Exit → Act → World → Prop} (hgd : o.guard = none) (s x : Operand) (t : TypeId)
    (ho : o.op = .call { callee := .builtin .append, args := #[s, x], argTypes := #[t, t] })
    (base : Nat) (e : TypeId) (i : TypeInfo) (z : Value) (size bytes : Nat) (ht : P.underlying t = some (.slice e)) (hi : P.info? e = some i) (hz : i.zero = some z)
    (hsize : i.size = size) (hby : i.bytes = bytes) (hzs : z.cells.size = size) (hsz : 0 < size)
    (v : Value) (n : Nat) (xs : List Value) (hs : a.eval s = v) (hown : w.ownsRow base e size v n xs)
    (ad : Addr) (m c : Nat) (news : List Value) (hx : a.eval x = .slice (some ad) m c) (hl : news.length = m * size) (hnews : ∀ j u, news[j]? = some u → w.cell? (ad.add j) = some u) (h1 : ∀ u ∈ news, u.oneCell' = true)
    (h63 : n + m ≤ maxLen) (hbytes : (n + m) * bytes ≤ 140737488355328) (hbase : base ≤ w.heap.size) (hm : 0 < m)
    (h : ∀ v' w', w'.ownsRow base e size v' (n + m) (xs ++ news) → w.grownBy w' v.ownBlock → (∀ b u n0 ys, w.ownsRow b e size u n0 ys → (n0 ≤ n ∨ u.ownBlock ≠ v.ownBlock) → w'.ownsRow b e size u n0 ys) → (v'.ownBlock = v.ownBlock ∨ v'.ownBlock = some w.heap.size) → wpList P ops Q rest (a.put o.dst v') w') : wpList P ops Q (o :: rest) a w :=
  wpList_plain hgd fun _ hK => by
    obtain ⟨v', w', hr, h2, h3, _⟩ := run_append_own (P := P) w base t o.type e i z size bytes ht hi hz hsize hby hzs hsz v n xs hown ad m c news hl hnews h1 h63 hbytes hbase
    have h4 := append_stays (P := P) w base t o.type e i z size bytes ht hi hz hsize hby v n xs hown ad m c news hl hnews h1 h63 hbytes hm hr
    unfold Oper.wp execOp
    simp only [ho, resolve, invoke, builtin, Sem.run_bind, Sem.run_pure, Result.andThen_ok, List.map_toArray, List.map_cons, List.map_nil, hs, hx, hr]
    exact hK _ _ (h v' w' h2 h3 h4.1 h4.2)
end
end Go.Proofs.YtdhjoimiejdgbabDoor.L
namespace Go.Proofs.YtdhjoimiejdgbabDoor.L
open Go.RowKit Bs Go.Maps Go.Shelf
set_option linter.unusedVariables false
theorem infoLL : (Tryd.prog.info? 22).map (fun i => (i.zero, i.size, i.bytes)) = some (some (.slice none 0 0), 1, 24) := by kernel_rfl
def rtC : Code → Code
  | .seq _ b => b
  | c => c
def hdC : Code → Code
  | .seq a _ => a
  | c => c
def bdC : Code → Code
  | .block _ c => c
  | .loop c => c
  | c => c
theorem own_kind {W : World} {M : Nat} {e : TypeId} {size n : Nat} {v : Value} {xs : List Value} (h : W.ownsRow M e size v n xs) {g : Nat} (hg : v.ownBlock = some g) : M ≤ g ∧ ∃ cur, W.heap[g]? = some (.cells cur e (0, 0)) := by
  rcases h.2 with ⟨e, _⟩ | ⟨g', cap, cur, e, hm, hh, _⟩
  · rw [e] at hg; simp [Value.ownBlock] at hg
  · rw [e] at hg; simp [Value.ownBlock] at hg; subst hg; exact ⟨hm, cur, hh⟩
theorem own_ne {W : World} {M M' : Nat} {e e' : TypeId} {s s' n n' : Nat} {v v' : Value} {xs xs' : List Value} (h : W.ownsRow M e s v n xs) (h' : W.ownsRow M' e' s' v' n' xs') (hne : e ≠ e') {g : Nat} (hg : v.ownBlock = some g) : v'.ownBlock ≠ some g := fun c => by
  obtain ⟨_, cur, h1⟩ := own_kind h hg
  obtain ⟨_, cur', h2⟩ := own_kind h' c
  rw [h1] at h2
  injection h2 with h2
  injection h2 with _ h2 _
  exact hne h2
/-- Rows of texts, each in a block of its own. -/
structure Fm (W : World) (M n : Nat) (r : Nat → Value) (x : Nat → List ByteArray) : Prop where
  own : ∀ k, k < n → OwnS W M (r k) (x k)
  ap : ∀ j k, j < n → k < n → j ≠ k → ∀ g, (r j).ownBlock = some g → (r k).ownBlock ≠ some g
theorem Fm.low {W W' : World} {M n : Nat} {r : Nat → Value} {x : Nat → List ByteArray} (h : Fm W M n r x) (hb : Below W.heap.size W W') : Fm W' M n r x := ⟨fun k hk => own_low (h.own k hk) hb, h.ap⟩
def upN {α : Type} (f : Nat → α) (i : Nat) (v : α) : Nat → α := fun j => if j = i then v else f j
theorem upN_same {α : Type} (f : Nat → α) (i : Nat) (v : α) : upN f i v i = v := if_pos rfl
theorem upN_other {α : Type} (f : Nat → α) {i j : Nat} (v : α) (h : j ≠ i) : upN f i v j = f j := if_neg h
theorem upN_const {α : Type} (i : Nat) (v : α) : upN (fun _ => v) i v = fun _ => v := funext fun j => by unfold upN; split <;> rfl
/-- One more row, in memory made since. -/
theorem Fm.snoc {W W' : World} {M n : Nat} {r : Nat → Value} {x : Nat → List ByteArray} {v : Value} {t : List ByteArray} (h : Fm W M n r x) (hb : Below W.heap.size W W') (hM : M ≤ W.heap.size) (ho : OwnS W' W.heap.size v t) : Fm W' M (n + 1) (upN r n v) (upN x n t) := by
  refine ⟨fun k hk => ?_, fun j k hj hk hjk g hg => ?_⟩
  · by_cases e : k = n
    · subst e; rw [upN_same, upN_same]; exact own_mono ho hM
    · rw [upN_other _ _ e, upN_other _ _ e]; exact own_low (h.own k (by omega)) hb
  · by_cases ej : j = n
    · subst ej
      rw [upN_same] at hg
      rw [upN_other _ _ (fun c => hjk c.symm)]
      intro c
      have h1 := (ho.lt g hg).1
      have h2 := ((h.own k (by omega)).lt g c).2
      omega
    · rw [upN_other _ _ ej] at hg
      by_cases ek : k = n
      · subst ek
        rw [upN_same]
        intro c
        have h1 := (ho.lt g c).1
        have h2 := ((h.own j (by omega)).lt g hg).2
        omega
      · rw [upN_other _ _ ek]
        exact h.ap j k (by omega) (by omega) hjk g hg
/-- What turns one row of another type leaves them all. -/
theorem Fm.grown {W W' : World} {M n m m' : Nat} {r : Nat → Value} {x : Nat → List ByteArray} {e : TypeId} {v : Value} {xs : List Value} {tmp : Obj} (h : Fm W M n r x) (hr : W.ownsRow m' e 1 v m xs) (he : e ≠ 9) (hg : (W.alloc tmp).grownBy W' v.ownBlock) : Fm W' M n r x :=
  ⟨fun k hk => own_stays (h.own k hk) (fun g hg' => (hg.block g (by have := ((h.own k hk).lt g hg').2; simp; omega) (fun c => own_ne (h.own k hk) hr (fun q => he q.symm) hg' c.symm)).trans (Below.heap_alloc W tmp g ((h.own k hk).lt g hg').2)), h.ap⟩
/-- The rows as the cells of a row. -/
def rowC (r : Nat → Value) (n : Nat) : List Value := (List.range n).map fun k => r (k + 1)
theorem rowC_succ (r : Nat → Value) (n : Nat) : rowC r (n + 1) = rowC r n ++ [r (n + 1)] := by unfold rowC; rw [List.range_succ]; simp
theorem rowC_up (r : Nat → Value) (n : Nat) (v : Value) : rowC (upN r (n + 1) v) n = rowC r n := by
  unfold rowC
  apply List.map_congr_left
  intro k hk
  rw [upN_other]
  have := List.mem_range.1 hk
  omega
theorem rowC_at (r : Nat → Value) {n k : Nat} (h : k < n) : (rowC r n)[k]? = some (r (k + 1)) := by
  unfold rowC
  rw [List.getElem?_map, List.getElem?_range h]
  rfl
end Go.Proofs.YtdhjoimiejdgbabDoor.L
namespace Go.Proofs.YtdhjoimiejdgbabDoor.L
open Go.RowKit Bs Go.Maps Go.Shelf
set_option linter.unusedVariables false
attribute [local go_sem] Oper.semAt_some
theorem bm0 : (bdC (hdC (rtC (rtC (bdC (bdC (rtC (hdC (rtC (rtC (rtC (rtC (rtC (Option.getD Tryd.f4.body Code.skip)))))))))))))) = .seq (hdC (bdC (hdC (rtC (rtC (bdC (bdC (rtC (hdC (rtC (rtC (rtC (rtC (rtC (Option.getD Tryd.f4.body Code.skip))))))))))))))) (rtC (bdC (hdC (rtC (rtC (bdC (bdC (rtC (hdC (rtC (rtC (rtC (rtC (rtC (Option.getD Tryd.f4.body Code.skip))))))))))))))) := by kernel_rfl
theorem bm1 : (rtC (bdC (hdC (rtC (rtC (bdC (bdC (rtC (hdC (rtC (rtC (rtC (rtC (rtC (Option.getD Tryd.f4.body Code.skip))))))))))))))) = .seq (hdC (rtC (bdC (hdC (rtC (rtC (bdC (bdC (rtC (hdC (rtC (rtC (rtC (rtC (rtC (Option.getD Tryd.f4.body Code.skip)))))))))))))))) (rtC (rtC (bdC (hdC (rtC (rtC (bdC (bdC (rtC (hdC (rtC (rtC (rtC (rtC (rtC (Option.getD Tryd.f4.body Code.skip)))))))))))))))) := by kernel_rfl
theorem bm2 : (rtC (rtC (bdC (hdC (rtC (rtC (bdC (bdC (rtC (hdC (rtC (rtC (rtC (rtC (rtC (Option.getD Tryd.f4.body Code.skip)))))))))))))))) = .seq (hdC (rtC (rtC (bdC (hdC (rtC (rtC (bdC (bdC (rtC (hdC (rtC (rtC (rtC (rtC (rtC (Option.getD Tryd.f4.body Code.skip))))))))))))))))) (rtC (rtC (rtC (bdC (hdC (rtC (rtC (bdC (bdC (rtC (hdC (rtC (rtC (rtC (rtC (rtC (Option.getD Tryd.f4.body Code.skip))))))))))))))))) := by kernel_rfl
theorem bm3 : (rtC (rtC (rtC (bdC (hdC (rtC (rtC (bdC (bdC (rtC (hdC (rtC (rtC (rtC (rtC (rtC (Option.getD Tryd.f4.body Code.skip))))))))))))))))) = .seq (hdC (rtC (rtC (rtC (bdC (hdC (rtC (rtC (bdC (bdC (rtC (hdC (rtC (rtC (rtC (rtC (rtC (Option.getD Tryd.f4.body Code.skip)))))))))))))))))) (rtC (rtC (rtC (rtC (bdC (hdC (rtC (rtC (bdC (bdC (rtC (hdC (rtC (rtC (rtC (rtC (rtC (Option.getD Tryd.f4.body Code.skip)))))))))))))))))) := by kernel_rfl
theorem bm4 : (rtC (rtC (rtC (rtC (bdC (hdC (rtC (rtC (bdC (bdC (rtC (hdC (rtC (rtC (rtC (rtC (rtC (Option.getD Tryd.f4.body Code.skip)))))))))))))))))) = .seq (hdC (rtC (rtC (rtC (rtC (bdC (hdC (rtC (rtC (bdC (bdC (rtC (hdC (rtC (rtC (rtC (rtC (rtC (Option.getD Tryd.f4.body Code.skip))))))))))))))))))) (rtC (rtC (rtC (rtC (rtC (bdC (hdC (rtC (rtC (bdC (bdC (rtC (hdC (rtC (rtC (rtC (rtC (rtC (Option.getD Tryd.f4.body Code.skip))))))))))))))))))) := by kernel_rfl
theorem bm5 : (rtC (rtC (rtC (rtC (rtC (bdC (hdC (rtC (rtC (bdC (bdC (rtC (hdC (rtC (rtC (rtC (rtC (rtC (Option.getD Tryd.f4.body Code.skip))))))))))))))))))) = .seq (hdC (rtC (rtC (rtC (rtC (rtC (bdC (hdC (rtC (rtC (bdC (bdC (rtC (hdC (rtC (rtC (rtC (rtC (rtC (Option.getD Tryd.f4.body Code.skip)))))))))))))))))))) (rtC (rtC (rtC (rtC (rtC (rtC (bdC (hdC (rtC (rtC (bdC (bdC (rtC (hdC (rtC (rtC (rtC (rtC (rtC (Option.getD Tryd.f4.body Code.skip)))))))))))))))))))) := by kernel_rfl
theorem bm6 : (rtC (rtC (rtC (rtC (rtC (rtC (bdC (hdC (rtC (rtC (bdC (bdC (rtC (hdC (rtC (rtC (rtC (rtC (rtC (Option.getD Tryd.f4.body Code.skip)))))))))))))))))))) = .seq (hdC (rtC (rtC (rtC (rtC (rtC (rtC (bdC (hdC (rtC (rtC (bdC (bdC (rtC (hdC (rtC (rtC (rtC (rtC (rtC (Option.getD Tryd.f4.body Code.skip))))))))))))))))))))) (rtC (rtC (rtC (rtC (rtC (rtC (rtC (bdC (hdC (rtC (rtC (bdC (bdC (rtC (hdC (rtC (rtC (rtC (rtC (rtC (Option.getD Tryd.f4.body Code.skip))))))))))))))))))))) := by kernel_rfl
theorem bm7 : (rtC (rtC (rtC (rtC (rtC (rtC (rtC (bdC (hdC (rtC (rtC (bdC (bdC (rtC (hdC (rtC (rtC (rtC (rtC (rtC (Option.getD Tryd.f4.body Code.skip))))))))))))))))))))) = .seq (hdC (rtC (rtC (rtC (rtC (rtC (rtC (rtC (bdC (hdC (rtC (rtC (bdC (bdC (rtC (hdC (rtC (rtC (rtC (rtC (rtC (Option.getD Tryd.f4.body Code.skip)))))))))))))))))))))) (rtC (rtC (rtC (rtC (rtC (rtC (rtC (rtC (bdC (hdC (rtC (rtC (bdC (bdC (rtC (hdC (rtC (rtC (rtC (rtC (rtC (Option.getD Tryd.f4.body Code.skip)))))))))))))))))))))) := by kernel_rfl
theorem bm8 : (rtC (rtC (rtC (rtC (rtC (rtC (rtC (rtC (bdC (hdC (rtC (rtC (bdC (bdC (rtC (hdC (rtC (rtC (rtC (rtC (rtC (Option.getD Tryd.f4.body Code.skip)))))))))))))))))))))) = .seq (hdC (rtC (rtC (rtC (rtC (rtC (rtC (rtC (rtC (bdC (hdC (rtC (rtC (bdC (bdC (rtC (hdC (rtC (rtC (rtC (rtC (rtC (Option.getD Tryd.f4.body Code.skip))))))))))))))))))))))) (rtC (rtC (rtC (rtC (rtC (rtC (rtC (rtC (rtC (bdC (hdC (rtC (rtC (bdC (bdC (rtC (hdC (rtC (rtC (rtC (rtC (rtC (Option.getD Tryd.f4.body Code.skip))))))))))))))))))))))) := by kernel_rfl
end Go.Proofs.YtdhjoimiejdgbabDoor.L
