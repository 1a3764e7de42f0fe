import Derived.Test.YtodamoblnlcodaaDoorDff
import Derived.Test.YtodamoblnlcodaaDoorWak
import Derived.Maps.AppendAt
namespace Go.Proofs.YtodamoblnlcodaaDoor.L
open Go.RowKit Go.Shelf
set_option linter.unusedVariables false
attribute [local go_sem] Oper.semAt_some
theorem grown_of {W W' : World} (h : Below W.heap.size W W') : W.grownBy W' none := ⟨h.os, h.tape, h.output, h.size, fun k hk _ => h.block k hk⟩
theorem seq_stops (n : Nat) (hn : 1 ≤ n) (m0 B : Nat) (v1 v2 : Value) (A C : List Lb) (w0 : World) (h1 : w0.cell? ⟨B, 0, none⟩ = some v1) (h2 : w0.cell? ⟨B + 1, 0, none⟩ = some v2) (hB : B + 1 < w0.heap.size)
    (s1 : Sl m0 w0.heap.size w0 v1 A) (s2 : Sl m0 w0.heap.size w0 v2 C) :
    SeqStopsK Fence.wide n Tryd.prog 19 #[.pointer (some ⟨B, 0, none⟩), .pointer (some ⟨B + 1, 0, none⟩)] (fun d => #[dv d]) (Mid m0 w0.heap.size) (fun xs => xs = df A C) (fun pre => pre <+: df A C) (df A C).length w0 := by
  intro l J Jx W hW hJ hJx hY h0
  exact iter_in n hn l m0 w0.heap.size B v1 v2 A C J Jx (fun pre W W' h hb => hJ pre W W' none h (grown_of hb) (fun r e => by cases e)) hY W hW.size ((hW.cell (p := ⟨B, 0, none⟩) (Nat.lt_of_succ_lt hB)).trans h1) ((hW.cell (p := ⟨B + 1, 0, none⟩) hB).trans h2) (s1.low (Mid.of hW (Nat.le_refl _))) (s2.low (Mid.of hW (Nat.le_refl _))) h0
theorem infoD : (Tryd.prog.info? 35).map (fun i => (i.zero, i.size, i.bytes)) = some (some (.agg #[.string ByteArray.empty, .string ByteArray.empty, .string ByteArray.empty, .bool false, .bool false]), 5, 56) := by kernel_rfl
def cellsD (l : List Df) : List Value := l.flatMap fun d => [.string d.k, .string d.o, .string d.n, .bool d.had, .bool d.has]
theorem cellsD_snoc (l : List Df) (d : Df) : cellsD (l ++ [d]) = cellsD l ++ [.string d.k, .string d.o, .string d.n, .bool d.had, .bool d.has] := by simp [cellsD]
theorem row_mono {W : World} {base base' : Nat} {e : TypeId} {size : Nat} {v : Value} {k : Nat} {xs : List Value} (h : W.ownsRow base e size v k xs) (hb : base' ≤ base) : W.ownsRow base' e size v k xs := by
  obtain ⟨h1, h2⟩ := h
  refine ⟨h1, ?_⟩
  rcases h2 with h | ⟨g, cap, cur, hv, hg, r⟩
  · exact Or.inl h
  · exact Or.inr ⟨g, cap, cur, hv, Nat.le_trans hb hg, r⟩
theorem keeps_of {W W' : World} (h : Below W.heap.size W W') : KeepsOthers W W' := ⟨h.size, fun k o hk _ => (h.block k (Array.getElem?_eq_some_iff.1 hk).1).trans hk⟩
theorem cell_five_new (w : World) (a b c d e : Value) (t : TypeId) : ∀ (j : Nat) (u : Value), [a, b, c, d, e][j]? = some u → (w.alloc (.cells #[a, b, c, d, e] t)).cell? ((⟨w.heap.size, 0, none⟩ : Addr).add j) = some u := by
  intro j u hu
  match j, hu with
  | 0, hu => simp at hu; subst hu; simp [go_sem, Addr.add]
  | 1, hu => simp at hu; subst hu; simp [go_sem, Addr.add]
  | 2, hu => simp at hu; subst hu; simp [go_sem, Addr.add]
  | 3, hu => simp at hu; subst hu; simp [go_sem, Addr.add]
  | 4, hu => simp at hu; subst hu; simp [go_sem, Addr.add]
  | j + 5, hu => simp at hu
/-- The five cells of a difference. -/
structure FiveAt (W : World) (B : Nat) (x : Df) : Prop where
  d0 : W.cell? ⟨B, 0, none⟩ = some (.string x.k)
  d1 : W.cell? ⟨B, 1, none⟩ = some (.string x.o)
  d2 : W.cell? ⟨B, 2, none⟩ = some (.string x.n)
  d3 : W.cell? ⟨B, 3, none⟩ = some (.bool x.had)
  d4 : W.cell? ⟨B, 4, none⟩ = some (.bool x.has)
theorem mid_app {W w1 : World} {m0 n0 Bo : Nat} {tmp : Obj} {v v' : Value} (hgrow : (W.alloc tmp).grownBy w1 v.ownBlock) (hown : ∀ k, v.ownBlock = some k → n0 ≤ k) (hN : n0 ≤ W.heap.size) (hBo : Bo < m0) : Mid m0 n0 W (w1.setCell ⟨Bo, 0, none⟩ v') := by
  have e1 : ∀ k, m0 ≤ k → k < n0 → w1.heap[k]? = W.heap[k]? := by
    intro k h1 h2
    refine (hgrow.block k (by simp; omega) (fun e => ?_)).trans (Below.heap_alloc W _ k (by omega))
    have := hown k e.symm
    omega
  refine ⟨?_, fun k h1 h2 => ?_⟩
  · have := hgrow.size
    simp at this
    simp [World.setCell]
    omega
  · exact (Below.heap_setCell w1 ⟨Bo, 0, none⟩ v' k (by simp; omega)).trans (e1 k h1 h2)
/-- What Diff answers: a walk over two boxes of lists. -/
def DiffPost (w : World) (l1 l2 : List Lb) (e : Ending) (w' : World) : Prop := ∃ x1 x2, e = .returned (.func (.func 19) #[] #[.pointer (some ⟨w.heap.size, 0, none⟩), .pointer (some ⟨w.heap.size + 1, 0, none⟩)]) ∧ Below w.heap.size w w' ∧ w'.cell? ⟨w.heap.size, 0, none⟩ = some x1 ∧ w'.cell? ⟨w.heap.size + 1, 0, none⟩ = some x2 ∧ Came w' x1 l1 ∧ Came w' x2 l2 ∧ w.heap.size + 1 < w'.heap.size ∧ (∀ b off n c, x1 = .slice (some ⟨b, off, none⟩) n c → l1 ≠ [] → w.heap.size + 1 < b) ∧ (∀ b off n c, x2 = .slice (some ⟨b, off, none⟩) n c → l2 ≠ [] → w.heap.size + 1 < b)
set_option maxHeartbeats 4000000 in
set_option maxRecDepth 100000 in
theorem walk_of (v1 v2 : Value) (l1 l2 : List Lb) (w : World) (hD : Calls Tryd.prog 8 #[v1, v2] (w.alloc (.cells #[.slice none 0 0] 24)) (DiffPost (w.alloc (.cells #[.slice none 0 0] 24)) l1 l2)) (hlen : (df l1 l2).length ≤ 64) :
    Calls Tryd.prog 5 #[v1, v2] w fun e w' => ∃ v, e = .returned v ∧ w'.ownsRow w.heap.size 35 5 v (df l1 l2).length (cellsD (df l1 l2)) ∧ Below w.heap.size w w' := by
  obtain ⟨i0, hi, hz0, hz1, hz2⟩ := info_parts infoD
  have b0 : Below w.heap.size w (w.alloc (.cells #[.slice none 0 0] 24)) := belowA _ _
  have HD := hid hD
  have qf := run_eql_func_nil
  clear hD
  refine (callsIn_wide (n := 3)).1 ?_
  refine callsIn_of_wp_marks Tryd.func5 rfl trivial ?_ rfl
  simp only [Tryd.ntmps5, List.size_toArray, List.length_cons, List.length_nil, Nat.reduceAdd, Nat.reduceSub, Array.replicate_succ, Array.replicate_zero, List.push_toArray, List.append_toArray, List.nil_append, List.cons_append]
  gi_wp2_with (refine ⟨trivial, ?_⟩; gi_at_call 8; refine (callsIn_wide.2 HD.out).mono ?_; rintro e w1 ⟨x1, x2, rfl, hb, k1, k2, c1, c2, hz, f1, f2⟩)
  have hn0 : w.heap.size + 1 ≤ w1.heap.size := by have := hb.size; simpa using this
  have B1 : Below w.heap.size w w1 := b0.trans (hb.mono (by simp))
  rw [World.size_alloc] at k1 k2 hz f1 f2
  have bx : Boxed w1 w.heap.size 24 (.slice none 0 0) := (hb.block w.heap.size (by simp)).trans (World.alloc_heap_new w _)
  have hI : OwnFrom w1.heap.size (fun (pre : List Df) W => (∃ v, Boxed W w.heap.size 24 v ∧ W.ownsRow w1.heap.size 35 5 v pre.length (cellsD pre) ∧ True) ∧ (Below w.heap.size w W ∧ w1.heap.size ≤ W.heap.size)) :=
    OwnFrom.and (Own.from (holdsRow_own w1.heap.size w.heap.size 24 35 5 (fun pre => pre.length) cellsD (fun _ _ => True)) _) (OwnFrom.and (ownFrom_below (Nat.le_refl _) (by omega)) (Own.from (fun s A B row hs hg hr => Nat.le_trans hs hg.size) _))
  refine wpIn_rangeFunc_ownH rfl (by decide) (gf := 19) (lb := #[.pointer (some ⟨w.heap.size + 1, 0, none⟩), .pointer (some ⟨w.heap.size + 1 + 1, 0, none⟩)]) rfl trivial (enters_of Tryd.func19 (by kernel_rfl) rfl)
    (seq_stops (3 - 1) (by decide) (w.heap.size + 1) (w.heap.size + 1) x1 x2 l1 l2 w1 k1 k2 hz (sl_of c1 _ _ (Nat.le_refl _) (fun b off n c e hl => by have := f1 b off n c e hl; omega)) (sl_of c2 _ _ (Nat.le_refl _) (fun b off n c e hl => by have := f2 b off n c e hl; omega)))
    Mid.trans (fun W l o o' hl h _ _ => Mid.of (N := w1.heap.size) ((Below.refl _ W).grown (grownBy_putObj' W l o') (by have := (Array.getElem?_eq_some_iff.1 h).1; omega) (fun k e => by cases e; exact hl)) (Nat.le_refl _)) (Below.refl _ _) (fun _ => rfl)
    (fun (pre : List Df) W => (∃ v, Boxed W w.heap.size 24 v ∧ W.ownsRow w1.heap.size 35 5 v pre.length (cellsD pre) ∧ True) ∧ (Below w.heap.size w W ∧ w1.heap.size ≤ W.heap.size))
    (fun _ _ _ => False) hI (fun c => fun _ _ _ _ hs _ _ => hs) ⟨⟨_, bx, World.ownsRow_nil _ _ _ _, trivial⟩, B1, Nat.le_refl _⟩
    (fun x a' W => ∃ Bx, FiveAt W Bx x ∧ a' = { tmps := #[v1, v2, undef, undef, .slice none 0 0, .pointer (some ⟨w.heap.size, 0, none⟩), .func (.func 19) #[] #[.pointer (some ⟨w.heap.size + 1, 0, none⟩), .pointer (some ⟨w.heap.size + 1 + 1, 0, none⟩)], .pointer (some ⟨Bx, 0, none⟩), v1, v2, .func (.func 19) #[] #[.pointer (some ⟨w.heap.size + 1, 0, none⟩), .pointer (some ⟨w.heap.size + 1 + 1, 0, none⟩)], .func (.func 19) #[] #[.pointer (some ⟨w.heap.size + 1, 0, none⟩), .pointer (some ⟨w.heap.size + 1 + 1, 0, none⟩)], .bool false, undef, undef, .func (.func 19) #[] #[.pointer (some ⟨w.heap.size + 1, 0, none⟩), .pointer (some ⟨w.heap.size + 1 + 1, 0, none⟩)], dv x, undef, undef, undef, undef, undef], defers := [] })
    (fun x a' => fun _ A B row hs hg hr => by
      obtain ⟨Bx, ⟨d0, d1, d2, d3, d4⟩, e⟩ := hs
      have hr' := fun r e => (hr r e).2
      exact ⟨Bx, ⟨cell_kept d0 hg hr', cell_kept d1 hg hr', cell_kept d2 hg hr', cell_kept d3 hg hr', cell_kept d4 hg hr'⟩, e⟩) ?assign ?body ?done ?stop
  case assign =>
    rintro l pre x W K hi hK
    have HK := hid hK
    have HI := hid hi
    clear hK hi
    simp only [dv]
    gi_wp2
    exact HK.out _ _ ((KeepsOthers.alloc _ _).from _) (Mid.of (belowA W _) HI.out.2.2) (hI.alloc _ HI.out) ⟨W.heap.size, ⟨by simp [go_sem], by simp [go_sem], by simp [go_sem], by simp [go_sem], by simp [go_sem]⟩, rfl⟩
  case body =>
    rintro l pre x a' W hl hr ⟨⟨v, hv, hrow, -⟩, hB, hN⟩ ⟨Bx, ⟨d0, d1, d2, d3, d4⟩, rfl⟩ hlt
    have hc := hv.cell
    have hf := hv.frozen
    have HR := hid hrow
    have HV := hid hv
    have HB := hid hB
    clear hrow hv hB hr
    obtain ⟨xk, xo, xn, xh, xs⟩ := x
    simp only at d0 d1 d2 d3 d4
    gi_wp2_with (first
      | (gi_at_builtin; refine wpListIn_append_own _ rfl _ _ 24 rfl w1.heap.size 35 i0 (.agg #[.string ByteArray.empty, .string ByteArray.empty, .string ByteArray.empty, .bool false, .bool false]) 5 56 Tryd.underlying24 hi hz0 hz1 hz2 rfl (by decide) _ _ _ rfl (HR.out.alloc _) ⟨W.heap.size, 0, none⟩ 1 1 [.string xk, .string xo, .string xn, .bool xh, .bool xs] rfl rfl (cell_five_new _ _ _ _ _ _ _) (fun x hx => by simp at hx; rcases hx with rfl | rfl | rfl | rfl | rfl <;> rfl) (by unfold maxLen; omega) (by omega) (by simp; omega) ?_; intro v' w2 hown' hgrow hnil; obtain ⟨g', cap', rfl⟩ := ownsRow_succ hown'; obtain ⟨hv1, hv2, hr2, hk2, hb2⟩ := HV.out.appended (by decide) (row_mono HR.out (show w.heap.size ≤ w1.heap.size by omega)) (by omega) (Nat.le_refl _) (row_mono hown' (show w.heap.size ≤ w1.heap.size by omega)) hgrow; have hc1 := hv1.cell; have hf1 := hv1.frozen))
    refine ⟨hk2.from _, mid_app hgrow (own_base HR.out) hN (Nat.lt_succ_self _), ⟨⟨_, hv2, ?_, trivial⟩, HB.out.trans hb2, Nat.le_trans hN hb2.size⟩⟩
    rw [cellsD_snoc, List.length_append]
    exact hown'.kept (grownBy_setCell' w2 w.heap.size _) (.inr (hv1.not_row (by decide) hown').symm)
  case done =>
    rintro D ys W hD rfl ⟨⟨v, hv, hrow, -⟩, hB, hN⟩ hK
    have hc := hv.cell
    have HR := hid hrow
    have HB := hid hB
    clear hrow hB
    gi_wp2
    refine ⟨by simp, .inl ⟨_, _, rfl, run_takeDeferred hK, ?_⟩⟩
    exact ⟨_, results_tmp rfl _ _ _, _, rfl, ownsRow_putObj (row_mono HR.out (by omega)) _ hK rfl, HB.out.trans (belowK_b (w := w) (Nat.le_refl _) W D _ _ (by omega) hK rfl rfl)⟩
  case stop =>
    rintro D c pre W _ _ h _
    exact h.elim
end Go.Proofs.YtodamoblnlcodaaDoor.L
