import Derived.Test.YtkagdmhijjfnnaaDoorMgAQ
namespace Go.Proofs.YtkagdmhijjfnnaaDoor
open Go.RowKit Bs
set_option linter.unusedVariables false
/-- A set and the answer's in their boxes. -/
structure Bp (w W : World) (n : Int) (v : Value) : Prop where
  a0 : W.cell? ⟨w.heap.size, 0, none⟩ = some (.int .i64 n)
  a1 : W.cell? ⟨w.heap.size, 1, none⟩ = some v
  r : W.heap[w.heap.size + 1]? = some (.cells #[.int .i64 0, .slice none 0 0] 30 (0, 0))
  lt : w.heap.size + 1 < W.heap.size
  low : Below w.heap.size w W
theorem Bp.new (w : World) (n : Int) (v : Value) : Bp w ((w.alloc (.cells #[.int .i64 n, v] 30)).alloc (.cells #[.int .i64 0, .slice none 0 0] 30)) n v := by
  have h2 : ((w.alloc (.cells #[.int .i64 n, v] 30)).alloc (.cells #[.int .i64 0, .slice none 0 0] 30)).heap[w.heap.size]? = some (.cells #[.int .i64 n, v] 30) := by
    rw [heap_alloc_old _ _ (by simp)]; exact heap_alloc_new w _
  have h1 : ((w.alloc (.cells #[.int .i64 n, v] 30)).alloc (.cells #[.int .i64 0, .slice none 0 0] 30)).heap[w.heap.size + 1]? = some (.cells #[.int .i64 0, .slice none 0 0] 30) := by
    have := heap_alloc_new (w.alloc (.cells #[.int .i64 n, v] 30)) (.cells #[.int .i64 0, .slice none 0 0] 30)
    simpa using this
  refine ⟨?_, ?_, h1, by simp, (lowAlloc w _).alloc (by simp) _⟩
  · rw [cell_of_row _ _ 0 _ _ _ h2]; rfl
  · rw [cell_of_row _ _ 1 _ _ _ h2]; rfl
theorem Bp.on {w W W' : World} {n : Int} {v : Value} (h : Bp w W n v) (k : Below W.heap.size W W') : Bp w W' n v := by
  have l := h.lt
  exact ⟨(k.cell (p := ⟨w.heap.size, 0, none⟩) (Nat.lt_of_succ_lt l)).trans h.a0, (k.cell (p := ⟨w.heap.size, 1, none⟩) (Nat.lt_of_succ_lt l)).trans h.a1, (k.block _ l).trans h.r, Nat.lt_of_lt_of_le l k.size, belowT h.low k⟩
theorem Bp.r0 {w W : World} {n : Int} {v : Value} (h : Bp w W n v) : W.cell? ⟨w.heap.size + 1, 0, none⟩ = some (.int .i64 0) := by rw [cell_of_row _ _ 0 _ _ _ h.r]; rfl
theorem Bp.r1 {w W : World} {n : Int} {v : Value} (h : Bp w W n v) : W.cell? ⟨w.heap.size + 1, 1, none⟩ = some (.slice none 0 0) := by rw [cell_of_row _ _ 1 _ _ _ h.r]; rfl
theorem Bp.f0 {w W : World} {n : Int} {v : Value} (h : Bp w W n v) : W.frozen? ⟨w.heap.size + 1, 0, none⟩ = false := frozen_of_row _ _ 0 _ _ h.r
theorem Bp.f1 {w W : World} {n : Int} {v : Value} (h : Bp w W n v) : W.frozen? ⟨w.heap.size + 1, 1, none⟩ = false := frozen_of_row _ _ 1 _ _ h.r
theorem Bp.grown {w W W' : World} {n : Int} {v : Value} (h : Bp w W n v) {g : Option Nat} (k : W.grownBy W' g) (hg : ∀ b, g = some b → w.heap.size + 1 < b) : Bp w W' n v := by
  have l := h.lt
  have bl : ∀ b, b ≤ w.heap.size + 1 → W'.heap[b]? = W.heap[b]? := fun b hb => k.block b (by omega) (fun e => by have := hg b e.symm; omega)
  refine ⟨(World.cell?_of_block (w := W) (a := ⟨w.heap.size, 0, none⟩) (bl _ (by simp))).trans h.a0, (World.cell?_of_block (w := W) (a := ⟨w.heap.size, 1, none⟩) (bl _ (by simp))).trans h.a1, (bl _ (Nat.le_refl _)).trans h.r, Nat.lt_of_lt_of_le l k.size, ?_⟩
  exact h.low.grown k (by omega) (fun b e => by have := hg b e; omega)
theorem own_low {w w' : World} {base : Nat} {v : Value} {zs : List Int} (h : OwnI w base v zs) (k : Below w.heap.size w w') : OwnI w' base v zs := by
  refine ⟨h.1, ?_⟩
  rcases h.2 with e | ⟨g, cap, cur, e, h1, h2, h3⟩
  · exact Or.inl e
  · exact Or.inr ⟨g, cap, cur, e, h1, (k.block g (lt_of_block h2)).trans h2, h3⟩
theorem own_lt {w : World} {base : Nat} {v : Value} {zs : List Int} (h : OwnI w base v zs) {g : Nat} (e : v.ownBlock = some g) : base ≤ g ∧ g < w.heap.size := by
  refine ⟨owns_block h g e, ?_⟩
  rcases h.2 with ⟨e', _⟩ | ⟨g', cap, cur, e', h1, h2, h3⟩
  · rw [e'] at e; cases e
  · rw [e'] at e; simp [Value.ownBlock] at e; subst e; exact lt_of_block h2
/-- A list of one's own, to be read. -/
theorem own_read {w : World} {base : Nat} {v : Value} {zs : List Int} (h : OwnI w base v zs) : (v = .slice none 0 0 ∧ zs = []) ∨ ∃ b cap, v = .slice (some ⟨b, 0, none⟩) zs.length cap ∧ zs.length ≤ cap ∧ b < w.heap.size ∧ ∀ j, j < zs.length → w.cell? ⟨b, 0 + j, none⟩ = some (.int .i64 (zs.getD j 0)) := by
  have hh := holds_of_owns h
  rcases h.2 with ⟨e, h0⟩ | ⟨g, cap, cur, rfl, h1, h2, h3, _⟩
  · exact Or.inl ⟨e, List.eq_nil_of_length_eq_zero h0⟩
  · refine Or.inr ⟨g, cap, rfl, h3, lt_of_block h2, ?_⟩
    rcases hh.ex with ⟨e, _⟩ | ⟨b, off, c, e, hc⟩
    · cases e
    · injection e with e _ _
      injection e with e
      injection e with e1 e2 _
      subst e1; subst e2
      exact hc
set_option maxRecDepth 100000 in
set_option maxHeartbeats 4000000 in
theorem dwithin (n : Int) (v : Value) (zs : List Int) (m : Int) (w : World) (h : OwnI w 0 v zs) (hu : Up zs) (hL : zs.length ≤ 65536) :
    Calls Tryd.prog 99 #[.agg #[.int .i64 n, v], .int .i64 m] w fun e w' => ∃ v', e = .returned (.agg #[.int .i64 m, v']) ∧ OwnI w' w.heap.size v' (zs.take (bel zs m)) ∧ Below w.heap.size w w' := by
  have X0 := hid (Bp.new w n v)
  have HK : Hid (∀ W, Below w.heap.size w W → Calls Tryd.prog 98 #[.agg #[.int .i64 n, v], .int .i64 m] W fun e w' => e = .returned (.int .i64 ((bel zs m : Nat) : Int)) ∧ Below W.heap.size W w') := by
    obtain ⟨a, cap, rfl, hr⟩ := (holds_of_owns h).rd
    exact hid fun W hW => dbelow n a cap zs m W (hr.low hW (Nat.le_refl _)) hu hL
  have hle := bel_le zs m
  have hform : ∃ a cap, v = .slice a zs.length cap ∧ zs.length ≤ cap ∧ (a = none → cap = 0) := by
    rcases own_read h with ⟨rfl, rfl⟩ | ⟨b, cap, rfl, hcap, _, hc⟩
    · exact ⟨none, 0, rfl, Nat.le_refl _, fun _ => rfl⟩
    · exact ⟨_, cap, rfl, hcap, fun e => by cases e⟩
  obtain ⟨a, cap, rfl, hcap, hnone⟩ := hform
  have HT : Hid (∀ W, Below w.heap.size w W → Holds W (.slice a (bel zs m) cap) (zs.take (bel zs m))) := by
    refine hid fun W hW => ?_
    rcases own_read h with ⟨e, e2⟩ | ⟨b, cap', e, _, _, hc⟩
    · injection e with e1 _ e3
      subst e1; subst e3; subst e2
      exact ⟨Or.inl ⟨rfl, rfl⟩⟩
    · injection e with e1 _ e3
      subst e1; subst e3
      exact holds_take (fun j hj => (hW.cell (p := ⟨b, 0 + j, none⟩) (block_lt_of_cell (hc j hj))).trans (hc j hj)) (bel_le zs m)
  have hkl : (zs.take (bel zs m)).length ≤ 65536 := by rw [List.length_take]; omega
  clear h hu
  generalize bel zs m = k at *
  generalize zs.take k = ys at *
  generalize zs.length = L at *
  have hk2 : k ≤ cap := by omega
  go_enter Tryd.func99, Tryd.ntmps99
  go_wp2_with fail
  generalize (w.alloc _).alloc _ = X at *
  refine (HK.out X X0.out.low).mono ?_
  rintro e w1 ⟨rfl, hb1⟩
  have X1 := hid (X0.out.on hb1)
  have XZ := hid (own_zero w1 w1.heap.size rfl)
  have XB := hid (X1.out.on (lowAlloc w1 (.cells #[] 3)))
  have XH := hid (HT.out _ XB.out.low)
  have u0 := XB.out.a0
  have u1 := XB.out.a1
  have hsz := hid (show w.heap.size + 1 < w1.heap.size from X1.out.lt)
  clear hb1 HK X0 X1 HT
  cases a with
  | none =>
    obtain rfl : cap = 0 := hnone rfl
    obtain rfl : L = 0 := by omega
    obtain rfl : k = 0 := by omega
    go_wp2_with (at_builtin; refine wpList_append_src rfl _ _ rfl w1.heap.size _ [] rfl XZ.out _ ys rfl XH.out ?c1 ?c2 ?_; rotate_left 2; intro v1 w2 o1 g1; have X2 := XB.out.grown g1 (fun b e => by have := (own_lt XZ.out e).1; have := hsz.out; omega); have r0 := X2.r0; have r1 := X2.r1; have f0 := X2.f0; have f1 := X2.f1; have XL := hid X2.low; clear X2; obtain ⟨av, cv, hv⟩ := own_form o1; subst hv; have O1 := hid (own_mono o1 (show w.heap.size ≤ w1.heap.size by have := hsz.out; omega)); have F1 := hid (own_far o1 hsz.out); clear o1 g1 u0 u1)
    case c1 => simp; omega
    case c2 => simp
    refine bodyPost_ret (v := .agg #[.int .i64 m, .slice av _ cv]) ?_ rfl ⟨_, rfl, own_set (own_set O1.out _ F1.out) _ F1.out, below_st (below_st XL.out _ _ _ (by omega)) _ _ _ (by omega)⟩
    rw [results_cell1 rfl]
    go_simp
  | some ad =>
    go_wp2_with (at_builtin; refine wpList_append_src rfl _ _ rfl w1.heap.size _ [] rfl XZ.out _ ys rfl XH.out ?c1 ?c2 ?_; rotate_left 2; intro v1 w2 o1 g1; have X2 := XB.out.grown g1 (fun b e => by have := (own_lt XZ.out e).1; have := hsz.out; omega); have r0 := X2.r0; have r1 := X2.r1; have f0 := X2.f0; have f1 := X2.f1; have XL := hid X2.low; clear X2; obtain ⟨av, cv, hv⟩ := own_form o1; subst hv; have O1 := hid (own_mono o1 (show w.heap.size ≤ w1.heap.size by have := hsz.out; omega)); have F1 := hid (own_far o1 hsz.out); clear o1 g1 u0 u1)
    case c1 => simp; omega
    case c2 => simp
    refine bodyPost_ret (v := .agg #[.int .i64 m, .slice av _ cv]) ?_ rfl ⟨_, rfl, own_set (own_set O1.out _ F1.out) _ F1.out, below_st (below_st XL.out _ _ _ (by omega)) _ _ _ (by omega)⟩
    rw [results_cell1 rfl]
    go_simp
end Go.Proofs.YtkagdmhijjfnnaaDoor
