import Derived.Test.YtiddnjjaidiohaaGreatDoorMgAX
namespace Go.Proofs.YtiddnjjaidiohaaGreatDoor.L
open Go.RowKit
set_option linter.unusedVariables false
def bdC : Code → Code
  | .block _ c => c
  | .loop c => c
  | c => c
theorem alloc2 (w : World) (A B : Obj) : ((w.alloc A).alloc B).heap[w.heap.size]? = some A ∧ ((w.alloc A).alloc B).heap[w.heap.size + 1]? = some B ∧ Below w.heap.size w ((w.alloc A).alloc B) := by
  have b1 := belowA w A
  have b2 := belowA (w.alloc A) B
  have n1 := heap_alloc_new w A
  have n2 := heap_alloc_new (w.alloc A) B
  have s1 : (w.alloc A).heap.size = w.heap.size + 1 := by simp
  rw [s1] at n2
  exact ⟨(b2.block _ (by rw [s1]; omega)).trans n1, n2, bchS b1 b2⟩
theorem cell_allo {W : World} {O : Obj} {b j : Nat} (h : b < W.heap.size) : (W.alloc O).cell? ⟨b, j, none⟩ = W.cell? ⟨b, j, none⟩ := (belowA W O).cell (p := ⟨b, j, none⟩) h
/-- One type and one fault in boxes. -/
structure Two (w W : World) (g h : Nat) (so si c i : Int) : Prop where
  low : Below w.heap.size w W
  ty : W.heap[g]? = some (.cells #[.int .i64 so, .int .i64 si] 47 (0, 0))
  fa : W.heap[h]? = some (.cells #[.int .i64 c, .int .i64 i, .int .i64 0] 33 (0, 0))
theorem two1 {wr w9 : World} (h : Below wr.heap.size wr w9) (so si c i : Int) : Two wr ((w9.alloc (.cells #[.int .i64 so, .int .i64 si] 47)).alloc (.cells #[.int .i64 c, .int .i64 i, .int .i64 0] 33)) w9.heap.size (w9.heap.size + 1) so si c i :=
  have a := alloc2 w9 (.cells #[.int .i64 so, .int .i64 si] 47) (.cells #[.int .i64 c, .int .i64 i, .int .i64 0] 33)
  ⟨bchS h a.2.2, a.1, a.2.1⟩
theorem two2 {wr w9 : World} (h : Below wr.heap.size wr w9) (so si c i : Int) : Two wr ((w9.alloc (.cells #[.int .i64 c, .int .i64 i, .int .i64 0] 33)).alloc (.cells #[.int .i64 so, .int .i64 si] 47)) (w9.heap.size + 1) w9.heap.size so si c i :=
  have a := alloc2 w9 (.cells #[.int .i64 c, .int .i64 i, .int .i64 0] 33) (.cells #[.int .i64 so, .int .i64 si] 47)
  ⟨bchS h a.2.2, a.2.1, a.1⟩
theorem two3 {wr w9 : World} (h : Below wr.heap.size wr w9) (b : w9.heap[wr.heap.size]? = some (.cells #[.int .i64 0, .int .i64 0] 47 (0, 0))) (so si c i : Int) : Two wr (((w9.setCell ⟨wr.heap.size, 0, none⟩ (.int .i64 so)).setCell ⟨wr.heap.size, 1, none⟩ (.int .i64 si)).alloc (.cells #[.int .i64 c, .int .i64 i, .int .i64 0] 33)) wr.heap.size w9.heap.size so si c i := by
  have b1 := (h.setCell (p := ⟨wr.heap.size, 0, none⟩) (Nat.le_refl _) (.int .i64 so)).setCell (p := ⟨wr.heap.size, 1, none⟩) (Nat.le_refl _) (.int .i64 si)
  have h1 := heap_set2 b (.int .i64 so) (.int .i64 si)
  have hs : ((w9.setCell ⟨wr.heap.size, 0, none⟩ (.int .i64 so)).setCell ⟨wr.heap.size, 1, none⟩ (.int .i64 si)).heap.size = w9.heap.size := by simp
  generalize (w9.setCell ⟨wr.heap.size, 0, none⟩ (.int .i64 so)).setCell ⟨wr.heap.size, 1, none⟩ (.int .i64 si) = V at *
  have a := belowA V (.cells #[.int .i64 c, .int .i64 i, .int .i64 0] 33)
  have n := heap_alloc_new V (.cells #[.int .i64 c, .int .i64 i, .int .i64 0] 33)
  rw [hs] at n
  exact ⟨bchS b1 a, (a.block _ (lt_blk h1)).trans h1, n⟩
theorem two4 {wr w9 : World} {r q : Nat} (h : Below wr.heap.size wr w9) (b : w9.heap[r]? = some (.cells #[.int .i64 0, .int .i64 0] 47 (0, 0))) (d : w9.heap[q]? = some (.cells #[.int .i64 0, .int .i64 0, .int .i64 0] 33 (0, 0))) (hr : wr.heap.size ≤ r) (hq : wr.heap.size ≤ q) (hne : r ≠ q) (so si c i : Int) : Two wr (((((w9.setCell ⟨r, 0, none⟩ (.int .i64 so)).setCell ⟨r, 1, none⟩ (.int .i64 si)).setCell ⟨q, 0, none⟩ (.int .i64 c)).setCell ⟨q, 1, none⟩ (.int .i64 i)).setCell ⟨q, 2, none⟩ (.int .i64 0)) r q so si c i := by
  have f := (show Tfr wr w9 r q from ⟨b, d, h, hr, hq, hne⟩).fin (.int .i64 so) (.int .i64 si) (.int .i64 c) (.int .i64 i) (.int .i64 0)
  exact ⟨f.2.2, f.1, f.2.1⟩
theorem two5 {wr w9 : World} (h : Below wr.heap.size wr w9) (b : w9.heap[wr.heap.size]? = some (.cells #[.int .i64 0, .int .i64 0, .int .i64 0] 33 (0, 0))) (so si c i : Int) : Two wr ((((w9.setCell ⟨wr.heap.size, 0, none⟩ (.int .i64 c)).setCell ⟨wr.heap.size, 1, none⟩ (.int .i64 i)).setCell ⟨wr.heap.size, 2, none⟩ (.int .i64 0)).alloc (.cells #[.int .i64 so, .int .i64 si] 47)) w9.heap.size wr.heap.size so si c i := by
  have b1 := ((h.setCell (p := ⟨wr.heap.size, 0, none⟩) (Nat.le_refl _) (.int .i64 c)).setCell (p := ⟨wr.heap.size, 1, none⟩) (Nat.le_refl _) (.int .i64 i)).setCell (p := ⟨wr.heap.size, 2, none⟩) (Nat.le_refl _) (.int .i64 0)
  have h1 := heap_set3 b (.int .i64 c) (.int .i64 i) (.int .i64 0)
  have hs : (((w9.setCell ⟨wr.heap.size, 0, none⟩ (.int .i64 c)).setCell ⟨wr.heap.size, 1, none⟩ (.int .i64 i)).setCell ⟨wr.heap.size, 2, none⟩ (.int .i64 0)).heap.size = w9.heap.size := by simp
  generalize ((w9.setCell ⟨wr.heap.size, 0, none⟩ (.int .i64 c)).setCell ⟨wr.heap.size, 1, none⟩ (.int .i64 i)).setCell ⟨wr.heap.size, 2, none⟩ (.int .i64 0) = V at *
  have a := belowA V (.cells #[.int .i64 so, .int .i64 si] 47)
  have n := heap_alloc_new V (.cells #[.int .i64 so, .int .i64 si] 47)
  rw [hs] at n
  exact ⟨bchS b1 a, n, (a.block _ (lt_blk h1)).trans h1⟩
set_option maxHeartbeats 16000000 in
set_option maxRecDepth 100000 in
theorem chk_11 (wr : World) (tb gm L k cap vc : Nat) (a va : Option Addr) (s : Int) (o : Option (Nat × Int)) (ty : Int × Int) (Q : Exit → Act → World → Prop) {t0 t1 t3 t4 t5 t6 t7 t11 t12 t13 t14 t15 t16 t17 t18 t19 t20 t21 t22 t23 t24 t25 t26 t27 t28 t29 t30 t31 t32 t33 t34 t35 t36 t37 t38 t39 t40 t41 t42 t43 t44 t45 t46 t47 t48 t49 t50 t51 t52 t53 t54 t55 t56 t57 t58 t59 t60 t61 t62 t63 t64 t65 t66 t67 t68 t69 t70 t71 t72 t73 : Value}
    (htb : tb < wr.heap.size) (hgm : gm < wr.heap.size) (x0 : wr.cell? ⟨tb, 0, none⟩ = some (.slice a L cap)) (m0 : wr.cell? ⟨gm, k, none⟩ = some (.int .i64 s)) (hk : k < L) (hL : L ≤ 1000)
    (hto : ∀ W, Below wr.heap.size wr W → Calls Tryz.prog 24 #[.agg #[.slice a L cap], .int .i64 (k : Int), .int .i64 s, .slice va k vc] W fun e w' => TyE o ty e ∧ Below W.heap.size W w')
    (nx : ∀ (W' : World) (g h : Nat) (so si : Int) {x41 x42 x43 x44 x45 x46 x47 x48 x49 x50 x51 : Value}, Two wr W' g h so si (fO o).1 (fO o).2 → (o = none → (so, si) = ty) → Q Exit.normal { tmps := #[t0, t1, .pointer (some ⟨tb, 0, none⟩), t3, t4, t5, t6, t7, .slice (some ⟨gm, 0, none⟩) L L, .slice va k vc, .int .i64 (k : Int), .pointer (some ⟨g, 0, none⟩), .pointer (some ⟨h, 0, none⟩), t13, t14, t15, t16, t17, t18, t19, t20, t21, t22, t23, t24, t25, t26, t27, t28, t29, t30, t31, t32, t33, t34, t35, t36, t37, t38, t39, t40, x41, x42, x43, x44, x45, x46, x47, x48, x49, x50, x51, t52, t53, t54, t55, t56, t57, t58, t59, t60, t61, t62, t63, t64, t65, t66, t67, t68, t69, t70, t71, t72, t73], defers := [] } W') :
    Code.wp Tryz.prog (hdC (bdC (hdC (rtC (bdC (bdC (rtC (hdC (rtC (rtC (rtC (rtC (rtC (rtC (Option.getD Tryz.f11.body Code.skip))))))))))))))) Q { tmps := #[t0, t1, .pointer (some ⟨tb, 0, none⟩), t3, t4, t5, t6, t7, .slice (some ⟨gm, 0, none⟩) L L, .slice va k vc, .int .i64 (k : Int), t11, t12, t13, t14, t15, t16, t17, t18, t19, t20, t21, t22, t23, t24, t25, t26, t27, t28, t29, t30, t31, t32, t33, t34, t35, t36, t37, t38, t39, t40, t41, t42, t43, t44, t45, t46, t47, t48, t49, t50, t51, t52, t53, t54, t55, t56, t57, t58, t59, t60, t61, t62, t63, t64, t65, t66, t67, t68, t69, t70, t71, t72, t73], defers := [] } wr := by
  have HTO := hid (show ∀ W, Below wr.heap.size wr W → Calls Tryz.prog 24 #[.agg #[.slice a L cap], .int .i64 (k : Int), .int .i64 s, .slice va k vc] W (fun e w' => (∃ so si : Int, e = .returned (.tuple #[.agg #[.int .i64 so, .int .i64 si], .agg #[.int .i64 (fO o).1, .int .i64 (fO o).2, .int .i64 0]]) ∧ (o = none → (so, si) = ty)) ∧ Below W.heap.size W w') from hto)
  have NX := hid nx
  have g1 : (k : Int) < (L : Int) := by omega
  have g2 : (0 : Int) ≤ (k : Int) := by omega
  have A1 := hid (belowA wr (.cells #[.int .i64 0, .int .i64 0] 47))
  have A2 := hid (belowA wr (.cells #[.int .i64 0, .int .i64 0, .int .i64 0] 33))
  have A3 := hid (bchS A1.out (belowA (wr.alloc (.cells #[.int .i64 0, .int .i64 0] 47)) (.cells #[.int .i64 0, .int .i64 0, .int .i64 0] 33)))
  have A4 := hid (bchS A2.out (belowA (wr.alloc (.cells #[.int .i64 0, .int .i64 0, .int .i64 0] 33)) (.cells #[.int .i64 0, .int .i64 0] 47)))
  have T0 := And.intro x0 m0
  have T1 := And.intro ((A1.out.cell (p := ⟨tb, 0, none⟩) htb).trans x0) ((A1.out.cell (p := ⟨gm, k, none⟩) hgm).trans m0)
  have T2 := And.intro ((A2.out.cell (p := ⟨tb, 0, none⟩) htb).trans x0) ((A2.out.cell (p := ⟨gm, k, none⟩) hgm).trans m0)
  have T3 := And.intro ((A3.out.cell (p := ⟨tb, 0, none⟩) htb).trans x0) ((A3.out.cell (p := ⟨gm, k, none⟩) hgm).trans m0)
  have T4 := And.intro ((A4.out.cell (p := ⟨tb, 0, none⟩) htb).trans x0) ((A4.out.cell (p := ⟨gm, k, none⟩) hgm).trans m0)
  have ⟨y1, y2⟩ := T1
  have ⟨y3, y4⟩ := T2
  have ⟨y5, y6⟩ := T3
  have ⟨y7, y8⟩ := T4
  clear hto nx
  simp only [hdC, bdC, rtC, Option.getD, Tryz.f11]
  have NA := hid (heap_alloc_new wr (.cells #[.int .i64 0, .int .i64 0] 47))
  have NB := hid (heap_alloc_new wr (.cells #[.int .i64 0, .int .i64 0, .int .i64 0] 33))
  have NC := hid (let h := alloc2 wr (.cells #[.int .i64 0, .int .i64 0] 47) (.cells #[.int .i64 0, .int .i64 0, .int .i64 0] 33); And.intro h.1 h.2.1)
  have ND := hid (let h := alloc2 wr (.cells #[.int .i64 0, .int .i64 0, .int .i64 0] 33) (.cells #[.int .i64 0, .int .i64 0] 47); And.intro h.1 h.2.1)
  go_region_held3 (fun Y => Y.cell? ⟨tb, 0, none⟩ = some (.slice a L cap) ∧ Y.cell? ⟨gm, k, none⟩ = some (.int .i64 s)) (first | with_reducible exact T0 | with_reducible exact T1 | with_reducible exact T2 | with_reducible exact T3 | with_reducible exact T4 | with_reducible exact T9 | go_keep | ((constructor <;> (repeat (first | with_reducible exact T9.1 | with_reducible exact T9.2 | (with_reducible refine (cell_othS (by omega)).trans ?_) | (with_reducible refine (cell_allo (by simp; omega)).trans ?_)))); done))
    (first
      | (go_at_call 24; (with_reducible refine (HTO.out wr.drew (Below.refl _ _).drew).mono ?_); rintro e w9 ⟨⟨so, si, rfl, hts⟩, l9⟩; have HTS := hid hts; clear hts; have L9 := hid (show Below wr.heap.size wr w9 from (undrewS l9)); have hle9 := L9.out.size; have T9 := And.intro ((L9.out.cell (p := ⟨tb, 0, none⟩) htb).trans x0) ((L9.out.cell (p := ⟨gm, k, none⟩) hgm).trans m0); clear l9)
      | (go_at_call 24; (with_reducible refine (HTO.out (wr.alloc (.cells #[.int .i64 0, .int .i64 0] 47)).drew A1.out.drew).mono ?_); rintro e w9 ⟨⟨so, si, rfl, hts⟩, l9⟩; have HTS := hid hts; clear hts; have L9 := hid (show Below wr.heap.size wr w9 from bchS A1.out (undrewS l9)); have hle9 := L9.out.size; have T9 := And.intro ((L9.out.cell (p := ⟨tb, 0, none⟩) htb).trans x0) ((L9.out.cell (p := ⟨gm, k, none⟩) hgm).trans m0); have B1 := hid (((show Below (wr.alloc (.cells #[.int .i64 0, .int .i64 0] 47)).heap.size (wr.alloc (.cells #[.int .i64 0, .int .i64 0] 47)) w9 from (undrewS l9)).block _ (lt_blk NA.out)).trans NA.out); have ⟨⟨r0, r1⟩, ⟨f0, f1⟩⟩ := rc2 B1.out; have hlt := lt_blk B1.out; have hn1 : wr.heap.size ≠ w9.heap.size := Nat.ne_of_lt hlt; have hn2 := Ne.symm hn1; have ⟨⟨r0', r1'⟩, ⟨f0', f1'⟩⟩ := rc2 (((belowA w9 (.cells #[.int .i64 0, .int .i64 0, .int .i64 0] 33)).block _ hlt).trans B1.out); clear l9)
      | (go_at_call 24; (with_reducible refine (HTO.out (wr.alloc (.cells #[.int .i64 0, .int .i64 0, .int .i64 0] 33)).drew A2.out.drew).mono ?_); rintro e w9 ⟨⟨so, si, rfl, hts⟩, l9⟩; have HTS := hid hts; clear hts; have L9 := hid (show Below wr.heap.size wr w9 from bchS A2.out (undrewS l9)); have hle9 := L9.out.size; have T9 := And.intro ((L9.out.cell (p := ⟨tb, 0, none⟩) htb).trans x0) ((L9.out.cell (p := ⟨gm, k, none⟩) hgm).trans m0); have B2 := hid (((show Below (wr.alloc (.cells #[.int .i64 0, .int .i64 0, .int .i64 0] 33)).heap.size (wr.alloc (.cells #[.int .i64 0, .int .i64 0, .int .i64 0] 33)) w9 from (undrewS l9)).block _ (lt_blk NB.out)).trans NB.out); have ⟨⟨r0, r1, r2⟩, ⟨f0, f1, f2⟩⟩ := rc3 B2.out; have hlt := lt_blk B2.out; have hn1 : wr.heap.size ≠ w9.heap.size := Nat.ne_of_lt hlt; have hn2 := Ne.symm hn1; have ⟨⟨r0', r1', r2'⟩, ⟨f0', f1', f2'⟩⟩ := rc3 (((belowA w9 (.cells #[.int .i64 0, .int .i64 0] 47)).block _ hlt).trans B2.out); have ⟨⟨s0', s1', s2'⟩, ⟨u0', u1', u2'⟩⟩ := rc3 (((belowA w9 (.cells #[.int .i64 so, .int .i64 si] 47)).block _ hlt).trans B2.out); clear l9)
      | (go_at_call 24; (with_reducible refine (HTO.out ((wr.alloc (.cells #[.int .i64 0, .int .i64 0] 47)).alloc (.cells #[.int .i64 0, .int .i64 0, .int .i64 0] 33)).drew A3.out.drew).mono ?_); rintro e w9 ⟨⟨so, si, rfl, hts⟩, l9⟩; have HTS := hid hts; clear hts; have L9 := hid (show Below wr.heap.size wr w9 from bchS A3.out (undrewS l9)); have hle9 := L9.out.size; have T9 := And.intro ((L9.out.cell (p := ⟨tb, 0, none⟩) htb).trans x0) ((L9.out.cell (p := ⟨gm, k, none⟩) hgm).trans m0); have B3 := hid (((show Below ((wr.alloc (.cells #[.int .i64 0, .int .i64 0] 47)).alloc (.cells #[.int .i64 0, .int .i64 0, .int .i64 0] 33)).heap.size ((wr.alloc (.cells #[.int .i64 0, .int .i64 0] 47)).alloc (.cells #[.int .i64 0, .int .i64 0, .int .i64 0] 33)) w9 from (undrewS l9)).block _ (lt_blk NC.out.1)).trans NC.out.1); have B4 := hid (((show Below ((wr.alloc (.cells #[.int .i64 0, .int .i64 0] 47)).alloc (.cells #[.int .i64 0, .int .i64 0, .int .i64 0] 33)).heap.size ((wr.alloc (.cells #[.int .i64 0, .int .i64 0] 47)).alloc (.cells #[.int .i64 0, .int .i64 0, .int .i64 0] 33)) w9 from (undrewS l9)).block _ (lt_blk NC.out.2)).trans NC.out.2); have ⟨⟨r0, r1⟩, ⟨f0, f1⟩⟩ := rc2 B3.out; have ⟨⟨q0, q1, q2⟩, ⟨h0, h1, h2⟩⟩ := rc3 B4.out; clear l9)
      | (go_at_call 24; (with_reducible refine (HTO.out ((wr.alloc (.cells #[.int .i64 0, .int .i64 0, .int .i64 0] 33)).alloc (.cells #[.int .i64 0, .int .i64 0] 47)).drew A4.out.drew).mono ?_); rintro e w9 ⟨⟨so, si, rfl, hts⟩, l9⟩; have HTS := hid hts; clear hts; have L9 := hid (show Below wr.heap.size wr w9 from bchS A4.out (undrewS l9)); have hle9 := L9.out.size; have T9 := And.intro ((L9.out.cell (p := ⟨tb, 0, none⟩) htb).trans x0) ((L9.out.cell (p := ⟨gm, k, none⟩) hgm).trans m0); have B5 := hid (((show Below ((wr.alloc (.cells #[.int .i64 0, .int .i64 0, .int .i64 0] 33)).alloc (.cells #[.int .i64 0, .int .i64 0] 47)).heap.size ((wr.alloc (.cells #[.int .i64 0, .int .i64 0, .int .i64 0] 33)).alloc (.cells #[.int .i64 0, .int .i64 0] 47)) w9 from (undrewS l9)).block _ (lt_blk ND.out.1)).trans ND.out.1); have B6 := hid (((show Below ((wr.alloc (.cells #[.int .i64 0, .int .i64 0, .int .i64 0] 33)).alloc (.cells #[.int .i64 0, .int .i64 0] 47)).heap.size ((wr.alloc (.cells #[.int .i64 0, .int .i64 0, .int .i64 0] 33)).alloc (.cells #[.int .i64 0, .int .i64 0] 47)) w9 from (undrewS l9)).block _ (lt_blk ND.out.2)).trans ND.out.2); have ⟨⟨q0, q1, q2⟩, ⟨h0, h1, h2⟩⟩ := rc3 B5.out; have ⟨⟨r0, r1⟩, ⟨f0, f1⟩⟩ := rc2 B6.out; clear l9))
  · exact NX.out _ _ _ _ _ (two1 L9.out _ _ _ _) HTS.out
  · exact NX.out _ _ _ _ _ (two2 L9.out _ _ _ _) HTS.out
  · exact NX.out _ _ _ _ _ (two3 L9.out B1.out _ _ _ _) HTS.out
  · exact NX.out _ _ _ _ _ (two4 L9.out B3.out B4.out (by omega) (by omega) (by omega) _ _ _ _) HTS.out
  · exact NX.out _ _ _ _ _ (two5 L9.out B2.out _ _ _ _) HTS.out
  · exact NX.out _ _ _ _ _ (two4 L9.out B6.out B5.out (by omega) (by omega) (by omega) _ _ _ _) HTS.out
end Go.Proofs.YtiddnjjaidiohaaGreatDoor.L
