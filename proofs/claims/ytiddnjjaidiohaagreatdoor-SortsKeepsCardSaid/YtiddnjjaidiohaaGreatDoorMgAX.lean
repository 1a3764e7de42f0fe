import Derived.Test.YtiddnjjaidiohaaGreatDoorMgAW
namespace Go.Proofs.YtiddnjjaidiohaaGreatDoor.L
open Go.RowKit
set_option linter.unusedVariables false
def bdC : Code → Code
  | .block _ c => c
  | .loop c => c
  | c => c
theorem alloc2 (w : World) (A B : Obj) : ((w.alloc A).alloc B).heap[w.heap.size]? = some A ∧ ((w.alloc A).alloc B).heap[w.heap.size + 1]? = some B ∧ Below w.heap.size w ((w.alloc A).alloc B) := by
  have b1 := belowA w A
  have b2 := belowA (w.alloc A) B
  have n1 := heap_alloc_new w A
  have n2 := heap_alloc_new (w.alloc A) B
  have s1 : (w.alloc A).heap.size = w.heap.size + 1 := by simp
  rw [s1] at n2
  exact ⟨(b2.block _ (by rw [s1]; omega)).trans n1, n2, bchS b1 b2⟩
theorem cell_allo {W : World} {O : Obj} {b j : Nat} (h : b < W.heap.size) : (W.alloc O).cell? ⟨b, j, none⟩ = W.cell? ⟨b, j, none⟩ := (belowA W O).cell (p := ⟨b, j, none⟩) h
/-- One type and one fault in boxes. -/
structure Two (w W : World) (g h : Nat) (so si c i : Int) : Prop where
  low : Below w.heap.size w W
  ty : W.heap[g]? = some (.cells #[.int .i64 so, .int .i64 si] 47 (0, 0))
  fa : W.heap[h]? = some (.cells #[.int .i64 c, .int .i64 i, .int .i64 0] 33 (0, 0))
theorem two1 {wr w9 : World} (h : Below wr.heap.size wr w9) (so si c i : Int) : Two wr ((w9.alloc (.cells #[.int .i64 so, .int .i64 si] 47)).alloc (.cells #[.int .i64 c, .int .i64 i, .int .i64 0] 33)) w9.heap.size (w9.heap.size + 1) so si c i :=
  have a := alloc2 w9 (.cells #[.int .i64 so, .int .i64 si] 47) (.cells #[.int .i64 c, .int .i64 i, .int .i64 0] 33)
  ⟨bchS h a.2.2, a.1, a.2.1⟩
theorem two2 {wr w9 : World} (h : Below wr.heap.size wr w9) (so si c i : Int) : Two wr ((w9.alloc (.cells #[.int .i64 c, .int .i64 i, .int .i64 0] 33)).alloc (.cells #[.int .i64 so, .int .i64 si] 47)) (w9.heap.size + 1) w9.heap.size so si c i :=
  have a := alloc2 w9 (.cells #[.int .i64 c, .int .i64 i, .int .i64 0] 33) (.cells #[.int .i64 so, .int .i64 si] 47)
  ⟨bchS h a.2.2, a.2.1, a.1⟩
theorem two3 {wr w9 : World} (h : Below wr.heap.size wr w9) (b : w9.heap[wr.heap.size]? = some (.cells #[.int .i64 0, .int .i64 0] 47 (0, 0))) (so si c i : Int) : Two wr (((w9.setCell ⟨wr.heap.size, 0, none⟩ (.int .i64 so)).setCell ⟨wr.heap.size, 1, none⟩ (.int .i64 si)).alloc (.cells #[.int .i64 c, .int .i64 i, .int .i64 0] 33)) wr.heap.size w9.heap.size so si c i := by
  have b1 := (h.setCell (p := ⟨wr.heap.size, 0, none⟩) (Nat.le_refl _) (.int .i64 so)).setCell (p := ⟨wr.heap.size, 1, none⟩) (Nat.le_refl _) (.int .i64 si)
  have h1 := heap_set2 b (.int .i64 so) (.int .i64 si)
  have hs : ((w9.setCell ⟨wr.heap.size, 0, none⟩ (.int .i64 so)).setCell ⟨wr.heap.size, 1, none⟩ (.int .i64 si)).heap.size = w9.heap.size := by simp
  generalize (w9.setCell ⟨wr.heap.size, 0, none⟩ (.int .i64 so)).setCell ⟨wr.heap.size, 1, none⟩ (.int .i64 si) = V at *
  have a := belowA V (.cells #[.int .i64 c, .int .i64 i, .int .i64 0] 33)
  have n := heap_alloc_new V (.cells #[.int .i64 c, .int .i64 i, .int .i64 0] 33)
  rw [hs] at n
  exact ⟨bchS b1 a, (a.block _ (lt_blk h1)).trans h1, n⟩
theorem two4 {wr w9 : World} {r q : Nat} (h : Below wr.heap.size wr w9) (b : w9.heap[r]? = some (.cells #[.int .i64 0, .int .i64 0] 47 (0, 0))) (d : w9.heap[q]? = some (.cells #[.int .i64 0, .int .i64 0, .int .i64 0] 33 (0, 0))) (hr : wr.heap.size ≤ r) (hq : wr.heap.size ≤ q) (hne : r ≠ q) (so si c i : Int) : Two wr (((((w9.setCell ⟨r, 0, none⟩ (.int .i64 so)).setCell ⟨r, 1, none⟩ (.int .i64 si)).setCell ⟨q, 0, none⟩ (.int .i64 c)).setCell ⟨q, 1, none⟩ (.int .i64 i)).setCell ⟨q, 2, none⟩ (.int .i64 0)) r q so si c i := by
  have f := (show Tfr wr w9 r q from ⟨b, d, h, hr, hq, hne⟩).fin (.int .i64 so) (.int .i64 si) (.int .i64 c) (.int .i64 i) (.int .i64 0)
  exact ⟨f.2.2, f.1, f.2.1⟩
theorem two5 {wr w9 : World} (h : Below wr.heap.size wr w9) (b : w9.heap[wr.heap.size]? = some (.cells #[.int .i64 0, .int .i64 0, .int .i64 0] 33 (0, 0))) (so si c i : Int) : Two wr ((((w9.setCell ⟨wr.heap.size, 0, none⟩ (.int .i64 c)).setCell ⟨wr.heap.size, 1, none⟩ (.int .i64 i)).setCell ⟨wr.heap.size, 2, none⟩ (.int .i64 0)).alloc (.cells #[.int .i64 so, .int .i64 si] 47)) w9.heap.size wr.heap.size so si c i := by
  have b1 := ((h.setCell (p := ⟨wr.heap.size, 0, none⟩) (Nat.le_refl _) (.int .i64 c)).setCell (p := ⟨wr.heap.size, 1, none⟩) (Nat.le_refl _) (.int .i64 i)).setCell (p := ⟨wr.heap.size, 2, none⟩) (Nat.le_refl _) (.int .i64 0)
  have h1 := heap_set3 b (.int .i64 c) (.int .i64 i) (.int .i64 0)
  have hs : (((w9.setCell ⟨wr.heap.size, 0, none⟩ (.int .i64 c)).setCell ⟨wr.heap.size, 1, none⟩ (.int .i64 i)).setCell ⟨wr.heap.size, 2, none⟩ (.int .i64 0)).heap.size = w9.heap.size := by simp
  generalize ((w9.setCell ⟨wr.heap.size, 0, none⟩ (.int .i64 c)).setCell ⟨wr.heap.size, 1, none⟩ (.int .i64 i)).setCell ⟨wr.heap.size, 2, none⟩ (.int .i64 0) = V at *
  have a := belowA V (.cells #[.int .i64 so, .int .i64 si] 47)
  have n := heap_alloc_new V (.cells #[.int .i64 so, .int .i64 si] 47)
  rw [hs] at n
  exact ⟨bchS b1 a, n, (a.block _ (lt_blk h1)).trans h1⟩
set_option maxHeartbeats 16000000 in
set_option maxRecDepth 100000 in
theorem chk_11 (wr : World) (tb gm L k cap vc : Nat) (a va : Option Addr) (s : Int) (o : Option (Nat × Int)) (ty : Int × Int) (Q : Exit → Act → World → Prop) {t0 t1 t3 t4 t5 t6 t7 t11 t12 t13 t14 t15 t16 t17 t18 t19 t20 t21 t22 t23 t24 t25 t26 t27 t28 t29 t30 t31 t32 t33 t34 t35 t36 t37 t38 t39 t40 t41 t42 t43 t44 t45 t46 t47 t48 t49 t50 t51 t52 t53 t54 t55 t56 t57 t58 t59 t60 t61 t62 t63 t64 t65 t66 t67 t68 t69 t70 t71 t72 t73 : Value}
    (htb : tb < wr.heap.size) (hgm : gm < wr.heap.size) (x0 : wr.cell? ⟨tb, 0, none⟩ = some (.slice a L cap)) (m0 : wr.cell? ⟨gm, k, none⟩ = some (.int .i64 s)) (hk : k < L) (hL : L ≤ 1000)
    (hto : ∀ W, Below wr.heap.size wr W → Calls Tryz.prog 24 #[.agg #[.slice a L cap], .int .i64 (k : Int), .int .i64 s, .slice va k vc] W fun e w' => TyE o ty e ∧ Below W.heap.size W w')
    (nx : ∀ (W' : World) (g h : Nat) (so si : Int) {x41 x42 x43 x44 x45 x46 x47 x48 x49 x50 x51 : Value}, Two wr W' g h so si (fO o).1 (fO o).2 → (o = none → (so, si) = ty) → Q Exit.normal { tmps := #[t0, t1, .pointer (some ⟨tb, 0, none⟩), t3, t4, t5, t6, t7, .slice (some ⟨gm, 0, none⟩) L L, .slice va k vc, .int .i64 (k : Int), .pointer (some ⟨g, 0, none⟩), .pointer (some ⟨h, 0, none⟩), t13, t14, t15, t16, t17, t18, t19, t20, t21, t22, t23, t24, t25, t26, t27, t28, t29, t30, t31, t32, t33, t34, t35, t36, t37, t38, t39, t40, x41, x42, x43, x44, x45, x46, x47, x48, x49, x50, x51, t52, t53, t54, t55, t56, t57, t58, t59, t60, t61, t62, t63, t64, t65, t66, t67, t68, t69, t70, t71, t72, t73], defers := [] } W') :
    Code.wp Tryz.prog (hdC (bdC (hdC (rtC (bdC (bdC (rtC (hdC (rtC (rtC (rtC (rtC (rtC (rtC (Option.getD Tryz.f11.body Code.skip))))))))))))))) Q { tmps := #[t0, t1, .pointer (some ⟨tb, 0, none⟩), t3, t4, t5, t6, t7, .slice (some ⟨gm, 0, none⟩) L L, .slice va k vc, .int .i64 (k : Int), t11, t12, t13, t14, t15, t16, t17, t18, t19, t20, t21, t22, t23, t24, t25, t26, t27, t28, t29, t30, t31, t32, t33, t34, t35, t36, t37, t38, t39, t40, t41, t42, t43, t44, t45, t46, t47, t48, t49, t50, t51, t52, t53, t54, t55, t56, t57, t58, t59, t60, t61, t62, t63, t64, t65, t66, t67, t68, t69, t70, t71, t72, t73], defers := [] } wr := by
  have HTO := hid (show ∀ W, Below wr.heap.size wr W → Calls Tryz.prog 24 #[.agg #[.slice a L cap], .int .i64 (k : Int), .int .i64 s, .slice va k vc] W (fun e w' => (∃ so si : Int, e = .returned (.tuple #[.agg #[.int .i64 so, .int .i64 si], .agg #[.int .i64 (fO o).1, .int .i64 (fO o).2, .int .i64 0]]) ∧ (o = none → (so, si) = ty)) ∧ Below W.heap.size W w') from hto)
  have NX := hid nx
  have g1 : (k : Int) < (L : Int) := by omega
  have g2 : (0 : Int) ≤ (k : Int) := by omega
  have A1 := hid (belowA wr (.cells #[.int .i64 0, .int .i64 0] 47))
  have A2 := hid (belowA wr (.cells #[.int .i64 0, .int .i64 0, .int .i64 0] 33))
  have A3 := hid (bchS A1.out (belowA (wr.alloc (.cells #[.int .i64 0, .int .i64 0] 47)) (.cells #[.int .i64 0, .int .i64 0, .int .i64 0] 33)))
  have A4 := hid (bchS A2.out (belowA (wr.alloc (.cells #[.int .i64 0, .int .i64 0, .int .i64 0] 33)) (.cells #[.int .i64 0, .int .i64 0] 47)))
  have T0 := And.intro x0 m0
  have T1 := And.intro ((A1.out.cell (p := ⟨tb, 0, none⟩) htb).trans x0) ((A1.out.cell (p := ⟨gm, k, none⟩) hgm).trans m0)
  have T2 := And.intro ((A2.out.cell (p := ⟨tb, 0, none⟩) htb).trans x0) ((A2.out.cell (p := ⟨gm, k, none⟩) hgm).trans m0)
  have T3 := And.intro ((A3.out.cell (p := ⟨tb, 0, none⟩) htb).trans x0) ((A3.out.cell (p := ⟨gm, k, none⟩) hgm).trans m0)
  have T4 := And.intro ((A4.out.cell (p := ⟨tb, 0, none⟩) htb).trans x0) ((A4.out.cell (p := ⟨gm, k, none⟩) hgm).trans m0)
  have ⟨y1, y2⟩ := T1
  have ⟨y3, y4⟩ := T2
  have ⟨y5, y6⟩ := T3
  have ⟨y7, y8⟩ := T4
  clear hto nx
  simp only [hdC, bdC, rtC, Option.getD, Tryz.f11]
  have NA := hid (heap_alloc_new wr (.cells #[.int .i64 0, .int .i64 0] 47))
  have NB := hid (heap_alloc_new wr (.cells #[.int .i64 0, .int .i64 0, .int .i64 0] 33))
  have NC := hid (let h := alloc2 wr (.cells #[.int .i64 0, .int .i64 0] 47) (.cells #[.int .i64 0, .int .i64 0, .int .i64 0] 33); And.intro h.1 h.2.1)
  have ND := hid (let h := alloc2 wr (.cells #[.int .i64 0, .int .i64 0, .int .i64 0] 33) (.cells #[.int .i64 0, .int .i64 0] 47); And.intro h.1 h.2.1)
  go_region_held3 (fun Y => Y.cell? ⟨tb, 0, none⟩ = some (.slice a L cap) ∧ Y.cell? ⟨gm, k, none⟩ = some (.int .i64 s)) (first | with_reducible exact T0 | with_reducible exact T1 | with_reducible exact T2 | with_reducible exact T3 | with_reducible exact T4 | with_reducible exact T9 | go_keep | ((constructor <;> (repeat (first | with_reducible exact T9.1 | with_reducible exact T9.2 | (with_reducible refine (cell_othS (by omega)).trans ?_) | (with_reducible refine (cell_allo (by simp; omega)).trans ?_)))); done))
    (first
      | (go_at_call 24; (with_reducible refine (HTO.out wr.drew (Below.refl _ _).drew).mono ?_); rintro e w9 ⟨⟨so, si, rfl, hts⟩, l9⟩; have HTS := hid hts; clear hts; have L9 := hid (show Below wr.heap.size wr w9 from (undrewS l9)); have hle9 := L9.out.size; have T9 := And.intro ((L9.out.cell (p := ⟨tb, 0, none⟩) htb).trans x0) ((L9.out.cell (p := ⟨gm, k, none⟩) hgm).trans m0); clear l9)
      | (go_at_call 24; (with_reducible refine (HTO.out (wr.alloc (.cells #[.int .i64 0, .int .i64 0] 47)).drew A1.out.drew).mono ?_); rintro e w9 ⟨⟨so, si, rfl, hts⟩, l9⟩; have HTS := hid hts; clear hts; have L9 := hid (show Below wr.heap.size wr w9 from bchS A1.out (undrewS l9)); have hle9 := L9.out.size; have T9 := And.intro ((L9.out.cell (p := ⟨tb, 0, none⟩) htb).trans x0) ((L9.out.cell (p := ⟨gm, k, none⟩) hgm).trans m0); have B1 := hid (((show Below (wr.alloc (.cells #[.int .i64 0, .int .i64 0] 47)).heap.size (wr.alloc (.cells #[.int .i64 0, .int .i64 0] 47)) w9 from (undrewS l9)).block _ (lt_blk NA.out)).trans NA.out); have ⟨⟨r0, r1⟩, ⟨f0, f1⟩⟩ := rc2 B1.out; have hlt := lt_blk B1.out; have hn1 : wr.heap.size ≠ w9.heap.size := Nat.ne_of_lt hlt; have hn2 := Ne.symm hn1; have ⟨⟨r0', r1'⟩, ⟨f0', f1'⟩⟩ := rc2 (((belowA w9 (.cells #[.int .i64 0, .int .i64 0, .int .i64 0] 33)).block _ hlt).trans B1.out); clear l9)
      | (go_at_call 24; (with_reducible refine (HTO.out (wr.alloc (.cells #[.int .i64 0, .int .i64 0, .int .i64 0] 33)).drew A2.out.drew).mono ?_); rintro e w9 ⟨⟨so, si, rfl, hts⟩, l9⟩; have HTS := hid hts; clear hts; have L9 := hid (show Below wr.heap.size wr w9 from bchS A2.out (undrewS l9)); have hle9 := L9.out.size; have T9 := And.intro ((L9.out.cell (p := ⟨tb, 0, none⟩) htb).trans x0) ((L9.out.cell (p := ⟨gm, k, none⟩) hgm).trans m0); have B2 := hid (((show Below (wr.alloc (.cells #[.int .i64 0, .int .i64 0, .int .i64 0] 33)).heap.size (wr.alloc (.cells #[.int .i64 0, .int .i64 0, .int .i64 0] 33)) w9 from (undrewS l9)).block _ (lt_blk NB.out)).trans NB.out); have ⟨⟨r0, r1, r2⟩, ⟨f0, f1, f2⟩⟩ := rc3 B2.out; have hlt := lt_blk B2.out; have hn1 : wr.heap.size ≠ w9.heap.size := Nat.ne_of_lt hlt; have hn2 := Ne.symm hn1; have ⟨⟨r0', r1', r2'⟩, ⟨f0', f1', f2'⟩⟩ := rc3 (((belowA w9 (.cells #[.int .i64 0, .int .i64 0] 47)).block _ hlt).trans B2.out); have ⟨⟨s0', s1', s2'⟩, ⟨u0', u1', u2'⟩⟩ := rc3 (((belowA w9 (.cells #[.int .i64 so, .int .i64 si] 47)).block _ hlt).trans B2.out); clear l9)
      | (go_at_call 24; (with_reducible refine (HTO.out ((wr.alloc (.cells #[.int .i64 0, .int .i64 0] 47)).alloc (.cells #[.int .i64 0, .int .i64 0, .int .i64 0] 33)).drew A3.out.drew).mono ?_); rintro e w9 ⟨⟨so, si, rfl, hts⟩, l9⟩; have HTS := hid hts; clear hts; have L9 := hid (show Below wr.heap.size wr w9 from bchS A3.out (undrewS l9)); have hle9 := L9.out.size; have T9 := And.intro ((L9.out.cell (p := ⟨tb, 0, none⟩) htb).trans x0) ((L9.out.cell (p := ⟨gm, k, none⟩) hgm).trans m0); have B3 := hid (((show Below ((wr.alloc (.cells #[.int .i64 0, .int .i64 0] 47)).alloc (.cells #[.int .i64 0, .int .i64 0, .int .i64 0] 33)).heap.size ((wr.alloc (.cells #[.int .i64 0, .int .i64 0] 47)).alloc (.cells #[.int .i64 0, .int .i64 0, .int .i64 0] 33)) w9 from (undrewS l9)).block _ (lt_blk NC.out.1)).trans NC.out.1); have B4 := hid (((show Below ((wr.alloc (.cells #[.int .i64 0, .int .i64 0] 47)).alloc (.cells #[.int .i64 0, .int .i64 0, .int .i64 0] 33)).heap.size ((wr.alloc (.cells #[.int .i64 0, .int .i64 0] 47)).alloc (.cells #[.int .i64 0, .int .i64 0, .int .i64 0] 33)) w9 from (undrewS l9)).block _ (lt_blk NC.out.2)).trans NC.out.2); have ⟨⟨r0, r1⟩, ⟨f0, f1⟩⟩ := rc2 B3.out; have ⟨⟨q0, q1, q2⟩, ⟨h0, h1, h2⟩⟩ := rc3 B4.out; clear l9)
      | (go_at_call 24; (with_reducible refine (HTO.out ((wr.alloc (.cells #[.int .i64 0, .int .i64 0, .int .i64 0] 33)).alloc (.cells #[.int .i64 0, .int .i64 0] 47)).drew A4.out.drew).mono ?_); rintro e w9 ⟨⟨so, si, rfl, hts⟩, l9⟩; have HTS := hid hts; clear hts; have L9 := hid (show Below wr.heap.size wr w9 from bchS A4.out (undrewS l9)); have hle9 := L9.out.size; have T9 := And.intro ((L9.out.cell (p := ⟨tb, 0, none⟩) htb).trans x0) ((L9.out.cell (p := ⟨gm, k, none⟩) hgm).trans m0); have B5 := hid (((show Below ((wr.alloc (.cells #[.int .i64 0, .int .i64 0, .int .i64 0] 33)).alloc (.cells #[.int .i64 0, .int .i64 0] 47)).heap.size ((wr.alloc (.cells #[.int .i64 0, .int .i64 0, .int .i64 0] 33)).alloc (.cells #[.int .i64 0, .int .i64 0] 47)) w9 from (undrewS l9)).block _ (lt_blk ND.out.1)).trans ND.out.1); have B6 := hid (((show Below ((wr.alloc (.cells #[.int .i64 0, .int .i64 0, .int .i64 0] 33)).alloc (.cells #[.int .i64 0, .int .i64 0] 47)).heap.size ((wr.alloc (.cells #[.int .i64 0, .int .i64 0, .int .i64 0] 33)).alloc (.cells #[.int .i64 0, .int .i64 0] 47)) w9 from (undrewS l9)).block _ (lt_blk ND.out.2)).trans ND.out.2); have ⟨⟨q0, q1, q2⟩, ⟨h0, h1, h2⟩⟩ := rc3 B5.out; have ⟨⟨r0, r1⟩, ⟨f0, f1⟩⟩ := rc2 B6.out; clear l9))
  · exact NX.out _ _ _ _ _ (two1 L9.out _ _ _ _) HTS.out
  · exact NX.out _ _ _ _ _ (two2 L9.out _ _ _ _) HTS.out
  · exact NX.out _ _ _ _ _ (two3 L9.out B1.out _ _ _ _) HTS.out
  · exact NX.out _ _ _ _ _ (two4 L9.out B3.out B4.out (by omega) (by omega) (by omega) _ _ _ _) HTS.out
  · exact NX.out _ _ _ _ _ (two5 L9.out B2.out _ _ _ _) HTS.out
  · exact NX.out _ _ _ _ _ (two4 L9.out B6.out B5.out (by omega) (by omega) (by omega) _ _ _ _) HTS.out
end Go.Proofs.YtiddnjjaidiohaaGreatDoor.L
namespace Go.Proofs.YtiddnjjaidiohaaGreatDoor.L
open Go.RowKit
set_option linter.unusedVariables false
/-- What the document's Check answers. -/
def RkR (T : List Pt) (sc : Int) (W : World) (v f : Value) : Prop :=
  ((sc ≠ 2 ∧ sc ≠ 3) ∧ v = .slice none 0 0 ∧ f = .agg #[.int .i64 149, .int .i64 (-1), .int .i64 0]) ∨
  ((sc = 2 ∨ sc = 3) ∧ ((∃ c i : Nat, Res T c i ∧ c ≠ 0 ∧ v = .slice none 0 0 ∧ f = .agg #[.int .i64 140, .int .i64 (i : Int), .int .i64 (c : Int)]) ∨
    (Res T 0 0 ∧ (((ovS T sc).2 = none ∧ TyL W v T.length (ovS T sc).1 ∧ f = .agg #[.int .i64 0, .int .i64 0, .int .i64 0]) ∨
      (∃ (c : Nat) (i : Int), (ovS T sc).2 = some (c, i) ∧ v = .slice none 0 0 ∧ f = .agg #[.int .i64 (c : Int), .int .i64 i, .int .i64 0])))))
set_option maxHeartbeats 16000000 in
set_option maxRecDepth 100000 in
theorem rck_side (a : Option Addr) (n cap : Nat) (sc : Int) (w : World) (h2 : sc ≠ 2) (h3 : sc ≠ 3) :
    Calls Tryz.prog 11 #[.agg #[.slice a n cap], .int .i64 sc] w fun e w' => e = .returned (.tuple #[.slice none 0 0, .agg #[.int .i64 149, .int .i64 (-1), .int .i64 0]]) ∧ Below w.heap.size w w' := by
  have ⟨hx, hf, hb⟩ := alloc2 w (.cells #[.slice a n cap] 26) (.cells #[.int .i64 0, .int .i64 0, .int .i64 0] 33)
  have HF := hid hf
  have HB := hid hb
  have g1 : (sc != 2) = true := by simpa using h2
  have g2 : (sc != 3) = true := by simpa using h3
  clear hx hf hb h2 h3
  go_enter Tryz.func11, Tryz.ntmps11
  go_upto_region 1 with (fail)
  generalize (w.alloc (.cells #[.slice a n cap] 26)).alloc (.cells #[.int .i64 0, .int .i64 0, .int .i64 0] 33) = X at *
  have ⟨⟨r0, r1, r2⟩, ⟨f0, f1, f2⟩⟩ := rc3 HF.out
  go_wp2_with fail
  (try simp only [Exit.inBlock, Exit.then])
  refine bodyPost_ret (res_xf rfl _ _ (w.heap.size + 1) _ _ _ _ rfl rfl (heap_set3 HF.out _ _ _)) rfl ⟨rfl, ?_⟩
  exact ((HB.out.setCell (p := ⟨w.heap.size + 1, 0, none⟩) (Nat.le_succ _) _).setCell (p := ⟨w.heap.size + 1, 1, none⟩) (Nat.le_succ _) _).setCell (p := ⟨w.heap.size + 1, 2, none⟩) (Nat.le_succ _) _
theorem below_set3 {w W : World} {r : Nat} (h : Below w.heap.size w W) (hr : w.heap.size ≤ r) (x y z : Value) : Below w.heap.size w (((W.setCell ⟨r, 0, none⟩ x).setCell ⟨r, 1, none⟩ y).setCell ⟨r, 2, none⟩ z) :=
  ((h.setCell (p := ⟨r, 0, none⟩) hr x).setCell (p := ⟨r, 1, none⟩) hr y).setCell (p := ⟨r, 2, none⟩) hr z
set_option maxHeartbeats 16000000 in
set_option maxRecDepth 100000 in
theorem rck_in (a : Option Addr) (T : List Pt) (cap : Nat) (sc : Int) (w : World) (hT : PL w a T) (hG : GdT T) (hsc : sc = 2 ∨ sc = 3) :
    Calls Tryz.prog 11 #[.agg #[.slice a T.length cap], .int .i64 sc] w fun e w' => ∃ v f, e = .returned (.tuple #[v, f]) ∧ Below w.heap.size w w' ∧ RkR T sc w' v f := by
  have ⟨hx, hf, hb⟩ := alloc2 w (.cells #[.slice a T.length cap] 26) (.cells #[.int .i64 0, .int .i64 0, .int .i64 0] 33)
  have HX := hid hx
  have HF := hid hf
  have HB := hid hb
  have HSC := hid hsc
  have HT := hid hT
  have HV := hid (fun W h => rvalid_any a T cap W h hG)
  have HSCO := hid (fun W h1 h2 h3 => rscopes_any a T cap sc W h1 h2 h3)
  obtain ⟨L, hL⟩ : ∃ L, L = T.length := ⟨_, rfl⟩
  have HL := hid hL
  have htst : ((sc != 2) = true ∧ (sc != 3) = false) ∨ (sc != 2) = false := by rcases hsc with rfl | rfl <;> decide
  rw [← hL] at HX HF HB HV HSCO ⊢
  clear hx hf hb hsc hT hL
  go_enter Tryz.func11, Tryz.ntmps11
  go_upto_region 1 with (fail)
  generalize (w.alloc (.cells #[.slice a L cap] 26)).alloc (.cells #[.int .i64 0, .int .i64 0, .int .i64 0] 33) = X at *
  rcases htst with ⟨g1, g2⟩ | g1
  all_goals
    have x0 := cell_of_one HX.out
    have ⟨⟨r0, r1, r2⟩, ⟨f0, f1, f2⟩⟩ := rc3 HF.out
    go_upto_region 4 with (go_at_call 22; refine (HV.out _ (HT.out.low HB.out)).mono ?_; rintro e w1 ⟨c, i, rfl, hr, l1⟩; have HR := hid hr; have L1 := hid l1; clear hr l1)
    have HX1 := hid ((L1.out.block _ (lt_blk HX.out)).trans HX.out)
    have HF1 := hid ((L1.out.block _ (lt_blk HF.out)).trans HF.out)
    have HB1 := hid (bchS HB.out L1.out)
    clear x0 r0 r1 r2 f0 f1 f2 g1
    have x0 := cell_of_one HX1.out
    have ⟨⟨r0, r1, r2⟩, ⟨f0, f1, f2⟩⟩ := rc3 HF1.out
    by_cases hc : c = 0
    · subst hc
      obtain rfl : i = 0 := (res_one HR.out HR.out).2 ▸ HR.out.ok.2.2.2
      have HR0 := hid HR.out
      have HG := hid (show GdS T from gds_of HR.out.ok.2.2.1 HR.out.ok.2.1)
      have hl1 : 1 ≤ L := by rw [HL.out]; exact HR.out.ok.1
      have hl2 : L ≤ 1000 := by rw [HL.out]; exact HR.out.ok.2.1
      go_upto_region 7 with (go_at_call 23; refine (HSCO.out _ (HT.out.low HB1.out) HG.out hl1).mono ?_; rintro e w2 ⟨gm, rfl, ⟨hgm, hsp⟩, l2⟩; have HGM := hid hgm; have HSP := hid hsp; have L2 := hid l2; clear hgm hsp l2)
      have HS := hid (scN_ok HR0.out.ok.2.2.1 HR0.out.ok.1 sc 0)
      rw [HL.out] at HSP
      generalize scN T sc 0 T.length = sp at *
      rw [← HL.out] at HSP
      have HX2 := hid ((L2.out.block _ (lt_blk HX1.out)).trans HX1.out)
      have HF2 := hid ((L2.out.block _ (lt_blk HF1.out)).trans HF1.out)
      have HB2 := hid (bchS HB1.out L2.out)
      clear x0 r0 r1 r2 f0 f1 f2
      have HR9 := hid (owt_lit w2 w2.heap.size (Nat.le_refl _))
      have HA9 := hid (belowA w2 (.cells #[] 47))
      go_upto_region 8 with (fail)
      generalize w2.alloc (.cells #[] 47) = Z at *
      go_wp2_with fail
      rename_i KK aK
      have HKK := hid aK
      clear aK
      go_loopw [9, 10] (fun v i wr => ∃ k : Nat, k ≤ L ∧ i = .int .i64 (k : Int) ∧ Hid (Below w2.heap.size w2 wr) ∧ Hid (OwT wr w2.heap.size v (tyP T k)) ∧ Hid (∀ j, j < k → brF T (sp j) j = none)) (fun _ i _ => L - (intOf i).toNat)
      case atStart => exact ⟨0, Nat.zero_le _, rfl, HA9, HR9, hid (fun j hj => absurd hj (Nat.not_lt_zero j))⟩
      case round =>
        obtain ⟨k, hk, rfl, HBR, HO, HNO⟩ := hrel
        have HX3 := hid ((HBR.out.block _ (lt_blk HX2.out)).trans HX2.out)
        have HF3 := hid ((HBR.out.block _ (lt_blk HF2.out)).trans HF2.out)
        have HB3 := hid (bchS HB2.out HBR.out)
        have x0 := cell_of_one HX3.out
        by_cases hkl : k < L
        · have hkT : k < T.length := by rw [← HL.out]; exact hkl
          obtain ⟨va, vc, hv⟩ := HO.out.form
          rw [tyP_len] at hv
          subst hv
          have HTO := hid (fun W (hb : Below wr.heap.size wr W) => rtypeof_any (cap := cap) (tof_of (HT.out.low (bchS HB3.out hb)) HR0.out HS.out HSC.out hkT HNO.out (HO.out.tyv.low hb)))
          rw [br_tyP HG.out hkT, ty_tyP HG.out hkT, ← HL.out] at HTO
          have m0 := (HBR.out.cell (p := ⟨gm, k, none⟩) HGM.out).trans (HSP.out k hkl)
          have g1 : (k : Int) < (L : Int) := by omega
          have g2 : (0 : Int) ≤ (k : Int) := by omega
          clear hkT
          go_upto_region 11 with (fail)
          have HGW := hid (Nat.lt_of_lt_of_le HGM.out HBR.out.size)
          refine chk_11 wr w.heap.size gm L k cap vc a va (sp k) (brF T (sp k) k) (tyF T k) _ (lt_blk HX3.out) HGW.out x0 m0 hkl hl2 HTO.out ?_
          intro W' g h so si
          intros
          rename_i htw hts
          have HTW := hid htw
          have HTS := hid hts
          clear htw hts x0 m0
          have HX4 := hid ((HTW.out.low.block _ (lt_blk HX3.out)).trans HX3.out)
          have HF4 := hid ((HTW.out.low.block _ (lt_blk HF3.out)).trans HF3.out)
          have HB4 := hid (bchS HB3.out HTW.out.low)
          have HR4 := hid (bchS HBR.out HTW.out.low)
          have HO4 := hid (HO.out.low HTW.out.low)
          have ⟨c0, c1⟩ := cellsW HTW.out.ty
          have ⟨⟨q0, q1, q2⟩, _⟩ := rc3 HTW.out.fa
          cases hbr : brF T (sp k) k with
          | none =>
            have HN2 := hid (show ∀ j, j < k + 1 → brF T (sp j) j = none from fun j hj => by
              by_cases e : j = k
              · rw [e]; exact hbr
              · exact HNO.out j (by omega))
            have HTE := hid (HTS.out hbr)
            rw [hbr] at q0 q1
            simp only [fO] at q0 q1
            clear hbr
            have hlen : (tyP T k).length = k := tyP_len T k
            have hkl2 : (tyP T k).length ≤ 1000 := by omega
            have HSZ := hid HR4.out.size
            obtain ⟨i0, hi, hz0, hz1, hz2⟩ := info_parts infoTy
            have HRW := hid (World.ownsRow.alloc HO4.out (.cells #[.int .i64 so, .int .i64 si] 47))
            have HFN := hid (cell_two_newT W' (.int .i64 so) (.int .i64 si) 47)
            have HA4 := hid (belowA W' (.cells #[.int .i64 so, .int .i64 si] 47))
            have HK1 := hid (show k + 1 ≤ L by omega)
            rw [hlen] at HRW hkl2
            have HLEN := hid hlen
            clear hlen
            go_wp2_with (at_builtin; refine wpList_append_own _ rfl _ _ 31 rfl w2.heap.size 47 i0 (.agg #[.int .i64 0, .int .i64 0]) 2 16 Tryz.underlying31 hi hz0 hz1 hz2 rfl (by decide) _ _ _ rfl HRW.out ⟨W'.heap.size, 0, none⟩ 1 1 [.int .i64 so, .int .i64 si] rfl rfl HFN.out (fun x hx => by simp at hx; rcases hx with rfl | rfl <;> rfl) (by unfold maxLen; omega) (by omega) (Nat.le_trans HSZ.out HA4.out.size) ?_)
            intro v5 w5 hr5 hg5 hn5
            have HN := hid (show OwT w5 w2.heap.size v5 (tyP T k ++ [(so, si)]) by
              unfold OwT
              rw [cT_app, List.length_append, HLEN.out]
              exact hr5)
            have HB5 := hid (show Below w2.heap.size w2 w5 from (HR4.out.trans (HA4.out.mono HSZ.out)).grown hg5 (Nat.le_trans HSZ.out HA4.out.size) (fun k hk => (World.ownsRow.lt HO4.out k hk).1))
            rw [HTE.out, ← tyP_succ] at HN
            clear hr5 hg5 hn5 hi hz0 hz1 hz2 c0 c1 q0 q1 q2
            go_wp2_with fail
            refine ⟨⟨k + 1, HK1.out, by go_num, HB5, HN, HN2⟩, ?_⟩
            have h3 := HK1.out
            simp [intOf]
            omega
          | some e =>
            obtain ⟨ec, ei⟩ := e
            have HOE := hid (ck_no HR0.out HS.out (by rw [← HL.out]; exact hkl) hbr HNO.out)
            have hcd := ovS_cd HR0.out HOE.out
            rw [hbr] at q0 q1
            simp only [fO] at q0 q1
            have g3 : ((ec : Int) != 0) = true := by simp; omega
            have HE := hid hbr
            clear hbr hcd
            have ⟨⟨r0, r1, r2⟩, ⟨f0, f1, f2⟩⟩ := rc3 HF4.out
            go_upto_region 13 with (fail)
            go_region
            go_wp2_with fail
            (try simp only [Exit.inBlock, Exit.then])
            refine bodyPost_ret (res_xf rfl _ _ (w.heap.size + 1) _ _ _ _ rfl rfl (show (World.drew _).heap[w.heap.size + 1]? = _ from heap_set3 HF4.out _ _ _)) rfl ⟨_, _, rfl, (below_set3 HB4.out (Nat.le_succ _) _ _ _).drew, .inr ⟨HSC.out, .inr ⟨HR0.out, .inr ⟨ec, ei, HOE.out, rfl, rfl⟩⟩⟩⟩
        · obtain rfl : k = L := by omega
          have HYES := hid (ck_yes HR0.out HS.out (by rw [← HL.out]; exact HNO.out))
          have HRT := hid (ovS_root HR0.out HYES.out.1)
          obtain ⟨va, vc, hv⟩ := HO.out.form
          rw [tyP_len] at hv
          subst hv
          have hlk : k - 1 < k := by omega
          obtain ⟨a9, c9, e9, h9⟩ := HO.out.tyv
          rw [tyP_len] at e9 h9
          cases e9
          rcases h9 with h9 | ⟨gb, go, rfl, hgb, hcc⟩
          · omega
          have t0 := (hcc (k - 1) hlk).1
          simp only at t0
          rw [tyP_get T hlk, ← HYES.out.2 (k - 1) (by rw [← HL.out]; exact hlk)] at t0
          rw [← HL.out] at HRT
          rw [HRT.out] at t0
          have g1 : (0 : Int) ≤ (k : Int) - 1 := by omega
          have g2 : (k : Int) - 1 < (k : Int) := by omega
          have g3 : (((k : Int) - 1) * 2).toNat = (k - 1) * 2 := by omega
          have hlb : w.heap.size + 1 < w2.heap.size := lt_blk HF2.out
          have HFT := hid (show TyL (((wr.setCell ⟨w.heap.size + 1, 0, none⟩ (.int .i64 0)).setCell ⟨w.heap.size + 1, 1, none⟩ (.int .i64 0)).setCell ⟨w.heap.size + 1, 2, none⟩ (.int .i64 0)) (.slice (some ⟨gb, go, none⟩) k vc) T.length (ovS T sc).1 by
            have h1 : OwT (((wr.setCell ⟨w.heap.size + 1, 0, none⟩ (.int .i64 0)).setCell ⟨w.heap.size + 1, 1, none⟩ (.int .i64 0)).setCell ⟨w.heap.size + 1, 2, none⟩ (.int .i64 0)) w2.heap.size (.slice (some ⟨gb, go, none⟩) k vc) (tyP T k) :=
              ownsRow_setCell_below (ownsRow_setCell_below (ownsRow_setCell_below HO.out (a := ⟨w.heap.size + 1, 0, none⟩) hlb _) (a := ⟨w.heap.size + 1, 1, none⟩) hlb _) (a := ⟨w.heap.size + 1, 2, none⟩) hlb _
            have h2 := h1.tyv
            unfold TyV at h2
            rw [tyP_len, HL.out] at h2
            rw [HL.out]
            exact h2.congr (fun j hj => by rw [tyP_get T hj]; exact (HYES.out.2 j hj).symm))
          have ⟨⟨r0, r1, r2⟩, ⟨f0, f1, f2⟩⟩ := rc3 HF3.out
          clear hcc hlb hgb
          go_wp2_with fail
          refine HKK.out _ _ ?_
          go_wp2_with fail
          (try simp only [Exit.inBlock, Exit.then])
          exact bodyPost_ret (res_xf rfl _ _ (w.heap.size + 1) (.slice (some ⟨gb, go, none⟩) k vc) _ _ _ rfl rfl (heap_set3 HF3.out _ _ _)) rfl ⟨.slice (some ⟨gb, go, none⟩) k vc, _, rfl, below_set3 HB3.out (Nat.le_succ _) _ _ _, .inr ⟨HSC.out, .inr ⟨HR0.out, .inl ⟨HYES.out.1, HFT.out, rfl⟩⟩⟩⟩
    · have g3 : ((c : Int) != 0) = true := by simp; omega
      have HC := hid hc
      go_wp2_with fail
      (try simp only [Exit.inBlock, Exit.then])
      exact bodyPost_ret (res_xf rfl _ _ (w.heap.size + 1) _ _ _ _ rfl rfl (heap_set3 HF1.out _ _ _)) rfl ⟨_, _, rfl, below_set3 HB1.out (Nat.le_succ _) _ _ _, .inr ⟨HSC.out, .inl ⟨c, i, HR.out, HC.out, rfl, rfl⟩⟩⟩
theorem rcheck_any (a : Option Addr) (T : List Pt) (cap : Nat) (sc : Int) (w : World) (hT : PL w a T) (hG : GdT T) :
    Calls Tryz.prog 11 #[.agg #[.slice a T.length cap], .int .i64 sc] w fun e w' => ∃ v f, e = .returned (.tuple #[v, f]) ∧ Below w.heap.size w w' ∧ RkR T sc w' v f := by
  by_cases h : sc = 2 ∨ sc = 3
  · exact rck_in a T cap sc w hT hG h
  · have h2 : sc ≠ 2 := fun e => h (.inl e)
    have h3 : sc ≠ 3 := fun e => h (.inr e)
    exact (rck_side a T.length cap sc w h2 h3).mono fun e w' ⟨he, hb⟩ => ⟨_, _, he, hb, .inl ⟨⟨h2, h3⟩, rfl, rfl⟩⟩
end Go.Proofs.YtiddnjjaidiohaaGreatDoor.L
