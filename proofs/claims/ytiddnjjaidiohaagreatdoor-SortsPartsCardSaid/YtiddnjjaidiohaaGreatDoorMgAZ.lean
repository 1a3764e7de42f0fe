import Derived.Test.YtiddnjjaidiohaaGreatDoorMgAX
import Derived.Test.YtiddnjjaidiohaaGreatDoorMgAY
namespace Go.Proofs.YtiddnjjaidiohaaGreatDoor.L
open Go.RowKit
set_option linter.unusedVariables false
def bdC : Code → Code
  | .block _ c => c
  | .loop c => c
  | c => c
theorem alloc2 (w : World) (A B : Obj) : ((w.alloc A).alloc B).heap[w.heap.size]? = some A ∧ ((w.alloc A).alloc B).heap[w.heap.size + 1]? = some B ∧ Below w.heap.size w ((w.alloc A).alloc B) := by
  have b1 := belowA w A
  have b2 := belowA (w.alloc A) B
  have n1 := heap_alloc_new w A
  have n2 := heap_alloc_new (w.alloc A) B
  have s1 : (w.alloc A).heap.size = w.heap.size + 1 := by simp
  rw [s1] at n2
  exact ⟨(b2.block _ (by rw [s1]; omega)).trans n1, n2, bchS b1 b2⟩
theorem cell_allo {W : World} {O : Obj} {b j : Nat} (h : b < W.heap.size) : (W.alloc O).cell? ⟨b, j, none⟩ = W.cell? ⟨b, j, none⟩ := (belowA W O).cell (p := ⟨b, j, none⟩) h
/-- One type and one fault in boxes. -/
structure Two (w W : World) (g h : Nat) (so si c i : Int) : Prop where
  low : Below w.heap.size w W
  ty : W.heap[g]? = some (.cells #[.int .i64 so, .int .i64 si] 47 (0, 0))
  fa : W.heap[h]? = some (.cells #[.int .i64 c, .int .i64 i, .int .i64 0] 33 (0, 0))
theorem two1 {wr w9 : World} (h : Below wr.heap.size wr w9) (so si c i : Int) : Two wr ((w9.alloc (.cells #[.int .i64 so, .int .i64 si] 47)).alloc (.cells #[.int .i64 c, .int .i64 i, .int .i64 0] 33)) w9.heap.size (w9.heap.size + 1) so si c i :=
  have a := alloc2 w9 (.cells #[.int .i64 so, .int .i64 si] 47) (.cells #[.int .i64 c, .int .i64 i, .int .i64 0] 33)
  ⟨bchS h a.2.2, a.1, a.2.1⟩
theorem two2 {wr w9 : World} (h : Below wr.heap.size wr w9) (so si c i : Int) : Two wr ((w9.alloc (.cells #[.int .i64 c, .int .i64 i, .int .i64 0] 33)).alloc (.cells #[.int .i64 so, .int .i64 si] 47)) (w9.heap.size + 1) w9.heap.size so si c i :=
  have a := alloc2 w9 (.cells #[.int .i64 c, .int .i64 i, .int .i64 0] 33) (.cells #[.int .i64 so, .int .i64 si] 47)
  ⟨bchS h a.2.2, a.2.1, a.1⟩
theorem two3 {wr w9 : World} (h : Below wr.heap.size wr w9) (b : w9.heap[wr.heap.size]? = some (.cells #[.int .i64 0, .int .i64 0] 47 (0, 0))) (so si c i : Int) : Two wr (((w9.setCell ⟨wr.heap.size, 0, none⟩ (.int .i64 so)).setCell ⟨wr.heap.size, 1, none⟩ (.int .i64 si)).alloc (.cells #[.int .i64 c, .int .i64 i, .int .i64 0] 33)) wr.heap.size w9.heap.size so si c i := by
  have b1 := (h.setCell (p := ⟨wr.heap.size, 0, none⟩) (Nat.le_refl _) (.int .i64 so)).setCell (p := ⟨wr.heap.size, 1, none⟩) (Nat.le_refl _) (.int .i64 si)
  have h1 := heap_set2 b (.int .i64 so) (.int .i64 si)
  have hs : ((w9.setCell ⟨wr.heap.size, 0, none⟩ (.int .i64 so)).setCell ⟨wr.heap.size, 1, none⟩ (.int .i64 si)).heap.size = w9.heap.size := by simp
  generalize (w9.setCell ⟨wr.heap.size, 0, none⟩ (.int .i64 so)).setCell ⟨wr.heap.size, 1, none⟩ (.int .i64 si) = V at *
  have a := belowA V (.cells #[.int .i64 c, .int .i64 i, .int .i64 0] 33)
  have n := heap_alloc_new V (.cells #[.int .i64 c, .int .i64 i, .int .i64 0] 33)
  rw [hs] at n
  exact ⟨bchS b1 a, (a.block _ (lt_blk h1)).trans h1, n⟩
theorem two4 {wr w9 : World} {r q : Nat} (h : Below wr.heap.size wr w9) (b : w9.heap[r]? = some (.cells #[.int .i64 0, .int .i64 0] 47 (0, 0))) (d : w9.heap[q]? = some (.cells #[.int .i64 0, .int .i64 0, .int .i64 0] 33 (0, 0))) (hr : wr.heap.size ≤ r) (hq : wr.heap.size ≤ q) (hne : r ≠ q) (so si c i : Int) : Two wr (((((w9.setCell ⟨r, 0, none⟩ (.int .i64 so)).setCell ⟨r, 1, none⟩ (.int .i64 si)).setCell ⟨q, 0, none⟩ (.int .i64 c)).setCell ⟨q, 1, none⟩ (.int .i64 i)).setCell ⟨q, 2, none⟩ (.int .i64 0)) r q so si c i := by
  have f := (show Tfr wr w9 r q from ⟨b, d, h, hr, hq, hne⟩).fin (.int .i64 so) (.int .i64 si) (.int .i64 c) (.int .i64 i) (.int .i64 0)
  exact ⟨f.2.2, f.1, f.2.1⟩
theorem two5 {wr w9 : World} (h : Below wr.heap.size wr w9) (b : w9.heap[wr.heap.size]? = some (.cells #[.int .i64 0, .int .i64 0, .int .i64 0] 33 (0, 0))) (so si c i : Int) : Two wr ((((w9.setCell ⟨wr.heap.size, 0, none⟩ (.int .i64 c)).setCell ⟨wr.heap.size, 1, none⟩ (.int .i64 i)).setCell ⟨wr.heap.size, 2, none⟩ (.int .i64 0)).alloc (.cells #[.int .i64 so, .int .i64 si] 47)) w9.heap.size wr.heap.size so si c i := by
  have b1 := ((h.setCell (p := ⟨wr.heap.size, 0, none⟩) (Nat.le_refl _) (.int .i64 c)).setCell (p := ⟨wr.heap.size, 1, none⟩) (Nat.le_refl _) (.int .i64 i)).setCell (p := ⟨wr.heap.size, 2, none⟩) (Nat.le_refl _) (.int .i64 0)
  have h1 := heap_set3 b (.int .i64 c) (.int .i64 i) (.int .i64 0)
  have hs : (((w9.setCell ⟨wr.heap.size, 0, none⟩ (.int .i64 c)).setCell ⟨wr.heap.size, 1, none⟩ (.int .i64 i)).setCell ⟨wr.heap.size, 2, none⟩ (.int .i64 0)).heap.size = w9.heap.size := by simp
  generalize ((w9.setCell ⟨wr.heap.size, 0, none⟩ (.int .i64 c)).setCell ⟨wr.heap.size, 1, none⟩ (.int .i64 i)).setCell ⟨wr.heap.size, 2, none⟩ (.int .i64 0) = V at *
  have a := belowA V (.cells #[.int .i64 so, .int .i64 si] 47)
  have n := heap_alloc_new V (.cells #[.int .i64 so, .int .i64 si] 47)
  rw [hs] at n
  exact ⟨bchS b1 a, n, (a.block _ (lt_blk h1)).trans h1⟩
set_option maxHeartbeats 16000000 in
set_option maxRecDepth 100000 in
theorem chk_11 (wr : World) (tb gm L k cap vc : Nat) (a va : Option Addr) (s : Int) (o : Option (Nat × Int)) (ty : Int × Int) (Q : Exit → Act → World → Prop) {t0 t1 t3 t4 t5 t6 t7 t11 t12 t13 t14 t15 t16 t17 t18 t19 t20 t21 t22 t23 t24 t25 t26 t27 t28 t29 t30 t31 t32 t33 t34 t35 t36 t37 t38 t39 t40 t41 t42 t43 t44 t45 t46 t47 t48 t49 t50 t51 t52 t53 t54 t55 t56 t57 t58 t59 t60 t61 t62 t63 t64 t65 t66 t67 t68 t69 t70 t71 t72 t73 : Value}
    (htb : tb < wr.heap.size) (hgm : gm < wr.heap.size) (x0 : wr.cell? ⟨tb, 0, none⟩ = some (.slice a L cap)) (m0 : wr.cell? ⟨gm, k, none⟩ = some (.int .i64 s)) (hk : k < L) (hL : L ≤ 1000)
    (hto : ∀ W, Below wr.heap.size wr W → Calls Tryz.prog 24 #[.agg #[.slice a L cap], .int .i64 (k : Int), .int .i64 s, .slice va k vc] W fun e w' => TyE o ty e ∧ Below W.heap.size W w')
    (nx : ∀ (W' : World) (g h : Nat) (so si : Int) {x41 x42 x43 x44 x45 x46 x47 x48 x49 x50 x51 : Value}, Two wr W' g h so si (fO o).1 (fO o).2 → (o = none → (so, si) = ty) → Q Exit.normal { tmps := #[t0, t1, .pointer (some ⟨tb, 0, none⟩), t3, t4, t5, t6, t7, .slice (some ⟨gm, 0, none⟩) L L, .slice va k vc, .int .i64 (k : Int), .pointer (some ⟨g, 0, none⟩), .pointer (some ⟨h, 0, none⟩), t13, t14, t15, t16, t17, t18, t19, t20, t21, t22, t23, t24, t25, t26, t27, t28, t29, t30, t31, t32, t33, t34, t35, t36, t37, t38, t39, t40, x41, x42, x43, x44, x45, x46, x47, x48, x49, x50, x51, t52, t53, t54, t55, t56, t57, t58, t59, t60, t61, t62, t63, t64, t65, t66, t67, t68, t69, t70, t71, t72, t73], defers := [] } W') :
    Code.wp Tryz.prog (hdC (bdC (hdC (rtC (bdC (bdC (rtC (hdC (rtC (rtC (rtC (rtC (rtC (rtC (Option.getD Tryz.f11.body Code.skip))))))))))))))) Q { tmps := #[t0, t1, .pointer (some ⟨tb, 0, none⟩), t3, t4, t5, t6, t7, .slice (some ⟨gm, 0, none⟩) L L, .slice va k vc, .int .i64 (k : Int), t11, t12, t13, t14, t15, t16, t17, t18, t19, t20, t21, t22, t23, t24, t25, t26, t27, t28, t29, t30, t31, t32, t33, t34, t35, t36, t37, t38, t39, t40, t41, t42, t43, t44, t45, t46, t47, t48, t49, t50, t51, t52, t53, t54, t55, t56, t57, t58, t59, t60, t61, t62, t63, t64, t65, t66, t67, t68, t69, t70, t71, t72, t73], defers := [] } wr := by
  have HTO := hid (show ∀ W, Below wr.heap.size wr W → Calls Tryz.prog 24 #[.agg #[.slice a L cap], .int .i64 (k : Int), .int .i64 s, .slice va k vc] W (fun e w' => (∃ so si : Int, e = .returned (.tuple #[.agg #[.int .i64 so, .int .i64 si], .agg #[.int .i64 (fO o).1, .int .i64 (fO o).2, .int .i64 0]]) ∧ (o = none → (so, si) = ty)) ∧ Below W.heap.size W w') from hto)
  have NX := hid nx
  have g1 : (k : Int) < (L : Int) := by omega
  have g2 : (0 : Int) ≤ (k : Int) := by omega
  have A1 := hid (belowA wr (.cells #[.int .i64 0, .int .i64 0] 47))
  have A2 := hid (belowA wr (.cells #[.int .i64 0, .int .i64 0, .int .i64 0] 33))
  have A3 := hid (bchS A1.out (belowA (wr.alloc (.cells #[.int .i64 0, .int .i64 0] 47)) (.cells #[.int .i64 0, .int .i64 0, .int .i64 0] 33)))
  have A4 := hid (bchS A2.out (belowA (wr.alloc (.cells #[.int .i64 0, .int .i64 0, .int .i64 0] 33)) (.cells #[.int .i64 0, .int .i64 0] 47)))
  have T0 := And.intro x0 m0
  have T1 := And.intro ((A1.out.cell (p := ⟨tb, 0, none⟩) htb).trans x0) ((A1.out.cell (p := ⟨gm, k, none⟩) hgm).trans m0)
  have T2 := And.intro ((A2.out.cell (p := ⟨tb, 0, none⟩) htb).trans x0) ((A2.out.cell (p := ⟨gm, k, none⟩) hgm).trans m0)
  have T3 := And.intro ((A3.out.cell (p := ⟨tb, 0, none⟩) htb).trans x0) ((A3.out.cell (p := ⟨gm, k, none⟩) hgm).trans m0)
  have T4 := And.intro ((A4.out.cell (p := ⟨tb, 0, none⟩) htb).trans x0) ((A4.out.cell (p := ⟨gm, k, none⟩) hgm).trans m0)
  have ⟨y1, y2⟩ := T1
  have ⟨y3, y4⟩ := T2
  have ⟨y5, y6⟩ := T3
  have ⟨y7, y8⟩ := T4
  clear hto nx
  simp only [hdC, bdC, rtC, Option.getD, Tryz.f11]
  have NA := hid (heap_alloc_new wr (.cells #[.int .i64 0, .int .i64 0] 47))
  have NB := hid (heap_alloc_new wr (.cells #[.int .i64 0, .int .i64 0, .int .i64 0] 33))
  have NC := hid (let h := alloc2 wr (.cells #[.int .i64 0, .int .i64 0] 47) (.cells #[.int .i64 0, .int .i64 0, .int .i64 0] 33); And.intro h.1 h.2.1)
  have ND := hid (let h := alloc2 wr (.cells #[.int .i64 0, .int .i64 0, .int .i64 0] 33) (.cells #[.int .i64 0, .int .i64 0] 47); And.intro h.1 h.2.1)
  go_region_held3 (fun Y => Y.cell? ⟨tb, 0, none⟩ = some (.slice a L cap) ∧ Y.cell? ⟨gm, k, none⟩ = some (.int .i64 s)) (first | with_reducible exact T0 | with_reducible exact T1 | with_reducible exact T2 | with_reducible exact T3 | with_reducible exact T4 | with_reducible exact T9 | go_keep | ((constructor <;> (repeat (first | with_reducible exact T9.1 | with_reducible exact T9.2 | (with_reducible refine (cell_othS (by omega)).trans ?_) | (with_reducible refine (cell_allo (by simp; omega)).trans ?_)))); done))
    (first
      | (go_at_call 24; (with_reducible refine (HTO.out wr.drew (Below.refl _ _).drew).mono ?_); rintro e w9 ⟨⟨so, si, rfl, hts⟩, l9⟩; have HTS := hid hts; clear hts; have L9 := hid (show Below wr.heap.size wr w9 from (undrewS l9)); have hle9 := L9.out.size; have T9 := And.intro ((L9.out.cell (p := ⟨tb, 0, none⟩) htb).trans x0) ((L9.out.cell (p := ⟨gm, k, none⟩) hgm).trans m0); clear l9)
      | (go_at_call 24; (with_reducible refine (HTO.out (wr.alloc (.cells #[.int .i64 0, .int .i64 0] 47)).drew A1.out.drew).mono ?_); rintro e w9 ⟨⟨so, si, rfl, hts⟩, l9⟩; have HTS := hid hts; clear hts; have L9 := hid (show Below wr.heap.size wr w9 from bchS A1.out (undrewS l9)); have hle9 := L9.out.size; have T9 := And.intro ((L9.out.cell (p := ⟨tb, 0, none⟩) htb).trans x0) ((L9.out.cell (p := ⟨gm, k, none⟩) hgm).trans m0); have B1 := hid (((show Below (wr.alloc (.cells #[.int .i64 0, .int .i64 0] 47)).heap.size (wr.alloc (.cells #[.int .i64 0, .int .i64 0] 47)) w9 from (undrewS l9)).block _ (lt_blk NA.out)).trans NA.out); have ⟨⟨r0, r1⟩, ⟨f0, f1⟩⟩ := rc2 B1.out; have hlt := lt_blk B1.out; have hn1 : wr.heap.size ≠ w9.heap.size := Nat.ne_of_lt hlt; have hn2 := Ne.symm hn1; have ⟨⟨r0', r1'⟩, ⟨f0', f1'⟩⟩ := rc2 (((belowA w9 (.cells #[.int .i64 0, .int .i64 0, .int .i64 0] 33)).block _ hlt).trans B1.out); clear l9)
      | (go_at_call 24; (with_reducible refine (HTO.out (wr.alloc (.cells #[.int .i64 0, .int .i64 0, .int .i64 0] 33)).drew A2.out.drew).mono ?_); rintro e w9 ⟨⟨so, si, rfl, hts⟩, l9⟩; have HTS := hid hts; clear hts; have L9 := hid (show Below wr.heap.size wr w9 from bchS A2.out (undrewS l9)); have hle9 := L9.out.size; have T9 := And.intro ((L9.out.cell (p := ⟨tb, 0, none⟩) htb).trans x0) ((L9.out.cell (p := ⟨gm, k, none⟩) hgm).trans m0); have B2 := hid (((show Below (wr.alloc (.cells #[.int .i64 0, .int .i64 0, .int .i64 0] 33)).heap.size (wr.alloc (.cells #[.int .i64 0, .int .i64 0, .int .i64 0] 33)) w9 from (undrewS l9)).block _ (lt_blk NB.out)).trans NB.out); have ⟨⟨r0, r1, r2⟩, ⟨f0, f1, f2⟩⟩ := rc3 B2.out; have hlt := lt_blk B2.out; have hn1 : wr.heap.size ≠ w9.heap.size := Nat.ne_of_lt hlt; have hn2 := Ne.symm hn1; have ⟨⟨r0', r1', r2'⟩, ⟨f0', f1', f2'⟩⟩ := rc3 (((belowA w9 (.cells #[.int .i64 0, .int .i64 0] 47)).block _ hlt).trans B2.out); have ⟨⟨s0', s1', s2'⟩, ⟨u0', u1', u2'⟩⟩ := rc3 (((belowA w9 (.cells #[.int .i64 so, .int .i64 si] 47)).block _ hlt).trans B2.out); clear l9)
      | (go_at_call 24; (with_reducible refine (HTO.out ((wr.alloc (.cells #[.int .i64 0, .int .i64 0] 47)).alloc (.cells #[.int .i64 0, .int .i64 0, .int .i64 0] 33)).drew A3.out.drew).mono ?_); rintro e w9 ⟨⟨so, si, rfl, hts⟩, l9⟩; have HTS := hid hts; clear hts; have L9 := hid (show Below wr.heap.size wr w9 from bchS A3.out (undrewS l9)); have hle9 := L9.out.size; have T9 := And.intro ((L9.out.cell (p := ⟨tb, 0, none⟩) htb).trans x0) ((L9.out.cell (p := ⟨gm, k, none⟩) hgm).trans m0); have B3 := hid (((show Below ((wr.alloc (.cells #[.int .i64 0, .int .i64 0] 47)).alloc (.cells #[.int .i64 0, .int .i64 0, .int .i64 0] 33)).heap.size ((wr.alloc (.cells #[.int .i64 0, .int .i64 0] 47)).alloc (.cells #[.int .i64 0, .int .i64 0, .int .i64 0] 33)) w9 from (undrewS l9)).block _ (lt_blk NC.out.1)).trans NC.out.1); have B4 := hid (((show Below ((wr.alloc (.cells #[.int .i64 0, .int .i64 0] 47)).alloc (.cells #[.int .i64 0, .int .i64 0, .int .i64 0] 33)).heap.size ((wr.alloc (.cells #[.int .i64 0, .int .i64 0] 47)).alloc (.cells #[.int .i64 0, .int .i64 0, .int .i64 0] 33)) w9 from (undrewS l9)).block _ (lt_blk NC.out.2)).trans NC.out.2); have ⟨⟨r0, r1⟩, ⟨f0, f1⟩⟩ := rc2 B3.out; have ⟨⟨q0, q1, q2⟩, ⟨h0, h1, h2⟩⟩ := rc3 B4.out; clear l9)
      | (go_at_call 24; (with_reducible refine (HTO.out ((wr.alloc (.cells #[.int .i64 0, .int .i64 0, .int .i64 0] 33)).alloc (.cells #[.int .i64 0, .int .i64 0] 47)).drew A4.out.drew).mono ?_); rintro e w9 ⟨⟨so, si, rfl, hts⟩, l9⟩; have HTS := hid hts; clear hts; have L9 := hid (show Below wr.heap.size wr w9 from bchS A4.out (undrewS l9)); have hle9 := L9.out.size; have T9 := And.intro ((L9.out.cell (p := ⟨tb, 0, none⟩) htb).trans x0) ((L9.out.cell (p := ⟨gm, k, none⟩) hgm).trans m0); have B5 := hid (((show Below ((wr.alloc (.cells #[.int .i64 0, .int .i64 0, .int .i64 0] 33)).alloc (.cells #[.int .i64 0, .int .i64 0] 47)).heap.size ((wr.alloc (.cells #[.int .i64 0, .int .i64 0, .int .i64 0] 33)).alloc (.cells #[.int .i64 0, .int .i64 0] 47)) w9 from (undrewS l9)).block _ (lt_blk ND.out.1)).trans ND.out.1); have B6 := hid (((show Below ((wr.alloc (.cells #[.int .i64 0, .int .i64 0, .int .i64 0] 33)).alloc (.cells #[.int .i64 0, .int .i64 0] 47)).heap.size ((wr.alloc (.cells #[.int .i64 0, .int .i64 0, .int .i64 0] 33)).alloc (.cells #[.int .i64 0, .int .i64 0] 47)) w9 from (undrewS l9)).block _ (lt_blk ND.out.2)).trans ND.out.2); have ⟨⟨q0, q1, q2⟩, ⟨h0, h1, h2⟩⟩ := rc3 B5.out; have ⟨⟨r0, r1⟩, ⟨f0, f1⟩⟩ := rc2 B6.out; clear l9))
  · exact NX.out _ _ _ _ _ (two1 L9.out _ _ _ _) HTS.out
  · exact NX.out _ _ _ _ _ (two2 L9.out _ _ _ _) HTS.out
  · exact NX.out _ _ _ _ _ (two3 L9.out B1.out _ _ _ _) HTS.out
  · exact NX.out _ _ _ _ _ (two4 L9.out B3.out B4.out (by omega) (by omega) (by omega) _ _ _ _) HTS.out
  · exact NX.out _ _ _ _ _ (two5 L9.out B2.out _ _ _ _) HTS.out
  · exact NX.out _ _ _ _ _ (two4 L9.out B6.out B5.out (by omega) (by omega) (by omega) _ _ _ _) HTS.out
end Go.Proofs.YtiddnjjaidiohaaGreatDoor.L
namespace Go.Proofs.YtiddnjjaidiohaaGreatDoor.L
open Go.RowKit Go.Shelf
set_option linter.unusedVariables false
theorem CP_T {T T' : List Pt} {ks : Nat → Value} : ∀ {k : Nat}, (∀ j, j < k → pt T j = pt T' j) → CP T ks k = CP T' ks k
  | 0, _ => rfl
  | k + 1, h => by
    simp only [CP]
    rw [CP_T (fun j hj => h j (by omega)), h k (by omega)]
theorem OwnP.congr {W : World} {base : Nat} {v : Value} {T T' : List Pt} {ks : Nat → Value} {k : Nat} (h : OwnP W base v T ks k) (e : ∀ j, j < k → pt T j = pt T' j) : OwnP W base v T' ks k :=
  ⟨by rw [← CP_T e]; exact h.row, fun j hj => by rw [← e j hj]; exact h.kids j hj⟩
theorem own_lit1 (w : World) (base : Nat) (x : Int) (hb : base ≤ w.heap.size) : OwnI (w.alloc (.cells #[.int .i64 x] 3)) base (.slice (some ⟨w.heap.size, 0, none⟩) 1 1) [x] :=
  World.ownsRow_lit (base := base) (e := 3) (size := 1) w #[.int .i64 x] 1 hb (by decide) (by simp)
theorem own_lit2 (w : World) (base : Nat) (x y : Int) (hb : base ≤ w.heap.size) : OwnI (w.alloc (.cells #[.int .i64 x, .int .i64 y] 3)) base (.slice (some ⟨w.heap.size, 0, none⟩) 2 2) [x, y] :=
  World.ownsRow_lit (base := base) (e := 3) (size := 1) w #[.int .i64 x, .int .i64 y] 2 hb (by decide) (by simp)
theorem row_box {W : World} {base n s : Nat} {e : TypeId} {v : Value} {xs : List Value} {g : Nat} {cs : Array Value} {fr : Nat × Nat} (h : W.ownsRow base e s v n xs) (hb : W.heap[g]? = some (.cells cs 26 fr)) (hne : e ≠ 26) : v.ownBlock ≠ some g := by
  rcases h.2 with ⟨rfl, _⟩ | ⟨g', cap, cur, rfl, _, hg, _⟩
  · intro e1; cases e1
  · intro e1
    have : g' = g := by simpa [Value.ownBlock] using e1
    subst this
    rw [hg] at hb
    have := Option.some.inj hb
    simp at this
    exact hne this.2.1
theorem box_ne {W : World} {base : Nat} {v : Value} {T : List Pt} {ks : Nat → Value} {k g : Nat} {cs : Array Value} {fr : Nat × Nat} (h : OwnP W base v T ks k) (hb : W.heap[g]? = some (.cells cs 26 fr)) : v.ownBlock ≠ some g := row_box h.row hb (by decide)
theorem grown_set (W : World) (g o : Nat) (u : Value) : W.grownBy (W.setCell ⟨g, o, none⟩ u) (some g) := ⟨rfl, rfl, rfl, by simp, fun k hk hne => Below.heap_setCell W ⟨g, o, none⟩ u k (fun e => hne (by rw [e]))⟩
theorem OwnP.box {W : World} {base : Nat} {v : Value} {T : List Pt} {ks : Nat → Value} {k g : Nat} {cs : Array Value} {fr : Nat × Nat} (h : OwnP W base v T ks k) (hb : W.heap[g]? = some (.cells cs 26 fr)) (o : Nat) (u : Value) : OwnP (W.setCell ⟨g, o, none⟩ u) base v T ks k :=
  ⟨World.ownsRow.kept h.row (grown_set W g o u) (.inr (row_box h.row hb (by decide))), fun j hj => World.ownsRow.kept (h.kids j hj) (grown_set W g o u) (.inr (row_box (h.kids j hj) hb (by decide)))⟩
set_option maxHeartbeats 8000000 in
set_option maxRecDepth 100000 in
theorem under_any (k : Int) (tx : ByteArray) (a : Option Addr) (T : List Pt) (cap : Nat) (w : World) (hT : PLs w a T) (hG : GdT T) (hsm : sumK T T.length ≤ 100000) (h1 : 1 ≤ T.length) :
    Calls Tryz.prog 18 #[.int .i64 k, .string tx, .agg #[.slice a T.length cap]] w fun e w' => ∃ a' cap', e = .returned (.agg #[.slice a' (T.length + 1) cap']) ∧ PLs w' a' (unT k tx T) ∧ Below w.heap.size w w' := by
  have hl5 : T.length ≤ 100000 := by
    have h0 := sumK_mono T (Nat.zero_le T.length)
    have h2 : sumK T 0 = T.length := rfl
    omega
  have ⟨hx, hf, hb⟩ := alloc2 w (.cells #[.slice a T.length cap] 26) (.cells #[.slice none 0 0] 26)
  have HX := hid hx
  have HF := hid hf
  have HB := hid hb
  have HT := hid hT
  have HCP := hid (fun W h => copied_any a T cap W h hG hsm)
  obtain ⟨L, hL⟩ : ∃ L, L = T.length := ⟨_, rfl⟩
  have HL := hid hL
  rw [← hL] at HX HF HB HCP h1 hl5 ⊢
  have HUT := hid (show ∀ j, j < L → pt T j = pt (unT k tx T) j from fun j hj => by rw [hL] at hj; exact (pt_app hj).symm)
  have HTP := hid (show pt (unT k tx T) L = ⟨k, tx, 0, [(L : Int) - 1]⟩ by rw [hL]; exact un_top k tx T)
  clear hx hf hb hT hL
  go_enter Tryz.func18, Tryz.ntmps18
  go_upto_region 1 with (fail)
  generalize (w.alloc (.cells #[.slice a L cap] 26)).alloc (.cells #[.slice none 0 0] 26) = X at *
  have x0 := cell_of_one HX.out
  go_upto_region 2 with (go_at_call 10; refine (HCP.out _ (HT.out.low HB.out)).mono ?_; rintro e w1 ⟨a1, c1, ks, rfl, p1, l1⟩; have P1 := hid p1; have L1 := hid l1; clear p1 l1)
  clear x0
  have HB1 := hid (bchS HB.out L1.out)
  have HA2 := hid (belowA w1 (.cells #[.slice a1 L c1] 26))
  have HX2 := hid (heap_alloc_new w1 (.cells #[.slice a1 L c1] 26))
  have HP2 := hid (P1.out.low HA2.out)
  have HF2 := hid ((HA2.out.block _ (Nat.lt_of_lt_of_le (lt_blk HF.out) L1.out.size)).trans ((L1.out.block _ (lt_blk HF.out)).trans HF.out))
  have HB2 := hid (bchS HB1.out HA2.out)
  have HZX := hid (show X.heap.size ≤ w1.heap.size from L1.out.size)
  generalize w1.alloc (.cells #[.slice a1 L c1] 26) = Y at *
  have HZY := hid (show w1.heap.size < Y.heap.size from lt_blk HX2.out)
  generalize w1.heap.size = tb at *
  have HXY := hid (show X.heap.size ≤ Y.heap.size from Nat.le_trans HZX.out (Nat.le_of_lt HZY.out))
  have HXT := hid (show X.heap.size ≤ tb from HZX.out)
  have y0 := cell_of_one HX2.out
  have HK1 := hid (own_lit1 Y X.heap.size ((L : Int) - 1) HXY.out)
  have HA3 := hid (belowA Y (.cells #[.int .i64 ((L : Int) - 1)] 3))
  have HS3 := hid (show (Y.alloc (.cells #[.int .i64 ((L : Int) - 1)] 3)).heap.size = Y.heap.size + 1 by simp)
  have HP3 := hid (HP2.out.low HA3.out)
  obtain ⟨i0, hi, hz0, hz1, hz2⟩ := info_parts infoP
  have HRW := hid (HP3.out.row.alloc (.cells #[.int .i64 k, .string tx, .int .i64 0, .slice (some ⟨Y.heap.size, 0, none⟩) 1 1] 60))
  have HFN := hid (cell_four_new (Y.alloc (.cells #[.int .i64 ((L : Int) - 1)] 3)) (.int .i64 k) (.string tx) (.int .i64 0) (.slice (some ⟨Y.heap.size, 0, none⟩) 1 1) 60)
  have HA4 := hid (belowA (Y.alloc (.cells #[.int .i64 ((L : Int) - 1)] 3)) (.cells #[.int .i64 k, .string tx, .int .i64 0, .slice (some ⟨Y.heap.size, 0, none⟩) 1 1] 60))
  have HSZ := hid (show X.heap.size ≤ ((Y.alloc (.cells #[.int .i64 ((L : Int) - 1)] 3)).alloc (.cells #[.int .i64 k, .string tx, .int .i64 0, .slice (some ⟨Y.heap.size, 0, none⟩) 1 1] 60)).heap.size from Nat.le_trans HXY.out (Nat.le_trans HA3.out.size HA4.out.size))
  rw [HS3.out] at HFN
  go_upto_region 3 with (at_builtin; refine wpList_append_own _ rfl _ _ 24 rfl X.heap.size 60 i0 (.agg #[.int .i64 0, .string ByteArray.empty, .int .i64 0, .slice none 0 0]) 4 56 Tryz.underlying24 hi hz0 hz1 hz2 rfl (by decide) _ _ _ rfl HRW.out ⟨Y.heap.size + 1, 0, none⟩ 1 1 [.int .i64 k, .string tx, .int .i64 0, .slice (some ⟨Y.heap.size, 0, none⟩) 1 1] rfl rfl HFN.out (fun x hx => by simp at hx; rcases hx with rfl | rfl | rfl | rfl <;> rfl) (by unfold maxLen; omega) (by omega) HSZ.out ?_)
  intro v5 w5 hr5 hg5 hn5
  have HPZ := hid ((HP3.out.low HA4.out).congr (T' := unT k tx T) HUT.out)
  have HKZ := hid (own_low HK1.out HA4.out)
  have HM := hid (OwnP.more HPZ.out (show OwnI _ X.heap.size (.slice (some ⟨Y.heap.size, 0, none⟩) 1 1) (pt (unT k tx T) L).kids by rw [HTP.out]; exact HKZ.out) (by rw [HTP.out, ← CP_T HUT.out]; exact hr5) hg5)
  have HBZ := hid (bchS (bchS HB2.out HA3.out) HA4.out)
  have HLZ := hid (show Y.heap.size ≤ ((Y.alloc (.cells #[.int .i64 ((L : Int) - 1)] 3)).alloc (.cells #[.int .i64 k, .string tx, .int .i64 0, .slice (some ⟨Y.heap.size, 0, none⟩) 1 1] 60)).heap.size from Nat.le_trans HA3.out.size HA4.out.size)
  have HXZ := hid ((HA4.out.block _ (Nat.lt_of_lt_of_le (lt_blk HX2.out) HA3.out.size)).trans ((HA3.out.block _ (lt_blk HX2.out)).trans HX2.out))
  have HFZ := hid ((HA4.out.block _ (Nat.lt_of_lt_of_le (lt_blk HF2.out) HA3.out.size)).trans ((HA3.out.block _ (lt_blk HF2.out)).trans HF2.out))
  have HX5 := hid ((hg5.block tb (lt_blk HXZ.out) (Ne.symm (box_ne HPZ.out HXZ.out))).trans HXZ.out)
  have HF5 := hid ((hg5.block (w.heap.size + 1) (lt_blk HFZ.out) (Ne.symm (box_ne HPZ.out HFZ.out))).trans HFZ.out)
  have HB5 := hid (HBZ.out.grown hg5 HBZ.out.size (fun k hk => Nat.le_trans HB.out.size (HPZ.out.row.lt k hk).1))
  obtain ⟨a5, c5, hv5⟩ : ∃ a5 c5, v5 = .slice a5 (L + 1) c5 := by
    have h := HM.out
    have e : L + 1 = (unT k tx T).length := by rw [un_len, HL.out]
    rw [e] at h
    obtain ⟨a5, c5, h5, _⟩ := h.pl
    exact ⟨a5, c5, by rw [h5, e]⟩
  subst hv5
  clear hr5 hg5 hn5 hi hz0 hz1 hz2 y0
  have c5' := cell_of_one HX5.out
  have f5 : w5.frozen? ⟨tb, 0, none⟩ = false := by simp [World.frozen?, HX5.out]
  go_upto_region 3 with (fail)
  have hrt : w.heap.size + 1 ≠ tb := by have h1 := lt_blk HF.out; have h2 := HXT.out; omega
  have HX6 := hid (show (w5.setCell ⟨tb, 0, none⟩ (.slice a5 (L + 1) c5)).heap[tb]? = some (.cells #[.slice a5 (L + 1) c5] 26 (0, 0)) by
    rw [setCell_eq_setRow _ _ _ _ _ _ _ HX5.out, setRow_heap _ _ _ _ _ _ HX5.out]
    rfl)
  have HF6 := hid ((Below.heap_setCell w5 ⟨tb, 0, none⟩ (.slice a5 (L + 1) c5) (w.heap.size + 1) hrt).trans HF5.out)
  have HM6 := hid (HM.out.box HX5.out 0 (.slice a5 (L + 1) c5))
  have HB6 := hid (HB5.out.setCell (p := ⟨tb, 0, none⟩) (Nat.le_trans HB.out.size HXT.out) (.slice a5 (L + 1) c5))
  clear c5' f5
  generalize w5.setCell ⟨tb, 0, none⟩ (.slice a5 (L + 1) c5) = W6 at *
  have x6 := cell_of_one HX6.out
  have y6 := cell_of_one HF6.out
  have f6 : W6.frozen? ⟨w.heap.size + 1, 0, none⟩ = false := by simp [World.frozen?, HF6.out]
  have HM7 := hid (HM6.out.box HF6.out 0 (.slice a5 (L + 1) c5))
  have HP7 := hid (show PLs (W6.setCell ⟨w.heap.size + 1, 0, none⟩ (.slice a5 (L + 1) c5)) a5 (unT k tx T) by
    have h := HM7.out
    have e : L + 1 = (unT k tx T).length := by rw [un_len, HL.out]
    rw [e] at h ⊢
    obtain ⟨a7, c7, h7, hp⟩ := h.pl
    cases h7
    exact hp)
  have HF7 := hid (show (W6.setCell ⟨w.heap.size + 1, 0, none⟩ (.slice a5 (L + 1) c5)).heap[w.heap.size + 1]? = some (.cells #[.slice a5 (L + 1) c5] 26 (0, 0)) by
    rw [setCell_eq_setRow _ _ _ _ _ _ _ HF6.out, setRow_heap _ _ _ _ _ _ HF6.out]
    rfl)
  have HB7 := hid (HB6.out.setCell (p := ⟨w.heap.size + 1, 0, none⟩) (Nat.le_succ _) (.slice a5 (L + 1) c5))
  go_wp2_with fail
  exact ⟨rfl, .agg #[.slice a5 (L + 1) c5], results_cell_row Tryz.results18 _ _ (w.heap.size + 1) 26 #[.slice a5 (L + 1) c5] (0, 0) _ rfl HF7.out Tryz.underlying26 rfl (by kernel_rfl), a5, c5, rfl, HP7.out, HB7.out⟩
end Go.Proofs.YtiddnjjaidiohaaGreatDoor.L
