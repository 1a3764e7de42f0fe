import Derived.Test.YtkagdmhijjfnnaaDoorMgBB
namespace Go.Proofs.YtkagdmhijjfnnaaDoor
open Go.RowKit Bs
set_option linter.unusedVariables false
set_option maxRecDepth 100000 in
set_option maxHeartbeats 8000000 in
theorem chg_orw (oa ob oc oi : Int) (vL vW : Value) (w0 W : World) (B : Nat) (st : Nat → RSt) (h : Rg w0 W B st) (ok : Ok st) :
    Calls Tryd.prog 50 #[.pointer (some ⟨B, 0, none⟩), .agg #[.int .i64 15, .int .i64 oa, .int .i64 ob, .int .i64 oc, .int .i64 oi, vL, vW]] W fun e w' => e = .returned (.bool true) ∧ ∃ st', Rg w0 w' B st' ∧ Ok st' := by
  obtain ⟨ka, ha, ea⟩ := reg_of oa
  obtain ⟨kb, hb, eb⟩ := reg_of ob
  have O1 := hid (Ob.new W 15 oa ob oc oi vL vW)
  have R1 := hid (h.low (lowAlloc W (.cells #[.int .i64 15, .int .i64 oa, .int .i64 ob, .int .i64 oc, .int .i64 oi, vL, vW] 37)))
  have OB1 : Hid (∃ cs, (W.alloc (.cells #[.int .i64 15, .int .i64 oa, .int .i64 ob, .int .i64 oc, .int .i64 oi, vL, vW] 37)).heap[W.heap.size]? = some (.cells cs 37 (0, 0))) := hid ⟨_, heap_alloc_new W _⟩
  have OK := hid ok
  clear h ok
  have o0 := O1.out.o0
  have o1 := O1.out.o1
  have o2 := O1.out.o2
  obtain ⟨ab, _, cb, eqb, _⟩ := (show ∃ a l c, (st ka).lv = .slice a (st ka).ms.length c ∧ l = 0 from by obtain ⟨a, c, e, _⟩ := own_shape (R1.out.ow ka ha); exact ⟨a, 0, c, e, rfl⟩)
  have BB := hid eqb
  obtain ⟨ac, _, cc, eqc, _⟩ := (show ∃ a l c, (st kb).lv = .slice a (st kb).ms.length c ∧ l = 0 from by obtain ⟨a, c, e, _⟩ := own_shape (R1.out.ow kb hb); exact ⟨a, 0, c, e, rfl⟩)
  have CC := hid eqc
  clear eqb eqc
  go_enter Tryd.func50, Tryd.ntmps50
  go_wp2_with fail
  generalize W.alloc _ = X at *
  go_quiet (fail)
  have O2 := hid (O1.out.on (belowDrewN nq))
  have R2 := hid (R1.out.low (belowDrewN nq))
  have OB2 := hid (show ∃ cs, (X.drewN nq).heap[W.heap.size]? = some (.cells cs 37 (0, 0)) from OB1.out)
  have p0 := O2.out.o0
  clear o0 o1 o2 O1 R1 OB1 ea eb
  go_wp2_with fail
  generalize X.drewN nq = Z at *
  have hia : (ka : Int) < 4 := by omega
  have hib : (kb : Int) < 4 := by omega
  obtain ⟨b0, b1, b2, b3⟩ := R2.out.cells ha
  have q4 := O2.out.o4
  have Y0 := hid (R2.out.low (belowDr Z))
  have O3 := hid (O2.out.on (belowDr Z))
  obtain ⟨c0, c1, c2, c3⟩ := R2.out.cells hb
  go_region_held3 (fun Y => Y.cell? ⟨B, ka, none⟩ = some (st ka).v ∧ Y.cell? ⟨B, kb, none⟩ = some (st kb).v)
    (first | exact ⟨b0, c0⟩ | exact T2 | go_keep)
    (first
      | (go_at_call 45; refine (orw_mv _ (Y0.out.so ka ha) (Y0.out.so kb hb) (Y0.out.apq ha hb)).mono ?_; rintro e w2 ⟨rfl, mv⟩
         have Y2 := hid (Y0.out.mv ha mv)
         obtain ⟨x0, x1, x2, x3⟩ := Y2.out.cells ha
         rw [upd_same] at x0 x1 x2 x3
         obtain ⟨y0, y1, y2, y3⟩ := Y2.out.cells hb
         have ev : (upd st ka { st ka with q := (st ka).q, n := (st ka).n, S := fun i => ((st ka).S i || (st kb).S i) && decide (i < (st ka).n) } kb).v = (st kb).v ∧ (upd st ka { st ka with q := (st ka).q, n := (st ka).n, S := fun i => ((st ka).S i || (st kb).S i) && decide (i < (st ka).n) } kb).rn = (st kb).rn ∧ (upd st ka { st ka with q := (st ka).q, n := (st ka).n, S := fun i => ((st ka).S i || (st kb).S i) && decide (i < (st ka).n) } kb).lv = (st kb).lv ∧ (upd st ka { st ka with q := (st ka).q, n := (st ka).n, S := fun i => ((st ka).S i || (st kb).S i) && decide (i < (st ka).n) } kb).ms = (st kb).ms := by
           by_cases d : kb = ka
           · subst d; rw [upd_same]; exact ⟨rfl, rfl, rfl, rfl⟩
           · rw [upd_other _ _ d]; exact ⟨rfl, rfl, rfl, rfl⟩
         rw [ev.1] at y0
         rw [ev.2.1] at y1
         rw [ev.2.2.1] at y2
         have EV := hid ev
         have T2 := And.intro x0 y0
         clear mv ev))
  clear T2 b0 b1 b2 b3 q4 p0 c0 c1 c2 c3
  go_wp2_with fail
  have hra : (st ka).rn = (st ka).n := (OK.out ka ha).rn
  have hrb : (st kb).rn = (st kb).n := (OK.out kb hb).rn
  rw [BB.out] at x2
  rw [CC.out] at y2
  rw [hra] at x1
  rw [hrb] at y1
  clear hra hrb
  have OA := hid (show OwnI w2.drew 0 (.slice ab (st ka).ms.length cb) (st ka).ms from by have := own_low (Y2.out.ow ka ha) (belowDr w2); rw [upd_same] at this; rw [← BB.out]; exact this)
  have OC := hid (show OwnI w2.drew 0 (.slice ac (st kb).ms.length cc) (st kb).ms from by have := own_low (Y2.out.ow kb hb) (belowDr w2); rw [EV.out.2.2.1, EV.out.2.2.2] at this; rw [← CC.out]; exact this)
  have z1 := Y2.out.fz (4 + ka * 2)
  have z2 := Y2.out.fz (4 + ka * 2 + 1)
  go_region_with
    (first
      | (go_at_call 80; refine (dorw (st ka).n (st kb).n _ _ (st ka).ms (st kb).ms _ OA.out OC.out (OK.out kb hb).up (OK.out ka ha).len (OK.out kb hb).len).mono ?_; rintro e w3 ⟨v9, rfl, ho, hb3⟩
         have Y3 := hid (Y2.out.low (belowT (belowDr w2) hb3))
         have lB := Y2.out.lt
         have t1 := (hb3.cell (p := ⟨B, 4 + ka * 2, none⟩) lB).trans x1
         have t2 := (hb3.cell (p := ⟨B, 4 + ka * 2 + 1, none⟩) lB).trans x2
         have u1 := Y3.out.fz (4 + ka * 2)
         have u2 := Y3.out.fz (4 + ka * 2 + 1)
         obtain ⟨av, lv, cv, hv⟩ := own_form9 ho
         subst hv
         have O9 := hid (own_mono ho (Nat.zero_le _))
         clear ho hb3 lB))
  all_goals (
    have FIN := hid (Y3.out.setR ha (rn := (st ka).n) O9.out)
    have O1X := hid (show Ok1 { st ka with q := (st ka).q, n := (st ka).n, S := fun i => ((st ka).S i || (st kb).S i) && decide (i < (st ka).n), rn := (st ka).n, lv := .slice av lv cv, ms := pk true true true (st ka).ms ((st kb).ms.take (bel (st kb).ms (((st ka).n : Nat) : Int))) } from ⟨rfl, pk_is (OK.out ka ha).is (with_is (m := (st ka).n) (OK.out kb hb).is) (OK.out ka ha).bd (fun t ht => by (try dsimp only); rw [(OK.out kb hb).bd t ht]; rfl) (fun i => by (try dsimp only); exact or_cut _ _ _ _ (fun hs => Classical.byContradiction fun c => by rw [(OK.out ka ha).bd i (Nat.not_lt.1 c)] at hs; cases hs)) (fun i e => by (try dsimp only at e); simp at e; exact e.2), (OK.out ka ha).n, (fun t ht => by have := (OK.out ka ha).bd t ht; dsimp only; exact cut_out _ _ ht), (OK.out ka ha).nl⟩)
    have FX := hid (show Rg w0 _ B (upd st ka { st ka with q := (st ka).q, n := (st ka).n, S := fun i => ((st ka).S i || (st kb).S i) && decide (i < (st ka).n), rn := (st ka).n, lv := .slice av lv cv, ms := pk true true true (st ka).ms ((st kb).ms.take (bel (st kb).ms (((st ka).n : Nat) : Int))) }) from by
      have := FIN.out
      rw [upd_same, upd_twice] at this
      exact this)
    clear FIN
    go_wp2_with fail
    go_ret
    exact ⟨rfl, _, FX.out, OK.out.upd O1X.out⟩)
end Go.Proofs.YtkagdmhijjfnnaaDoor
namespace Go.Proofs.YtkagdmhijjfnnaaDoor
open Go.RowKit Bs
set_option linter.unusedVariables false
set_option maxRecDepth 100000 in
set_option maxHeartbeats 8000000 in
theorem chg_andnw (oa ob oc oi : Int) (vL vW : Value) (w0 W : World) (B : Nat) (st : Nat → RSt) (h : Rg w0 W B st) (ok : Ok st) :
    Calls Tryd.prog 50 #[.pointer (some ⟨B, 0, none⟩), .agg #[.int .i64 16, .int .i64 oa, .int .i64 ob, .int .i64 oc, .int .i64 oi, vL, vW]] W fun e w' => e = .returned (.bool true) ∧ ∃ st', Rg w0 w' B st' ∧ Ok st' := by
  obtain ⟨ka, ha, ea⟩ := reg_of oa
  obtain ⟨kb, hb, eb⟩ := reg_of ob
  have O1 := hid (Ob.new W 16 oa ob oc oi vL vW)
  have R1 := hid (h.low (lowAlloc W (.cells #[.int .i64 16, .int .i64 oa, .int .i64 ob, .int .i64 oc, .int .i64 oi, vL, vW] 37)))
  have OB1 : Hid (∃ cs, (W.alloc (.cells #[.int .i64 16, .int .i64 oa, .int .i64 ob, .int .i64 oc, .int .i64 oi, vL, vW] 37)).heap[W.heap.size]? = some (.cells cs 37 (0, 0))) := hid ⟨_, heap_alloc_new W _⟩
  have OK := hid ok
  clear h ok
  have o0 := O1.out.o0
  have o1 := O1.out.o1
  have o2 := O1.out.o2
  obtain ⟨ab, _, cb, eqb, _⟩ := (show ∃ a l c, (st ka).lv = .slice a (st ka).ms.length c ∧ l = 0 from by obtain ⟨a, c, e, _⟩ := own_shape (R1.out.ow ka ha); exact ⟨a, 0, c, e, rfl⟩)
  have BB := hid eqb
  obtain ⟨ac, _, cc, eqc, _⟩ := (show ∃ a l c, (st kb).lv = .slice a (st kb).ms.length c ∧ l = 0 from by obtain ⟨a, c, e, _⟩ := own_shape (R1.out.ow kb hb); exact ⟨a, 0, c, e, rfl⟩)
  have CC := hid eqc
  clear eqb eqc
  go_enter Tryd.func50, Tryd.ntmps50
  go_wp2_with fail
  generalize W.alloc _ = X at *
  go_quiet (fail)
  have O2 := hid (O1.out.on (belowDrewN nq))
  have R2 := hid (R1.out.low (belowDrewN nq))
  have OB2 := hid (show ∃ cs, (X.drewN nq).heap[W.heap.size]? = some (.cells cs 37 (0, 0)) from OB1.out)
  have p0 := O2.out.o0
  clear o0 o1 o2 O1 R1 OB1 ea eb
  go_wp2_with fail
  generalize X.drewN nq = Z at *
  have hia : (ka : Int) < 4 := by omega
  have hib : (kb : Int) < 4 := by omega
  obtain ⟨b0, b1, b2, b3⟩ := R2.out.cells ha
  have q4 := O2.out.o4
  have Y0 := hid (R2.out.low (belowDr Z))
  have O3 := hid (O2.out.on (belowDr Z))
  obtain ⟨c0, c1, c2, c3⟩ := R2.out.cells hb
  go_region_held3 (fun Y => Y.cell? ⟨B, ka, none⟩ = some (st ka).v ∧ Y.cell? ⟨B, kb, none⟩ = some (st kb).v)
    (first | exact ⟨b0, c0⟩ | exact T2 | go_keep)
    (first
      | (go_at_call 41; refine (andnw_mv _ (Y0.out.so ka ha) (Y0.out.so kb hb) (Y0.out.apq ha hb)).mono ?_; rintro e w2 ⟨rfl, mv⟩
         have Y2 := hid (Y0.out.mv ha mv)
         obtain ⟨x0, x1, x2, x3⟩ := Y2.out.cells ha
         rw [upd_same] at x0 x1 x2 x3
         obtain ⟨y0, y1, y2, y3⟩ := Y2.out.cells hb
         have ev : (upd st ka { st ka with q := (st ka).q, n := (st ka).n, S := fun i => (st ka).S i && !(st kb).S i } kb).v = (st kb).v ∧ (upd st ka { st ka with q := (st ka).q, n := (st ka).n, S := fun i => (st ka).S i && !(st kb).S i } kb).rn = (st kb).rn ∧ (upd st ka { st ka with q := (st ka).q, n := (st ka).n, S := fun i => (st ka).S i && !(st kb).S i } kb).lv = (st kb).lv ∧ (upd st ka { st ka with q := (st ka).q, n := (st ka).n, S := fun i => (st ka).S i && !(st kb).S i } kb).ms = (st kb).ms := by
           by_cases d : kb = ka
           · subst d; rw [upd_same]; exact ⟨rfl, rfl, rfl, rfl⟩
           · rw [upd_other _ _ d]; exact ⟨rfl, rfl, rfl, rfl⟩
         rw [ev.1] at y0
         rw [ev.2.1] at y1
         rw [ev.2.2.1] at y2
         have EV := hid ev
         have T2 := And.intro x0 y0
         clear mv ev))
  clear T2 b0 b1 b2 b3 q4 p0 c0 c1 c2 c3
  go_wp2_with fail
  have hra : (st ka).rn = (st ka).n := (OK.out ka ha).rn
  have hrb : (st kb).rn = (st kb).n := (OK.out kb hb).rn
  rw [BB.out] at x2
  rw [CC.out] at y2
  rw [hra] at x1
  rw [hrb] at y1
  clear hra hrb
  have OA := hid (show OwnI w2.drew 0 (.slice ab (st ka).ms.length cb) (st ka).ms from by have := own_low (Y2.out.ow ka ha) (belowDr w2); rw [upd_same] at this; rw [← BB.out]; exact this)
  have OC := hid (show OwnI w2.drew 0 (.slice ac (st kb).ms.length cc) (st kb).ms from by have := own_low (Y2.out.ow kb hb) (belowDr w2); rw [EV.out.2.2.1, EV.out.2.2.2] at this; rw [← CC.out]; exact this)
  have z1 := Y2.out.fz (4 + ka * 2)
  have z2 := Y2.out.fz (4 + ka * 2 + 1)
  go_region_with
    (first
      | (go_at_call 81; refine (dandnw (st ka).n (st kb).n ab ac cb cc (st ka).ms (st kb).ms _ (own_rd OA.out) (own_rd OC.out) (OK.out ka ha).len (OK.out kb hb).len).mono ?_; rintro e w3 ⟨v9, rfl, ho, hb3⟩
         have Y3 := hid (Y2.out.low (belowT (belowDr w2) hb3))
         have lB := Y2.out.lt
         have t1 := (hb3.cell (p := ⟨B, 4 + ka * 2, none⟩) lB).trans x1
         have t2 := (hb3.cell (p := ⟨B, 4 + ka * 2 + 1, none⟩) lB).trans x2
         have u1 := Y3.out.fz (4 + ka * 2)
         have u2 := Y3.out.fz (4 + ka * 2 + 1)
         obtain ⟨av, lv, cv, hv⟩ := own_form9 ho
         subst hv
         have O9 := hid (own_mono ho (Nat.zero_le _))
         clear ho hb3 lB))
  all_goals (
    have FIN := hid (Y3.out.setR ha (rn := (st ka).n) O9.out)
    have O1X := hid (show Ok1 { st ka with q := (st ka).q, n := (st ka).n, S := fun i => (st ka).S i && !(st kb).S i, rn := (st ka).n, lv := .slice av lv cv, ms := pk true false false (st ka).ms (st kb).ms } from ⟨rfl, pk_is (OK.out ka ha).is (OK.out kb hb).is (OK.out ka ha).bd (OK.out kb hb).bd (fun i => by dsimp only; cases (st ka).S i <;> cases (st kb).S i <;> rfl) (fun i e => by apply Classical.byContradiction; intro c; have h9 := (OK.out ka ha).bd i (Nat.not_lt.1 c); dsimp only at e; rw [h9] at e; cases e), (OK.out ka ha).n, (fun t ht => by have := (OK.out ka ha).bd t ht; dsimp only; rw [this]; rfl), (OK.out ka ha).nl⟩)
    have FX := hid (show Rg w0 _ B (upd st ka { st ka with q := (st ka).q, n := (st ka).n, S := fun i => (st ka).S i && !(st kb).S i, rn := (st ka).n, lv := .slice av lv cv, ms := pk true false false (st ka).ms (st kb).ms }) from by
      have := FIN.out
      rw [upd_same, upd_twice] at this
      exact this)
    clear FIN
    go_wp2_with fail
    go_ret
    exact ⟨rfl, _, FX.out, OK.out.upd O1X.out⟩)
end Go.Proofs.YtkagdmhijjfnnaaDoor
