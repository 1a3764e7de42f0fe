import Derived.Test.YtkagdmhijjfnnaaDoorMgBA
namespace Go.Proofs.YtkagdmhijjfnnaaDoor
open Go.RowKit Bs
set_option linter.unusedVariables false
set_option maxRecDepth 100000 in
set_option maxHeartbeats 8000000 in
theorem chg_add (oa ob oc oi : Int) (vL vW : Value) (w0 W : World) (B : Nat) (st : Nat → RSt) (h : Rg w0 W B st) (ok : Ok st) :
    Calls Tryd.prog 50 #[.pointer (some ⟨B, 0, none⟩), .agg #[.int .i64 11, .int .i64 oa, .int .i64 ob, .int .i64 oc, .int .i64 oi, vL, vW]] W fun e w' => e = .returned (.bool true) ∧ ∃ st', Rg w0 w' B st' ∧ Ok st' := by
  obtain ⟨ka, ha, ea⟩ := reg_of oa
  obtain ⟨kb, hb, eb⟩ := reg_of ob
  have O1 := hid (Ob.new W 11 oa ob oc oi vL vW)
  have R1 := hid (h.low (lowAlloc W (.cells #[.int .i64 11, .int .i64 oa, .int .i64 ob, .int .i64 oc, .int .i64 oi, vL, vW] 37)))
  have OB1 : Hid (∃ cs, (W.alloc (.cells #[.int .i64 11, .int .i64 oa, .int .i64 ob, .int .i64 oc, .int .i64 oi, vL, vW] 37)).heap[W.heap.size]? = some (.cells cs 37 (0, 0))) := hid ⟨_, heap_alloc_new W _⟩
  have OK := hid ok
  clear h ok
  have o0 := O1.out.o0
  have o1 := O1.out.o1
  have o2 := O1.out.o2
  obtain ⟨ab, _, cb, eqb, _⟩ := (show ∃ a l c, (st ka).lv = .slice a (st ka).ms.length c ∧ l = 0 from by obtain ⟨a, c, e, _⟩ := own_shape (R1.out.ow ka ha); exact ⟨a, 0, c, e, rfl⟩)
  have BB := hid eqb
  clear eqb
  go_enter Tryd.func50, Tryd.ntmps50
  go_wp2_with fail
  generalize W.alloc _ = X at *
  go_quiet (fail)
  have O2 := hid (O1.out.on (belowDrewN nq))
  have R2 := hid (R1.out.low (belowDrewN nq))
  have OB2 := hid (show ∃ cs, (X.drewN nq).heap[W.heap.size]? = some (.cells cs 37 (0, 0)) from OB1.out)
  have p0 := O2.out.o0
  clear o0 o1 o2 O1 R1 OB1 ea eb
  go_wp2_with fail
  generalize X.drewN nq = Z at *
  have hia : (ka : Int) < 4 := by omega
  have hib : (kb : Int) < 4 := by omega
  obtain ⟨b0, b1, b2, b3⟩ := R2.out.cells ha
  have q4 := O2.out.o4
  have Y0 := hid (R2.out.low (belowDr Z))
  have O3 := hid (O2.out.on (belowDr Z))
  go_region_held3 (fun Y => Y.cell? ⟨B, ka, none⟩ = some (st ka).v ∧ Y.cell? ⟨W.heap.size, 4, none⟩ = some (.int .i64 oi))
    (first | exact ⟨b0, q4⟩ | exact T2 | go_keep)
    (first
      | (go_at_call 39; refine (add_mv oi _ (Y0.out.so ka ha)).mono ?_; rintro e w2 ⟨rfl, mv⟩
         have Y2 := hid (Y0.out.mv ha mv)
         have O4 := hid (O3.out.mv OB2.out Y0.out ha mv).1
         obtain ⟨x0, x1, x2, x3⟩ := Y2.out.cells ha
         rw [upd_same] at x0 x1 x2 x3
         have y4 := O4.out.o4
         have T2 := And.intro x0 y4
         clear mv))
  clear T2 b0 b1 b2 b3 q4 p0
  go_wp2_with fail
  have X2B := hid (lowAlloc w2 (.cells #[.int .i64 0, .slice none 0 0] 30))
  have X2C : Hid ((w2.alloc (.cells #[.int .i64 0, .slice none 0 0] 30)).heap[w2.heap.size]? = some (.cells #[.int .i64 0, .slice none 0 0] 30)) := hid (heap_alloc_new w2 _)
  have X2S : Hid (w2.heap.size < (w2.alloc (.cells #[.int .i64 0, .slice none 0 0] 30)).heap.size) := hid (by simp)
  have hBn : B ≠ w2.heap.size := by have := Y2.out.lt; omega
  have hwn : W.heap.size ≠ w2.heap.size := by have := O4.out.lt; omega
  have hrn : (st ka).rn = (st ka).n := (OK.out ka ha).rn
  have DD := hid (fun (V : World) (hV : Below w2.heap.size w2 V) => dadd_two (st ka).n (.slice ab (st ka).ms.length cb) (st ka).ms (st ka).S oi V (by have := own_low (Y2.out.ow ka ha) hV; rw [upd_same] at this; rw [← BB.out]; exact this) (OK.out ka ha).is (OK.out ka ha).bd (OK.out ka ha).len)
  rw [BB.out] at x2
  rw [hrn] at x1
  clear hrn
  go_region_held3 (fun Y => Y.cell? ⟨B, 4 + ka * 2, none⟩ = some (.int .i64 ((st ka).n : Int)) ∧ Y.cell? ⟨B, 4 + ka * 2 + 1, none⟩ = some (.slice ab (st ka).ms.length cb) ∧ Y.cell? ⟨W.heap.size, 4, none⟩ = some (.int .i64 oi))
    (first | exact ⟨x1, x2, y4⟩ | exact T3 | exact ⟨(cell_oth hBn).trans ((cell_oth hBn).trans T3.1), (cell_oth hBn).trans ((cell_oth hBn).trans T3.2.1), (cell_oth hwn).trans ((cell_oth hwn).trans T3.2.2)⟩ | go_keep)
    (first
      | (go_at_call 76; refine (DD.out _ (belowDr w2)).mono ?_; rintro e w3 ⟨v9, m9, rfl, ho, hms, hb3⟩
         have Y3 := hid (Y2.out.low (belowT (belowDr w2) hb3))
         have O5 := hid (O4.out.on (belowT (belowDr w2) hb3))
         have T3 := And.intro ((hb3.cell (p := ⟨B, 4 + ka * 2, none⟩) Y2.out.lt).trans x1) (And.intro ((hb3.cell (p := ⟨B, 4 + ka * 2 + 1, none⟩) Y2.out.lt).trans x2) O5.out.o4)
         obtain ⟨av, lv, cv, hv⟩ := own_form9 ho
         subst hv
         have O9 := hid ho
         have M9 := hid hms
         clear ho hms hb3)
      | (go_at_call 76; refine (DD.out _ (belowT X2B.out (belowDr _))).mono ?_; rintro e w3 ⟨v9, m9, rfl, ho, hms, hb3⟩
         have hb4 := belowT (belowDr (w2.alloc (.cells #[.int .i64 0, .slice none 0 0] 30))) hb3
         have Y3 := hid (Y2.out.low (belowT X2B.out hb4))
         have O5 := hid (O4.out.on (belowT X2B.out hb4))
         have z1 := (Y2.out.low X2B.out).lt
         have T3 := And.intro (((belowT X2B.out hb4).cell (p := ⟨B, 4 + ka * 2, none⟩) Y2.out.lt).trans x1) (And.intro (((belowT X2B.out hb4).cell (p := ⟨B, 4 + ka * 2 + 1, none⟩) Y2.out.lt).trans x2) O5.out.o4)
         obtain ⟨av, lv, cv, hv⟩ := own_form9 ho
         subst hv
         have O9 := hid ho
         have M9 := hid hms
         have bx := (hb4.block w2.heap.size X2S.out).trans X2C.out
         have BX := hid bx
         have g0 : w3.cell? ⟨w2.heap.size, 0, none⟩ = some (.int .i64 0) := (by rw [cell_of_row w3 w2.heap.size 0 _ _ _ bx]; rfl)
         have g1 : w3.cell? ⟨w2.heap.size, 1, none⟩ = some (.slice none 0 0) := (by rw [cell_of_row w3 w2.heap.size 1 _ _ _ bx]; rfl)
         have z2 : w3.frozen? ⟨w2.heap.size, 0, none⟩ = false := frozen_of_row w3 w2.heap.size 0 _ _ bx
         have z3 : w3.frozen? ⟨w2.heap.size, 1, none⟩ = false := frozen_of_row w3 w2.heap.size 1 _ _ bx
         clear ho hms hb3 hb4 bx z1))
  all_goals (go_wp2_with fail)
  · have YY := hid (Yb.two (n := (st ka).n) Y3.out O9.out)
    have y0 := YY.out.y0
    have y1 := YY.out.y1
    obtain ⟨k0, k1, k2, k3⟩ := YY.out.rg.cells ha
    rw [upd_same] at k0 k1 k2 k3
    have u1 := YY.out.rg.fz (4 + ka * 2)
    have u2 := YY.out.rg.fz (4 + ka * 2 + 1)
    have FIN := hid ((YY.out.rg.setR ha (rn := (st ka).n) YY.out.ow).low (belowDr _))
    have O1X := hid (show Ok1 { st ka with q := (st ka).q, n := (st ka).n, S := putS (st ka).n (st ka).S oi, rn := (st ka).n, lv := .slice av lv cv, ms := m9 } from ⟨rfl, M9.out, (OK.out ka ha).n, put_bd (OK.out ka ha).bd oi, (OK.out ka ha).nl⟩)
    have FX := hid (show Rg w0 _ B (upd st ka { st ka with q := (st ka).q, n := (st ka).n, S := putS (st ka).n (st ka).S oi, rn := (st ka).n, lv := .slice av lv cv, ms := m9 }) from by
      have := FIN.out
      rw [upd_same, upd_twice] at this
      exact this)
    clear x0 x1 x2 x3 y4 T3  FIN
    generalize w3.alloc (.cells #[.int .i64 (((st ka).n : Nat) : Int), .slice av lv cv] 30) = Y at *
    go_region
    go_wp2_with fail
    go_ret
    exact ⟨rfl, _, FX.out, OK.out.upd O1X.out⟩
  · have YY := hid (Yb.one (n := (st ka).n) Y3.out O9.out rfl BX.out Y2.out.lo.size)
    have y0 := YY.out.y0
    have y1 := YY.out.y1
    obtain ⟨k0, k1, k2, k3⟩ := YY.out.rg.cells ha
    rw [upd_same] at k0 k1 k2 k3
    have u1 := YY.out.rg.fz (4 + ka * 2)
    have u2 := YY.out.rg.fz (4 + ka * 2 + 1)
    have FIN := hid ((YY.out.rg.setR ha (rn := (st ka).n) YY.out.ow).low (belowDr _))
    have O1X := hid (show Ok1 { st ka with q := (st ka).q, n := (st ka).n, S := putS (st ka).n (st ka).S oi, rn := (st ka).n, lv := .slice av lv cv, ms := m9 } from ⟨rfl, M9.out, (OK.out ka ha).n, put_bd (OK.out ka ha).bd oi, (OK.out ka ha).nl⟩)
    have FX := hid (show Rg w0 _ B (upd st ka { st ka with q := (st ka).q, n := (st ka).n, S := putS (st ka).n (st ka).S oi, rn := (st ka).n, lv := .slice av lv cv, ms := m9 }) from by
      have := FIN.out
      rw [upd_same, upd_twice] at this
      exact this)
    clear x0 x1 x2 x3 y4 T3 g0 g1 z2 z3 FIN
    generalize ((w3.setCell ⟨w2.heap.size, 0, none⟩ (.int .i64 (((st ka).n : Nat) : Int))).setCell ⟨w2.heap.size, 1, none⟩ (.slice av lv cv)) = Y at *
    go_region
    go_wp2_with fail
    go_ret
    exact ⟨rfl, _, FX.out, OK.out.upd O1X.out⟩
end Go.Proofs.YtkagdmhijjfnnaaDoor
namespace Go.Proofs.YtkagdmhijjfnnaaDoor
open Go.RowKit Bs
set_option linter.unusedVariables false
set_option maxRecDepth 100000 in
set_option maxHeartbeats 8000000 in
theorem chg_rem (oa ob oc oi : Int) (vL vW : Value) (w0 W : World) (B : Nat) (st : Nat → RSt) (h : Rg w0 W B st) (ok : Ok st) :
    Calls Tryd.prog 50 #[.pointer (some ⟨B, 0, none⟩), .agg #[.int .i64 12, .int .i64 oa, .int .i64 ob, .int .i64 oc, .int .i64 oi, vL, vW]] W fun e w' => e = .returned (.bool true) ∧ ∃ st', Rg w0 w' B st' ∧ Ok st' := by
  obtain ⟨ka, ha, ea⟩ := reg_of oa
  obtain ⟨kb, hb, eb⟩ := reg_of ob
  have O1 := hid (Ob.new W 12 oa ob oc oi vL vW)
  have R1 := hid (h.low (lowAlloc W (.cells #[.int .i64 12, .int .i64 oa, .int .i64 ob, .int .i64 oc, .int .i64 oi, vL, vW] 37)))
  have OB1 : Hid (∃ cs, (W.alloc (.cells #[.int .i64 12, .int .i64 oa, .int .i64 ob, .int .i64 oc, .int .i64 oi, vL, vW] 37)).heap[W.heap.size]? = some (.cells cs 37 (0, 0))) := hid ⟨_, heap_alloc_new W _⟩
  have OK := hid ok
  clear h ok
  have o0 := O1.out.o0
  have o1 := O1.out.o1
  have o2 := O1.out.o2
  obtain ⟨ab, _, cb, eqb, _⟩ := (show ∃ a l c, (st ka).lv = .slice a (st ka).ms.length c ∧ l = 0 from by obtain ⟨a, c, e, _⟩ := own_shape (R1.out.ow ka ha); exact ⟨a, 0, c, e, rfl⟩)
  have BB := hid eqb
  clear eqb
  go_enter Tryd.func50, Tryd.ntmps50
  go_wp2_with fail
  generalize W.alloc _ = X at *
  go_quiet (fail)
  have O2 := hid (O1.out.on (belowDrewN nq))
  have R2 := hid (R1.out.low (belowDrewN nq))
  have OB2 := hid (show ∃ cs, (X.drewN nq).heap[W.heap.size]? = some (.cells cs 37 (0, 0)) from OB1.out)
  have p0 := O2.out.o0
  clear o0 o1 o2 O1 R1 OB1 ea eb
  go_wp2_with fail
  generalize X.drewN nq = Z at *
  have hia : (ka : Int) < 4 := by omega
  have hib : (kb : Int) < 4 := by omega
  obtain ⟨b0, b1, b2, b3⟩ := R2.out.cells ha
  have q4 := O2.out.o4
  have Y0 := hid (R2.out.low (belowDr Z))
  have O3 := hid (O2.out.on (belowDr Z))
  go_region_held3 (fun Y => Y.cell? ⟨B, ka, none⟩ = some (st ka).v ∧ Y.cell? ⟨W.heap.size, 4, none⟩ = some (.int .i64 oi))
    (first | exact ⟨b0, q4⟩ | exact T2 | go_keep)
    (first
      | (go_at_call 40; refine (rem_mv oi _ (Y0.out.so ka ha) (decide (oi ∈ (st ka).ms)) (by rw [decide_eq_true_iff]; exact has_in (OK.out ka ha).is (OK.out ka ha).bd oi)).mono ?_; rintro e w2 ⟨rfl, mv⟩
         have Y2 := hid (Y0.out.mv ha mv)
         have O4 := hid (O3.out.mv OB2.out Y0.out ha mv).1
         obtain ⟨x0, x1, x2, x3⟩ := Y2.out.cells ha
         rw [upd_same] at x0 x1 x2 x3
         have y4 := O4.out.o4
         have T2 := And.intro x0 y4
         clear mv))
  clear T2 b0 b1 b2 b3 q4 p0
  go_wp2_with fail
  have X2B := hid (lowAlloc w2 (.cells #[.int .i64 0, .slice none 0 0] 30))
  have X2C : Hid ((w2.alloc (.cells #[.int .i64 0, .slice none 0 0] 30)).heap[w2.heap.size]? = some (.cells #[.int .i64 0, .slice none 0 0] 30)) := hid (heap_alloc_new w2 _)
  have X2S : Hid (w2.heap.size < (w2.alloc (.cells #[.int .i64 0, .slice none 0 0] 30)).heap.size) := hid (by simp)
  have hBn : B ≠ w2.heap.size := by have := Y2.out.lt; omega
  have hwn : W.heap.size ≠ w2.heap.size := by have := O4.out.lt; omega
  have hrn : (st ka).rn = (st ka).n := (OK.out ka ha).rn
  have DD := hid (fun (V : World) (hV : Below w2.heap.size w2 V) => drem_two (st ka).n (.slice ab (st ka).ms.length cb) (st ka).ms (st ka).S oi V (by have := own_low (Y2.out.ow ka ha) hV; rw [upd_same] at this; rw [← BB.out]; exact this) (OK.out ka ha).is (OK.out ka ha).bd (OK.out ka ha).len)
  rw [BB.out] at x2
  rw [hrn] at x1
  clear hrn
  go_region_held3 (fun Y => Y.cell? ⟨B, 4 + ka * 2, none⟩ = some (.int .i64 ((st ka).n : Int)) ∧ Y.cell? ⟨B, 4 + ka * 2 + 1, none⟩ = some (.slice ab (st ka).ms.length cb) ∧ Y.cell? ⟨W.heap.size, 4, none⟩ = some (.int .i64 oi))
    (first | exact ⟨x1, x2, y4⟩ | exact T3 | exact ⟨(cell_oth hBn).trans ((cell_oth hBn).trans T3.1), (cell_oth hBn).trans ((cell_oth hBn).trans T3.2.1), (cell_oth hwn).trans ((cell_oth hwn).trans T3.2.2)⟩ | go_keep)
    (first
      | (go_at_call 77; refine (DD.out _ (belowDr w2)).mono ?_; rintro e w3 ⟨v9, m9, rfl, ho, hms, hb3⟩
         have Y3 := hid (Y2.out.low (belowT (belowDr w2) hb3))
         have O5 := hid (O4.out.on (belowT (belowDr w2) hb3))
         have T3 := And.intro ((hb3.cell (p := ⟨B, 4 + ka * 2, none⟩) Y2.out.lt).trans x1) (And.intro ((hb3.cell (p := ⟨B, 4 + ka * 2 + 1, none⟩) Y2.out.lt).trans x2) O5.out.o4)
         obtain ⟨av, lv, cv, hv⟩ := own_form9 ho
         subst hv
         have O9 := hid ho
         have M9 := hid hms
         clear ho hms hb3)
      | (go_at_call 77; refine (DD.out _ (belowT X2B.out (belowDr _))).mono ?_; rintro e w3 ⟨v9, m9, rfl, ho, hms, hb3⟩
         have hb4 := belowT (belowDr (w2.alloc (.cells #[.int .i64 0, .slice none 0 0] 30))) hb3
         have Y3 := hid (Y2.out.low (belowT X2B.out hb4))
         have O5 := hid (O4.out.on (belowT X2B.out hb4))
         have z1 := (Y2.out.low X2B.out).lt
         have T3 := And.intro (((belowT X2B.out hb4).cell (p := ⟨B, 4 + ka * 2, none⟩) Y2.out.lt).trans x1) (And.intro (((belowT X2B.out hb4).cell (p := ⟨B, 4 + ka * 2 + 1, none⟩) Y2.out.lt).trans x2) O5.out.o4)
         obtain ⟨av, lv, cv, hv⟩ := own_form9 ho
         subst hv
         have O9 := hid ho
         have M9 := hid hms
         have bx := (hb4.block w2.heap.size X2S.out).trans X2C.out
         have BX := hid bx
         have g0 : w3.cell? ⟨w2.heap.size, 0, none⟩ = some (.int .i64 0) := (by rw [cell_of_row w3 w2.heap.size 0 _ _ _ bx]; rfl)
         have g1 : w3.cell? ⟨w2.heap.size, 1, none⟩ = some (.slice none 0 0) := (by rw [cell_of_row w3 w2.heap.size 1 _ _ _ bx]; rfl)
         have z2 : w3.frozen? ⟨w2.heap.size, 0, none⟩ = false := frozen_of_row w3 w2.heap.size 0 _ _ bx
         have z3 : w3.frozen? ⟨w2.heap.size, 1, none⟩ = false := frozen_of_row w3 w2.heap.size 1 _ _ bx
         clear ho hms hb3 hb4 bx z1))
  all_goals (go_wp2_with fail)
  · have YY := hid (Yb.two (n := (st ka).n) Y3.out O9.out)
    have y0 := YY.out.y0
    have y1 := YY.out.y1
    obtain ⟨k0, k1, k2, k3⟩ := YY.out.rg.cells ha
    rw [upd_same] at k0 k1 k2 k3
    have u1 := YY.out.rg.fz (4 + ka * 2)
    have u2 := YY.out.rg.fz (4 + ka * 2 + 1)
    have FIN := hid ((YY.out.rg.setR ha (rn := (st ka).n) YY.out.ow).low (belowDr _))
    have O1X := hid (show Ok1 { st ka with q := (st ka).q, n := (st ka).n, S := cutS (st ka).S oi, rn := (st ka).n, lv := .slice av lv cv, ms := m9 } from ⟨rfl, M9.out, (OK.out ka ha).n, cut_bd (OK.out ka ha).bd oi, (OK.out ka ha).nl⟩)
    have FX := hid (show Rg w0 _ B (upd st ka { st ka with q := (st ka).q, n := (st ka).n, S := cutS (st ka).S oi, rn := (st ka).n, lv := .slice av lv cv, ms := m9 }) from by
      have := FIN.out
      rw [upd_same, upd_twice] at this
      exact this)
    clear x0 x1 x2 x3 y4 T3  FIN
    generalize w3.alloc (.cells #[.int .i64 (((st ka).n : Nat) : Int), .slice av lv cv] 30) = Y at *
    go_region
    go_wp2_with fail
    go_ret
    exact ⟨rfl, _, FX.out, OK.out.upd O1X.out⟩
  · have YY := hid (Yb.one (n := (st ka).n) Y3.out O9.out rfl BX.out Y2.out.lo.size)
    have y0 := YY.out.y0
    have y1 := YY.out.y1
    obtain ⟨k0, k1, k2, k3⟩ := YY.out.rg.cells ha
    rw [upd_same] at k0 k1 k2 k3
    have u1 := YY.out.rg.fz (4 + ka * 2)
    have u2 := YY.out.rg.fz (4 + ka * 2 + 1)
    have FIN := hid ((YY.out.rg.setR ha (rn := (st ka).n) YY.out.ow).low (belowDr _))
    have O1X := hid (show Ok1 { st ka with q := (st ka).q, n := (st ka).n, S := cutS (st ka).S oi, rn := (st ka).n, lv := .slice av lv cv, ms := m9 } from ⟨rfl, M9.out, (OK.out ka ha).n, cut_bd (OK.out ka ha).bd oi, (OK.out ka ha).nl⟩)
    have FX := hid (show Rg w0 _ B (upd st ka { st ka with q := (st ka).q, n := (st ka).n, S := cutS (st ka).S oi, rn := (st ka).n, lv := .slice av lv cv, ms := m9 }) from by
      have := FIN.out
      rw [upd_same, upd_twice] at this
      exact this)
    clear x0 x1 x2 x3 y4 T3 g0 g1 z2 z3 FIN
    generalize ((w3.setCell ⟨w2.heap.size, 0, none⟩ (.int .i64 (((st ka).n : Nat) : Int))).setCell ⟨w2.heap.size, 1, none⟩ (.slice av lv cv)) = Y at *
    go_region
    go_wp2_with fail
    go_ret
    exact ⟨rfl, _, FX.out, OK.out.upd O1X.out⟩
end Go.Proofs.YtkagdmhijjfnnaaDoor
