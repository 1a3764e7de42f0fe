import Derived.Test.YtkagdmhijjfnnaaDoorMgAX
namespace Go.Proofs.YtkagdmhijjfnnaaDoor
open Go.RowKit Bs
set_option linter.unusedVariables false
set_option maxRecDepth 100000 in
set_option maxHeartbeats 8000000 in
theorem join_xor (oa ob oc oi : Int) (vL vW : Value) (w0 W : World) (B : Nat) (st : Nat → RSt) (h : Rg w0 W B st) (ok : Ok st) :
    Calls Tryd.prog 49 #[.pointer (some ⟨B, 0, none⟩), .agg #[.int .i64 7, .int .i64 oa, .int .i64 ob, .int .i64 oc, .int .i64 oi, vL, vW]] W fun e w' => e = .returned (.bool true) ∧ ∃ st', Rg w0 w' B st' ∧ Ok st' := by
  obtain ⟨ka, ha, ea⟩ := reg_of oa
  obtain ⟨kb, hb, eb⟩ := reg_of ob
  obtain ⟨kc, hc, ec⟩ := reg_of oc
  have O1 := hid (Ob.new W 7 oa ob oc oi vL vW)
  have R1 := hid (h.low (lowAlloc W (.cells #[.int .i64 7, .int .i64 oa, .int .i64 ob, .int .i64 oc, .int .i64 oi, vL, vW] 37)))
  obtain ⟨ab, cb, eqb, _⟩ := own_shape (h.ow kb hb)
  obtain ⟨ac, cc, eqc, _⟩ := own_shape (h.ow kc hc)
  have BB := hid eqb
  have CC := hid eqc
  have OK := hid ok
  clear h ok eqb eqc
  have o0 := O1.out.o0
  have o1 := O1.out.o1
  have o2 := O1.out.o2
  have o3 := O1.out.o3
  go_enter Tryd.func49, Tryd.ntmps49
  go_wp2_with fail
  generalize W.alloc _ = X at *
  go_quiet (fail)
  have bX := belowT (belowDrewN nq) (lowAlloc (X.drewN nq) (.cells #[.int .i64 0, .slice none 0 0] 30))
  have O2 := hid (O1.out.on bX)
  have R2 := hid (R1.out.low bX)
  have rb2 : Hid (((X.drewN nq).alloc (.cells #[.int .i64 0, .slice none 0 0] 30)).heap[X.heap.size]? = some (.cells #[.int .i64 0, .slice none 0 0] 30)) := hid (heap_alloc_new (X.drewN nq) _)
  have p0 := O2.out.o0
  have hrw := hid (show w0.heap.size ≤ X.heap.size from R1.out.lo.size)
  have hBr := hid (show B < X.heap.size from R1.out.lt)
  clear o0 o1 o2 o3 O1 R1 bX ea eb ec
  go_wp2_with fail
  generalize (X.drewN nq).alloc _ = Z at *
  generalize X.heap.size = rb at *
  have hi : (kb : Int) < 4 := by omega
  have hj : (kc : Int) < 4 := by omega
  have hia : (ka : Int) < 4 := by omega
  obtain ⟨b0, b1, b2, b3⟩ := R2.out.cells hb
  obtain ⟨d0, d1, d2, d3⟩ := R2.out.cells hc
  rw [BB.out] at b2
  rw [CC.out] at d2
  have Y0 := hid (R2.out.low (belowDr Z))
  have rbY := hid (show Z.drew.heap[rb]? = some (.cells #[.int .i64 0, .slice none 0 0] 30) from rb2.out)
  have hBn : B ≠ rb := by have := hBr.out; omega
  go_region_held3 (fun Y => Y.cell? ⟨B, kb, none⟩ = some (st kb).v ∧ Y.cell? ⟨B, kc, none⟩ = some (st kc).v ∧ Y.cell? ⟨B, 4 + kb * 2, none⟩ = some (.int .i64 ((st kb).rn : Int)) ∧ Y.cell? ⟨B, 4 + kb * 2 + 1, none⟩ = some (.slice ab (st kb).ms.length cb) ∧ Y.cell? ⟨B, 4 + kc * 2, none⟩ = some (.int .i64 ((st kc).rn : Int)) ∧ Y.cell? ⟨B, 4 + kc * 2 + 1, none⟩ = some (.slice ac (st kc).ms.length cc))
    (first | exact ⟨b0, d0, b1, b2, d1, d2⟩ | exact T2 | exact T3 | exact ⟨(cell_oth hBn).trans ((cell_oth hBn).trans T3.1), (cell_oth hBn).trans ((cell_oth hBn).trans T3.2.1), (cell_oth hBn).trans ((cell_oth hBn).trans T3.2.2.1), (cell_oth hBn).trans ((cell_oth hBn).trans T3.2.2.2.1), (cell_oth hBn).trans ((cell_oth hBn).trans T3.2.2.2.2.1), (cell_oth hBn).trans ((cell_oth hBn).trans T3.2.2.2.2.2)⟩ | go_keep)
    (first
      | (go_at_call 20; refine (xor_o _ (Y0.out.so kb hb) (Y0.out.so kc hc)).mono ?_; rintro e w2 ⟨p9, q9, rfl, fr⟩
         have Y2 := hid (Y0.out.low fr.low)
         have FR := hid fr
         have rb3 := hid ((fr.low.block rb (lt_of_block rbY.out)).trans rbY.out)
         obtain ⟨x0, x1, x2, x3⟩ := Y2.out.cells hb
         obtain ⟨y0, y1, y2, y3⟩ := Y2.out.cells hc
         rw [BB.out] at x2
         rw [CC.out] at y2
         have T2 := And.intro x0 (And.intro y0 (And.intro x1 (And.intro x2 (And.intro y1 y2))))
         clear fr)
      | (go_at_call 73; refine (dxor (st kb).rn (st kc).rn ab ac cb cc (st kb).ms (st kc).ms _ (own_rd (by rw [← BB.out]; exact Y2.out.ow kb hb)) (own_rd (by rw [← CC.out]; exact Y2.out.ow kc hc)) (OK.out kb hb).len (OK.out kc hc).len).mono ?_; rintro e w3 ⟨v9, rfl, ho, hb3⟩
         have Y3 := hid (Y2.out.low hb3)
         obtain ⟨x0, x1, x2, x3⟩ := Y3.out.cells hb
         obtain ⟨y0, y1, y2, y3⟩ := Y3.out.cells hc
         rw [BB.out] at x2
         rw [CC.out] at y2
         have T3 := And.intro x0 (And.intro y0 (And.intro x1 (And.intro x2 (And.intro y1 y2))))
         have S3 := hid (FR.out.at'.low hb3)
         obtain ⟨av, lv, cv, hv⟩ := own_form9 ho
         subst hv
         have O3 := hid ho
         have rb4 := hid ((hb3.block rb (lt_of_block rb3.out)).trans rb3.out)
         have r0 : w3.cell? ⟨rb, 0, none⟩ = some (.int .i64 0) := by rw [cell_of_row _ _ 0 _ _ _ rb4.out]; rfl
         have r1 : w3.cell? ⟨rb, 1, none⟩ = some (.slice none 0 0) := by rw [cell_of_row _ _ 1 _ _ _ rb4.out]; rfl
         have f0 := frozen_of_row w3 rb 0 _ _ rb4.out
         have f1 := frozen_of_row w3 rb 1 _ _ rb4.out
         clear ho))
  go_wp2_with fail
  clear b0 b1 b2 b3 d0 d1 d2 d3 x0 x1 x2 x3 y0 y1 y2 y3 T2 T3 r0 r1 f0 f1 p0
  generalize hm9 : max (st kb).rn (st kc).rn = m9 at *
  have cg : Chg rb w3 ((w3.setCell ⟨rb, 0, none⟩ (.int .i64 (m9 : Int))).setCell ⟨rb, 1, none⟩ (.slice av lv cv)) := (Chg.setCell 0 _).trans (Chg.setCell 1 _)
  have RV := hid (Y3.out.box cg rb4.out (by decide) hrw.out)
  have SV := hid (S3.out.box cg rb4.out (by decide))
  have OV := hid (own_box O3.out cg rb4.out (by decide))
  have rbV : Hid (((w3.setCell ⟨rb, 0, none⟩ (.int .i64 (m9 : Int))).setCell ⟨rb, 1, none⟩ (.slice av lv cv)).heap[rb]? = some (.cells #[.int .i64 (m9 : Int), .slice av lv cv] 30 (0, 0))) := hid (by rw [heap_setCell_same _ rb 1 _ _ _ (heap_setCell_same w3 rb 0 _ _ _ rb4.out)]; rfl)
  have HM9 := hid hm9
  clear cg hm9
  generalize (w3.setCell ⟨rb, 0, none⟩ (.int .i64 (m9 : Int))).setCell ⟨rb, 1, none⟩ (.slice av lv cv) = V at *
  obtain ⟨m0, m1, m2, m3⟩ := RV.out.cells ha
  have z0 := RV.out.fz ka
  have z1 := RV.out.fz (4 + ka * 2)
  have z2 := RV.out.fz (4 + ka * 2 + 1)
  have z3 := RV.out.fz (12 + ka)
  have n0 : V.cell? ⟨rb, 0, none⟩ = some (.int .i64 (m9 : Int)) := by rw [cell_of_row _ _ 0 _ _ _ rbV.out]; rfl
  have n1 : V.cell? ⟨rb, 1, none⟩ = some (.slice av lv cv) := by rw [cell_of_row _ _ 1 _ _ _ rbV.out]; rfl
  go_region
  have bdd := SV.out.bound
  have hX := hid (show Ok1 ⟨.pointer (some ⟨p9, 0, none⟩), q9, max (st kb).n (st kc).n, fun i => (st kb).S i ^^ (st kc).S i, m9, .slice av lv cv, pk true true false (st kb).ms (st kc).ms, false⟩ from ⟨by rw [← HM9.out]; rw [(OK.out kb hb).rn, (OK.out kc hc).rn], pk_is (OK.out kb hb).is (OK.out kc hc).is (OK.out kb hb).bd (OK.out kc hc).bd (fun i => by dsimp only; cases (st kb).S i <;> cases (st kc).S i <;> rfl) (fun i e => bdd i e), Nat.max_le.2 ⟨(OK.out kb hb).n, (OK.out kc hc).n⟩, (fun t ht => SV.out.cl t ht), Or.inr ⟨rfl, p9, rfl⟩⟩)
  have FIN := hid ((RV.out.setA ha ⟨.pointer (some ⟨p9, 0, none⟩), q9, max (st kb).n (st kc).n, fun i => (st kb).S i ^^ (st kc).S i, m9, .slice av lv cv, pk true true false (st kb).ms (st kc).ms, false⟩ (Or.inr ⟨p9, rfl, SV.out⟩) (own_mono OV.out (Nat.zero_le _)) (fun p e => by
    injection e with e; injection e with e; injection e with e _ _
    subst e
    refine ⟨Nat.le_trans Y0.out.lo.size FR.out.hp, Nat.le_trans Y0.out.lo.size FR.out.hq, fun i hi _ p' e' => ?_⟩
    have := Y0.out.lts hi e'
    have h1 := FR.out.hp
    have h2 := FR.out.hq
    exact ⟨by omega, by show _ ≠ q9; omega⟩)).low (belowDr _))
  clear m0 m1 m2 m3 z0 z1 z2 z3 n0 n1 bdd
  go_wp2_with fail
  go_ret
  exact ⟨rfl, _, FIN.out, OK.out.upd hX.out⟩
end Go.Proofs.YtkagdmhijjfnnaaDoor
namespace Go.Proofs.YtkagdmhijjfnnaaDoor
open Go.RowKit Bs
set_option linter.unusedVariables false
set_option maxRecDepth 100000 in
set_option maxHeartbeats 8000000 in
theorem join_not (oa ob oc oi : Int) (vL vW : Value) (w0 W : World) (B : Nat) (st : Nat → RSt) (h : Rg w0 W B st) (ok : Ok st) :
    Calls Tryd.prog 49 #[.pointer (some ⟨B, 0, none⟩), .agg #[.int .i64 8, .int .i64 oa, .int .i64 ob, .int .i64 oc, .int .i64 oi, vL, vW]] W fun e w' => e = .returned (.bool true) ∧ ∃ st', Rg w0 w' B st' ∧ Ok st' := by
  obtain ⟨ka, ha, ea⟩ := reg_of oa
  obtain ⟨kb, hb, eb⟩ := reg_of ob
  obtain ⟨kc, hc, ec⟩ := reg_of oc
  have O1 := hid (Ob.new W 8 oa ob oc oi vL vW)
  have R1 := hid (h.low (lowAlloc W (.cells #[.int .i64 8, .int .i64 oa, .int .i64 ob, .int .i64 oc, .int .i64 oi, vL, vW] 37)))
  obtain ⟨ab, cb, eqb, _⟩ := own_shape (h.ow kb hb)
  obtain ⟨ac, cc, eqc, _⟩ := own_shape (h.ow kc hc)
  have BB := hid eqb
  have CC := hid eqc
  have OK := hid ok
  clear h ok eqb eqc
  have o0 := O1.out.o0
  have o1 := O1.out.o1
  have o2 := O1.out.o2
  have o3 := O1.out.o3
  go_enter Tryd.func49, Tryd.ntmps49
  go_wp2_with fail
  generalize W.alloc _ = X at *
  go_quiet (fail)
  have bX := belowT (belowDrewN nq) (lowAlloc (X.drewN nq) (.cells #[.int .i64 0, .slice none 0 0] 30))
  have O2 := hid (O1.out.on bX)
  have R2 := hid (R1.out.low bX)
  have rb2 : Hid (((X.drewN nq).alloc (.cells #[.int .i64 0, .slice none 0 0] 30)).heap[X.heap.size]? = some (.cells #[.int .i64 0, .slice none 0 0] 30)) := hid (heap_alloc_new (X.drewN nq) _)
  have p0 := O2.out.o0
  have hrw := hid (show w0.heap.size ≤ X.heap.size from R1.out.lo.size)
  have hBr := hid (show B < X.heap.size from R1.out.lt)
  clear o0 o1 o2 o3 O1 R1 bX ea eb ec
  go_wp2_with fail
  generalize (X.drewN nq).alloc _ = Z at *
  generalize X.heap.size = rb at *
  have hi : (kb : Int) < 4 := by omega
  have hj : (kc : Int) < 4 := by omega
  have hia : (ka : Int) < 4 := by omega
  obtain ⟨b0, b1, b2, b3⟩ := R2.out.cells hb
  obtain ⟨d0, d1, d2, d3⟩ := R2.out.cells hc
  rw [BB.out] at b2
  rw [CC.out] at d2
  have Y0 := hid (R2.out.low (belowDr Z))
  have rbY := hid (show Z.drew.heap[rb]? = some (.cells #[.int .i64 0, .slice none 0 0] 30) from rb2.out)
  have hBn : B ≠ rb := by have := hBr.out; omega
  go_region_held3 (fun Y => Y.cell? ⟨B, kb, none⟩ = some (st kb).v ∧ Y.cell? ⟨B, kc, none⟩ = some (st kc).v ∧ Y.cell? ⟨B, 4 + kb * 2, none⟩ = some (.int .i64 ((st kb).rn : Int)) ∧ Y.cell? ⟨B, 4 + kb * 2 + 1, none⟩ = some (.slice ab (st kb).ms.length cb) ∧ Y.cell? ⟨B, 4 + kc * 2, none⟩ = some (.int .i64 ((st kc).rn : Int)) ∧ Y.cell? ⟨B, 4 + kc * 2 + 1, none⟩ = some (.slice ac (st kc).ms.length cc))
    (first | exact ⟨b0, d0, b1, b2, d1, d2⟩ | exact T2 | exact T3 | exact ⟨(cell_oth hBn).trans ((cell_oth hBn).trans T3.1), (cell_oth hBn).trans ((cell_oth hBn).trans T3.2.1), (cell_oth hBn).trans ((cell_oth hBn).trans T3.2.2.1), (cell_oth hBn).trans ((cell_oth hBn).trans T3.2.2.2.1), (cell_oth hBn).trans ((cell_oth hBn).trans T3.2.2.2.2.1), (cell_oth hBn).trans ((cell_oth hBn).trans T3.2.2.2.2.2)⟩ | go_keep)
    (first
      | (go_at_call 16; refine (not_o _ (Y0.out.so kb hb) (Y0.out.so kc hc)).mono ?_; rintro e w2 ⟨p9, q9, rfl, fr⟩
         have Y2 := hid (Y0.out.low fr.low)
         have FR := hid fr
         have rb3 := hid ((fr.low.block rb (lt_of_block rbY.out)).trans rbY.out)
         obtain ⟨x0, x1, x2, x3⟩ := Y2.out.cells hb
         obtain ⟨y0, y1, y2, y3⟩ := Y2.out.cells hc
         rw [BB.out] at x2
         rw [CC.out] at y2
         have T2 := And.intro x0 (And.intro y0 (And.intro x1 (And.intro x2 (And.intro y1 y2))))
         clear fr)
      | (go_at_call 74; refine (dnot (st kb).rn (st kc).rn ab ac cb cc (st kb).ms (st kc).ms _ (own_rd (by rw [← BB.out]; exact Y2.out.ow kb hb)) (own_rd (by rw [← CC.out]; exact Y2.out.ow kc hc)) (OK.out kb hb).len (OK.out kc hc).len).mono ?_; rintro e w3 ⟨v9, rfl, ho, hb3⟩
         have Y3 := hid (Y2.out.low hb3)
         obtain ⟨x0, x1, x2, x3⟩ := Y3.out.cells hb
         obtain ⟨y0, y1, y2, y3⟩ := Y3.out.cells hc
         rw [BB.out] at x2
         rw [CC.out] at y2
         have T3 := And.intro x0 (And.intro y0 (And.intro x1 (And.intro x2 (And.intro y1 y2))))
         have S3 := hid (FR.out.at'.low hb3)
         obtain ⟨av, lv, cv, hv⟩ := own_form9 ho
         subst hv
         have O3 := hid ho
         have rb4 := hid ((hb3.block rb (lt_of_block rb3.out)).trans rb3.out)
         have r0 : w3.cell? ⟨rb, 0, none⟩ = some (.int .i64 0) := by rw [cell_of_row _ _ 0 _ _ _ rb4.out]; rfl
         have r1 : w3.cell? ⟨rb, 1, none⟩ = some (.slice none 0 0) := by rw [cell_of_row _ _ 1 _ _ _ rb4.out]; rfl
         have f0 := frozen_of_row w3 rb 0 _ _ rb4.out
         have f1 := frozen_of_row w3 rb 1 _ _ rb4.out
         clear ho))
  go_wp2_with fail
  clear b0 b1 b2 b3 d0 d1 d2 d3 x0 x1 x2 x3 y0 y1 y2 y3 T2 T3 r0 r1 f0 f1 p0
  generalize hm9 : (st kc).rn = m9 at *
  have cg : Chg rb w3 ((w3.setCell ⟨rb, 0, none⟩ (.int .i64 (m9 : Int))).setCell ⟨rb, 1, none⟩ (.slice av lv cv)) := (Chg.setCell 0 _).trans (Chg.setCell 1 _)
  have RV := hid (Y3.out.box cg rb4.out (by decide) hrw.out)
  have SV := hid (S3.out.box cg rb4.out (by decide))
  have OV := hid (own_box O3.out cg rb4.out (by decide))
  have rbV : Hid (((w3.setCell ⟨rb, 0, none⟩ (.int .i64 (m9 : Int))).setCell ⟨rb, 1, none⟩ (.slice av lv cv)).heap[rb]? = some (.cells #[.int .i64 (m9 : Int), .slice av lv cv] 30 (0, 0))) := hid (by rw [heap_setCell_same _ rb 1 _ _ _ (heap_setCell_same w3 rb 0 _ _ _ rb4.out)]; rfl)
  have HM9 := hid hm9
  clear cg hm9
  generalize (w3.setCell ⟨rb, 0, none⟩ (.int .i64 (m9 : Int))).setCell ⟨rb, 1, none⟩ (.slice av lv cv) = V at *
  obtain ⟨m0, m1, m2, m3⟩ := RV.out.cells ha
  have z0 := RV.out.fz ka
  have z1 := RV.out.fz (4 + ka * 2)
  have z2 := RV.out.fz (4 + ka * 2 + 1)
  have z3 := RV.out.fz (12 + ka)
  have n0 : V.cell? ⟨rb, 0, none⟩ = some (.int .i64 (m9 : Int)) := by rw [cell_of_row _ _ 0 _ _ _ rbV.out]; rfl
  have n1 : V.cell? ⟨rb, 1, none⟩ = some (.slice av lv cv) := by rw [cell_of_row _ _ 1 _ _ _ rbV.out]; rfl
  go_region
  have bdd := SV.out.bound
  have hX := hid (show Ok1 ⟨.pointer (some ⟨p9, 0, none⟩), q9, (st kc).n, fun i => (st kc).S i && !(st kb).S i, m9, .slice av lv cv, pk false true false (st kb).ms (st kc).ms, false⟩ from ⟨by rw [← HM9.out]; exact (OK.out kc hc).rn, pk_is (OK.out kb hb).is (OK.out kc hc).is (OK.out kb hb).bd (OK.out kc hc).bd (fun i => by dsimp only; cases (st kb).S i <;> cases (st kc).S i <;> rfl) (fun i e => bdd i e), (OK.out kc hc).n, (fun t ht => SV.out.cl t ht), Or.inr ⟨rfl, p9, rfl⟩⟩)
  have FIN := hid ((RV.out.setA ha ⟨.pointer (some ⟨p9, 0, none⟩), q9, (st kc).n, fun i => (st kc).S i && !(st kb).S i, m9, .slice av lv cv, pk false true false (st kb).ms (st kc).ms, false⟩ (Or.inr ⟨p9, rfl, SV.out⟩) (own_mono OV.out (Nat.zero_le _)) (fun p e => by
    injection e with e; injection e with e; injection e with e _ _
    subst e
    refine ⟨Nat.le_trans Y0.out.lo.size FR.out.hp, Nat.le_trans Y0.out.lo.size FR.out.hq, fun i hi _ p' e' => ?_⟩
    have := Y0.out.lts hi e'
    have h1 := FR.out.hp
    have h2 := FR.out.hq
    exact ⟨by omega, by show _ ≠ q9; omega⟩)).low (belowDr _))
  clear m0 m1 m2 m3 z0 z1 z2 z3 n0 n1 bdd
  go_wp2_with fail
  go_ret
  exact ⟨rfl, _, FIN.out, OK.out.upd hX.out⟩
end Go.Proofs.YtkagdmhijjfnnaaDoor
