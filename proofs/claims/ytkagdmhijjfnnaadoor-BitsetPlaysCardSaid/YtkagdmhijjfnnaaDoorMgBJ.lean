import Derived.Test.YtkagdmhijjfnnaaDoorMgBI
import Derived.Test.YtkagdmhijjfnnaaDoorMgAO
namespace Go.Proofs.YtkagdmhijjfnnaaDoor
open Go.RowKit Bs
set_option linter.unusedVariables false
set_option maxRecDepth 100000 in
set_option maxHeartbeats 8000000 in
theorem ask_size (oa ob oc oi : Int) (vL vW : Value) (w0 W : World) (B : Nat) (st : Nat → RSt) (h : Rg w0 W B st) (ok : Ok st) :
    Calls Tryd.prog 51 #[.pointer (some ⟨B, 0, none⟩), .agg #[.int .i64 17, .int .i64 oa, .int .i64 ob, .int .i64 oc, .int .i64 oi, vL, vW]] W fun e w' => e = .returned (.bool true) ∧ Below W.heap.size W w' := by
  obtain ⟨ka, ha, ea⟩ := reg_of oa
  obtain ⟨kb, hb, eb⟩ := reg_of ob
  have BL1 := hid (lowAlloc W (.cells #[.int .i64 17, .int .i64 oa, .int .i64 ob, .int .i64 oc, .int .i64 oi, vL, vW] 37))
  have O1 := hid (Ob.new W 17 oa ob oc oi vL vW)
  have R1 := hid (h.low BL1.out)
  have OK := hid ok
  obtain ⟨ab, cb, eqb, _⟩ := own_shape (h.ow ka ha)
  have BB := hid eqb
  clear h ok eqb
  have o1 := O1.out.o1
  have hia : (ka : Int) < 4 := by omega
  have hib : (kb : Int) < 4 := by omega
  obtain ⟨b0, b1, b2, b3⟩ := R1.out.cells ha
  rw [BB.out] at b2
  rw [(OK.out ka ha).rn] at b1
  go_enter Tryd.func51, Tryd.ntmps51
  go_wp2_with fail
  generalize W.alloc _ = X at *
  have q1 := (O1.out.on (lowAlloc X (.cells #[.int .i64 0, .slice none 0 0] 30))).o1
  obtain ⟨d0, d1, d2, d3⟩ := (R1.out.low (lowAlloc X (.cells #[.int .i64 0, .slice none 0 0] 30))).cells ha
  rw [BB.out] at d2
  rw [(OK.out ka ha).rn] at d1
  go_region
  have bZ := belowT (lowAlloc X (.cells #[.int .i64 ((st ka).n : Int), .slice ab (st ka).ms.length cb] 30)) (belowDr _)
  have RZ := hid (R1.out.low bZ)
  have OZ := hid (O1.out.on bZ)
  have BZ := hid (belowT BL1.out bZ)
  have rbZ : Hid ((X.alloc (.cells #[.int .i64 ((st ka).n : Int), .slice ab (st ka).ms.length cb] 30)).drew.heap[X.heap.size]? = some (.cells #[.int .i64 ((st ka).n : Int), .slice ab (st ka).ms.length cb] 30)) := hid (heap_alloc_new X _)
  clear o1 q1 b0 b1 b2 b3 d0 d1 d2 d3 bZ BL1 R1 O1 ea eb
  generalize (X.alloc _).drew = Z at *
  generalize X.heap.size = rb at *
  have p0 := OZ.out.o0
  have q4 := OZ.out.o4
  have r0 : Z.cell? ⟨rb, 0, none⟩ = some (.int .i64 ((st ka).n : Int)) := by rw [cell_of_row _ _ 0 _ _ _ rbZ.out]; rfl
  have r1 : Z.cell? ⟨rb, 1, none⟩ = some (.slice ab (st ka).ms.length cb) := by rw [cell_of_row _ _ 1 _ _ _ rbZ.out]; rfl
  have rbl := lt_of_block rbZ.out
  have K1 := hid (OK.out ka ha)
  have RDZ := hid (fun V (hV : Below Z.heap.size Z V) => (own_rd (by rw [← BB.out]; exact own_low (RZ.out.ow ka ha) hV) : Rd V ab (st ka).ms))
  have SOZ := hid (fun V (hV : Below Z.heap.size Z V) => (RZ.out.so ka ha).low hV)
  have TBZ := hid (fun V (hV : Below Z.heap.size Z V) => (RZ.out.low hV).tab)
  have LEN := hid (K1.out.is.len)
  have OWZ := hid (fun V (hV : Below Z.heap.size Z V) => (show OwnI V 0 (.slice ab (st ka).ms.length cb) (st ka).ms by rw [← BB.out]; exact own_low (RZ.out.ow ka ha) hV))
  generalize hst : st ka = x at *
  clear hst
  have CT := hid (fun V (hV : Below Z.heap.size Z V) => (count_o V (SOZ.out V hV)))
  rw [← LEN.out] at CT
  have SZ := hid (fun V (hV : Below Z.heap.size Z V) => (size_o V (SOZ.out V hV)))
  go_wp2_with fail
  refine wp_region_quiet_lit (by kernel_rfl) (by kernel_rfl) ?_
  refine q_start (fun R hR => ?_)
  iterate 14 (
    refine q_yes hR (by kernel_rfl) (fun K R' hR' hK => ?_)
    clear hR
    go_simp
    first
      | (refine hK _ ?_; clear hK; have hR := hR'; clear hR')
      | (apply Exists.intro
         refine ⟨fun _ => ?_, hK _ ?_⟩
         (first
          | (go_at_call 26; exact Calls.quiet_of_same (SZ.out _ (belowDrewN _)))
          | (go_at_call 23; exact Calls.quiet_of_same (CT.out _ (belowDrewN _)))
         )
         clear hK; have hR := hR'; clear hR')
    )
  refine q_nil hR ?_
  clear hR
  intro _ hw'
  obtain ⟨nq, hw''⟩ := hw'
  subst hw''
  go_wp2_with fail
  go_ret
  exact ⟨rfl, belowT BZ.out (belowDrewN _)⟩
end Go.Proofs.YtkagdmhijjfnnaaDoor
namespace Go.Proofs.YtkagdmhijjfnnaaDoor
open Go.RowKit Bs
set_option linter.unusedVariables false
set_option maxRecDepth 100000 in
set_option maxHeartbeats 8000000 in
theorem ask_has (oa ob oc oi : Int) (vL vW : Value) (w0 W : World) (B : Nat) (st : Nat → RSt) (h : Rg w0 W B st) (ok : Ok st) :
    Calls Tryd.prog 51 #[.pointer (some ⟨B, 0, none⟩), .agg #[.int .i64 18, .int .i64 oa, .int .i64 ob, .int .i64 oc, .int .i64 oi, vL, vW]] W fun e w' => e = .returned (.bool true) ∧ Below W.heap.size W w' := by
  obtain ⟨ka, ha, ea⟩ := reg_of oa
  obtain ⟨kb, hb, eb⟩ := reg_of ob
  have BL1 := hid (lowAlloc W (.cells #[.int .i64 18, .int .i64 oa, .int .i64 ob, .int .i64 oc, .int .i64 oi, vL, vW] 37))
  have O1 := hid (Ob.new W 18 oa ob oc oi vL vW)
  have R1 := hid (h.low BL1.out)
  have OK := hid ok
  obtain ⟨ab, cb, eqb, _⟩ := own_shape (h.ow ka ha)
  have BB := hid eqb
  clear h ok eqb
  have o1 := O1.out.o1
  have hia : (ka : Int) < 4 := by omega
  have hib : (kb : Int) < 4 := by omega
  obtain ⟨b0, b1, b2, b3⟩ := R1.out.cells ha
  rw [BB.out] at b2
  rw [(OK.out ka ha).rn] at b1
  go_enter Tryd.func51, Tryd.ntmps51
  go_wp2_with fail
  generalize W.alloc _ = X at *
  have q1 := (O1.out.on (lowAlloc X (.cells #[.int .i64 0, .slice none 0 0] 30))).o1
  obtain ⟨d0, d1, d2, d3⟩ := (R1.out.low (lowAlloc X (.cells #[.int .i64 0, .slice none 0 0] 30))).cells ha
  rw [BB.out] at d2
  rw [(OK.out ka ha).rn] at d1
  go_region
  have bZ := belowT (lowAlloc X (.cells #[.int .i64 ((st ka).n : Int), .slice ab (st ka).ms.length cb] 30)) (belowDr _)
  have RZ := hid (R1.out.low bZ)
  have OZ := hid (O1.out.on bZ)
  have BZ := hid (belowT BL1.out bZ)
  have rbZ : Hid ((X.alloc (.cells #[.int .i64 ((st ka).n : Int), .slice ab (st ka).ms.length cb] 30)).drew.heap[X.heap.size]? = some (.cells #[.int .i64 ((st ka).n : Int), .slice ab (st ka).ms.length cb] 30)) := hid (heap_alloc_new X _)
  clear o1 q1 b0 b1 b2 b3 d0 d1 d2 d3 bZ BL1 R1 O1 ea eb
  generalize (X.alloc _).drew = Z at *
  generalize X.heap.size = rb at *
  have p0 := OZ.out.o0
  have q4 := OZ.out.o4
  have r0 : Z.cell? ⟨rb, 0, none⟩ = some (.int .i64 ((st ka).n : Int)) := by rw [cell_of_row _ _ 0 _ _ _ rbZ.out]; rfl
  have r1 : Z.cell? ⟨rb, 1, none⟩ = some (.slice ab (st ka).ms.length cb) := by rw [cell_of_row _ _ 1 _ _ _ rbZ.out]; rfl
  have rbl := lt_of_block rbZ.out
  have K1 := hid (OK.out ka ha)
  have RDZ := hid (fun V (hV : Below Z.heap.size Z V) => (own_rd (by rw [← BB.out]; exact own_low (RZ.out.ow ka ha) hV) : Rd V ab (st ka).ms))
  have SOZ := hid (fun V (hV : Below Z.heap.size Z V) => (RZ.out.so ka ha).low hV)
  have TBZ := hid (fun V (hV : Below Z.heap.size Z V) => (RZ.out.low hV).tab)
  have LEN := hid (K1.out.is.len)
  have OWZ := hid (fun V (hV : Below Z.heap.size Z V) => (show OwnI V 0 (.slice ab (st ka).ms.length cb) (st ka).ms by rw [← BB.out]; exact own_low (RZ.out.ow ka ha) hV))
  generalize hst : st ka = x at *
  clear hst
  go_wp2_with fail
  go_region_held3 (fun Y => Y.cell? ⟨rb, 0, none⟩ = some (.int .i64 (x.n : Int)) ∧ Y.cell? ⟨rb, 1, none⟩ = some (.slice ab x.ms.length cb) ∧ Y.cell? ⟨W.heap.size, 4, none⟩ = some (.int .i64 oi))
    (first | exact ⟨r0, r1, q4⟩ | exact T2 | exact T3 | go_keep)
    (first
      | (go_at_call 30; refine (has_o oi _ (SOZ.out _ (belowDr Z)) (decide (oi ∈ x.ms)) (by rw [decide_eq_true_iff]; exact has_in K1.out.is K1.out.bd oi)).mono ?_; rintro e w2 ⟨rfl, k9, hww⟩
         have L2 := hid (belowT (belowDr Z) (show Below Z.drew.heap.size Z.drew w2 from by rw [hww]; exact belowDrewN k9))
         clear hww
         have T2 := And.intro ((L2.out.cell (p := ⟨rb, 0, none⟩) rbl).trans r0) (And.intro ((L2.out.cell (p := ⟨rb, 1, none⟩) rbl).trans r1) ((L2.out.cell (p := ⟨W.heap.size, 4, none⟩) OZ.out.lt).trans q4)))
      | (go_at_call 82; refine (dhas x.n ab cb x.ms oi _ (RDZ.out _ L2.out) K1.out.up K1.out.len).mono ?_; rintro e w3 ⟨rfl, hb3⟩
         have L3 := hid (belowT L2.out hb3)
         have T3 := And.intro ((L3.out.cell (p := ⟨rb, 0, none⟩) rbl).trans r0) (And.intro ((L3.out.cell (p := ⟨rb, 1, none⟩) rbl).trans r1) ((L3.out.cell (p := ⟨W.heap.size, 4, none⟩) OZ.out.lt).trans q4))
         clear hb3))
  go_wp2_with fail
  go_ret
  exact ⟨rfl, belowT BZ.out L3.out⟩
end Go.Proofs.YtkagdmhijjfnnaaDoor
namespace Go.Proofs.YtkagdmhijjfnnaaDoor
open Go.RowKit Bs
set_option linter.unusedVariables false
set_option maxRecDepth 100000 in
set_option maxHeartbeats 8000000 in
theorem ask_next (oa ob oc oi : Int) (vL vW : Value) (w0 W : World) (B : Nat) (st : Nat → RSt) (h : Rg w0 W B st) (ok : Ok st) :
    Calls Tryd.prog 51 #[.pointer (some ⟨B, 0, none⟩), .agg #[.int .i64 19, .int .i64 oa, .int .i64 ob, .int .i64 oc, .int .i64 oi, vL, vW]] W fun e w' => e = .returned (.bool true) ∧ Below W.heap.size W w' := by
  obtain ⟨ka, ha, ea⟩ := reg_of oa
  obtain ⟨kb, hb, eb⟩ := reg_of ob
  have BL1 := hid (lowAlloc W (.cells #[.int .i64 19, .int .i64 oa, .int .i64 ob, .int .i64 oc, .int .i64 oi, vL, vW] 37))
  have O1 := hid (Ob.new W 19 oa ob oc oi vL vW)
  have R1 := hid (h.low BL1.out)
  have OK := hid ok
  obtain ⟨ab, cb, eqb, _⟩ := own_shape (h.ow ka ha)
  have BB := hid eqb
  clear h ok eqb
  have o1 := O1.out.o1
  have hia : (ka : Int) < 4 := by omega
  have hib : (kb : Int) < 4 := by omega
  obtain ⟨b0, b1, b2, b3⟩ := R1.out.cells ha
  rw [BB.out] at b2
  rw [(OK.out ka ha).rn] at b1
  go_enter Tryd.func51, Tryd.ntmps51
  go_wp2_with fail
  generalize W.alloc _ = X at *
  have q1 := (O1.out.on (lowAlloc X (.cells #[.int .i64 0, .slice none 0 0] 30))).o1
  obtain ⟨d0, d1, d2, d3⟩ := (R1.out.low (lowAlloc X (.cells #[.int .i64 0, .slice none 0 0] 30))).cells ha
  rw [BB.out] at d2
  rw [(OK.out ka ha).rn] at d1
  go_region
  have bZ := belowT (lowAlloc X (.cells #[.int .i64 ((st ka).n : Int), .slice ab (st ka).ms.length cb] 30)) (belowDr _)
  have RZ := hid (R1.out.low bZ)
  have OZ := hid (O1.out.on bZ)
  have BZ := hid (belowT BL1.out bZ)
  have rbZ : Hid ((X.alloc (.cells #[.int .i64 ((st ka).n : Int), .slice ab (st ka).ms.length cb] 30)).drew.heap[X.heap.size]? = some (.cells #[.int .i64 ((st ka).n : Int), .slice ab (st ka).ms.length cb] 30)) := hid (heap_alloc_new X _)
  clear o1 q1 b0 b1 b2 b3 d0 d1 d2 d3 bZ BL1 R1 O1 ea eb
  generalize (X.alloc _).drew = Z at *
  generalize X.heap.size = rb at *
  have p0 := OZ.out.o0
  have q4 := OZ.out.o4
  have r0 : Z.cell? ⟨rb, 0, none⟩ = some (.int .i64 ((st ka).n : Int)) := by rw [cell_of_row _ _ 0 _ _ _ rbZ.out]; rfl
  have r1 : Z.cell? ⟨rb, 1, none⟩ = some (.slice ab (st ka).ms.length cb) := by rw [cell_of_row _ _ 1 _ _ _ rbZ.out]; rfl
  have rbl := lt_of_block rbZ.out
  have K1 := hid (OK.out ka ha)
  have RDZ := hid (fun V (hV : Below Z.heap.size Z V) => (own_rd (by rw [← BB.out]; exact own_low (RZ.out.ow ka ha) hV) : Rd V ab (st ka).ms))
  have SOZ := hid (fun V (hV : Below Z.heap.size Z V) => (RZ.out.so ka ha).low hV)
  have TBZ := hid (fun V (hV : Below Z.heap.size Z V) => (RZ.out.low hV).tab)
  have LEN := hid (K1.out.is.len)
  have OWZ := hid (fun V (hV : Below Z.heap.size Z V) => (show OwnI V 0 (.slice ab (st ka).ms.length cb) (st ka).ms by rw [← BB.out]; exact own_low (RZ.out.ow ka ha) hV))
  generalize hst : st ka = x at *
  clear hst
  obtain ⟨r9, hr9⟩ : ∃ r, r = (if bel x.ms oi < x.ms.length then x.ms.getD (bel x.ms oi) 0 else -1) := ⟨_, rfl⟩
  have NX := hid (show IsNext x.n x.S oi r9 by rw [hr9]; exact next_is K1.out.is K1.out.bd oi)
  have DN := hid (fun V (hV : Below Z.heap.size Z V) => dnext x.n ab cb x.ms oi V (RDZ.out _ hV) K1.out.up K1.out.len)
  rw [← hr9] at DN
  clear hr9
  go_wp2_with fail
  go_region_held3 (fun Y => Y.cell? ⟨rb, 0, none⟩ = some (.int .i64 (x.n : Int)) ∧ Y.cell? ⟨rb, 1, none⟩ = some (.slice ab x.ms.length cb) ∧ Y.cell? ⟨W.heap.size, 4, none⟩ = some (.int .i64 oi))
    (first | exact ⟨r0, r1, q4⟩ | exact T2 | exact T3 | go_keep)
    (first
      | (go_at_call 31; refine (next_o oi r9 _ (SOZ.out _ (belowDr Z)) (TBZ.out _ (belowDr Z)) NX.out).mono ?_; rintro e w2 ⟨rfl, k9, hww⟩
         have L2 := hid (belowT (belowDr Z) (show Below Z.drew.heap.size Z.drew w2 from by rw [hww]; exact belowDrewN k9))
         clear hww
         have T2 := And.intro ((L2.out.cell (p := ⟨rb, 0, none⟩) rbl).trans r0) (And.intro ((L2.out.cell (p := ⟨rb, 1, none⟩) rbl).trans r1) ((L2.out.cell (p := ⟨W.heap.size, 4, none⟩) OZ.out.lt).trans q4)))
      | (go_at_call 83; refine (DN.out _ L2.out).mono ?_; rintro e w3 ⟨rfl, hb3⟩
         have L3 := hid (belowT L2.out hb3)
         have T3 := And.intro ((L3.out.cell (p := ⟨rb, 0, none⟩) rbl).trans r0) (And.intro ((L3.out.cell (p := ⟨rb, 1, none⟩) rbl).trans r1) ((L3.out.cell (p := ⟨W.heap.size, 4, none⟩) OZ.out.lt).trans q4))
         clear hb3))
  go_wp2_with fail
  go_ret
  exact ⟨rfl, belowT BZ.out L3.out⟩
end Go.Proofs.YtkagdmhijjfnnaaDoor
