import Derived.Test.YtkagdmhijjfnnaaDoorMgBI
import Derived.Test.YtkagdmhijjfnnaaDoorMgAO
namespace Go.Proofs.YtkagdmhijjfnnaaDoor
open Go.RowKit Bs
set_option linter.unusedVariables false
set_option maxRecDepth 100000 in
set_option maxHeartbeats 8000000 in
theorem ask_bits (oa ob oc oi : Int) (vL vW : Value) (w0 W : World) (B : Nat) (st : Nat → RSt) (h : Rg w0 W B st) (ok : Ok st) :
    Calls Tryd.prog 51 #[.pointer (some ⟨B, 0, none⟩), .agg #[.int .i64 24, .int .i64 oa, .int .i64 ob, .int .i64 oc, .int .i64 oi, vL, vW]] W fun e w' => e = .returned (.bool true) ∧ Below W.heap.size W w' := by
  obtain ⟨ka, ha, ea⟩ := reg_of oa
  obtain ⟨kb, hb, eb⟩ := reg_of ob
  have BL1 := hid (lowAlloc W (.cells #[.int .i64 24, .int .i64 oa, .int .i64 ob, .int .i64 oc, .int .i64 oi, vL, vW] 37))
  have O1 := hid (Ob.new W 24 oa ob oc oi vL vW)
  have R1 := hid (h.low BL1.out)
  have OK := hid ok
  obtain ⟨ab, cb, eqb, _⟩ := own_shape (h.ow ka ha)
  have BB := hid eqb
  clear h ok eqb
  have o1 := O1.out.o1
  have hia : (ka : Int) < 4 := by omega
  have hib : (kb : Int) < 4 := by omega
  obtain ⟨b0, b1, b2, b3⟩ := R1.out.cells ha
  rw [BB.out] at b2
  rw [(OK.out ka ha).rn] at b1
  go_enter Tryd.func51, Tryd.ntmps51
  go_wp2_with fail
  generalize W.alloc _ = X at *
  have q1 := (O1.out.on (lowAlloc X (.cells #[.int .i64 0, .slice none 0 0] 30))).o1
  obtain ⟨d0, d1, d2, d3⟩ := (R1.out.low (lowAlloc X (.cells #[.int .i64 0, .slice none 0 0] 30))).cells ha
  rw [BB.out] at d2
  rw [(OK.out ka ha).rn] at d1
  go_region
  have bZ := belowT (lowAlloc X (.cells #[.int .i64 ((st ka).n : Int), .slice ab (st ka).ms.length cb] 30)) (belowDr _)
  have RZ := hid (R1.out.low bZ)
  have OZ := hid (O1.out.on bZ)
  have BZ := hid (belowT BL1.out bZ)
  have rbZ : Hid ((X.alloc (.cells #[.int .i64 ((st ka).n : Int), .slice ab (st ka).ms.length cb] 30)).drew.heap[X.heap.size]? = some (.cells #[.int .i64 ((st ka).n : Int), .slice ab (st ka).ms.length cb] 30)) := hid (heap_alloc_new X _)
  clear o1 q1 b0 b1 b2 b3 d0 d1 d2 d3 bZ BL1 R1 O1 ea eb
  generalize (X.alloc _).drew = Z at *
  generalize X.heap.size = rb at *
  have p0 := OZ.out.o0
  have q4 := OZ.out.o4
  have r0 : Z.cell? ⟨rb, 0, none⟩ = some (.int .i64 ((st ka).n : Int)) := by rw [cell_of_row _ _ 0 _ _ _ rbZ.out]; rfl
  have r1 : Z.cell? ⟨rb, 1, none⟩ = some (.slice ab (st ka).ms.length cb) := by rw [cell_of_row _ _ 1 _ _ _ rbZ.out]; rfl
  have rbl := lt_of_block rbZ.out
  have K1 := hid (OK.out ka ha)
  have RDZ := hid (fun V (hV : Below Z.heap.size Z V) => (own_rd (by rw [← BB.out]; exact own_low (RZ.out.ow ka ha) hV) : Rd V ab (st ka).ms))
  have SOZ := hid (fun V (hV : Below Z.heap.size Z V) => (RZ.out.so ka ha).low hV)
  have TBZ := hid (fun V (hV : Below Z.heap.size Z V) => (RZ.out.low hV).tab)
  have LEN := hid (K1.out.is.len)
  have OWZ := hid (fun V (hV : Below Z.heap.size Z V) => (show OwnI V 0 (.slice ab (st ka).ms.length cb) (st ka).ms by rw [← BB.out]; exact own_low (RZ.out.ow ka ha) hV))
  generalize hst : st ka = x at *
  clear hst
  go_wp2_with fail
  go_region_held3 (fun Y => Y.cell? ⟨rb, 0, none⟩ = some (.int .i64 (x.n : Int)) ∧ Y.cell? ⟨rb, 1, none⟩ = some (.slice ab x.ms.length cb))
    (first | exact ⟨r0, r1⟩ | exact T2 | exact T3 | exact T4 | go_keep)
    (first
      | (go_at_call 35; refine (words_o _ (SOZ.out _ (belowDr Z))).mono ?_; rintro e w2 ⟨g9, c9, us, rfl, rw9, hl9, wd9, hu9, hb9⟩
         have L2 := hid (belowT (belowDr Z) hb9)
         have RW9 := hid rw9
         have HL9 := hid hl9
         have WD9 := hid wd9
         have HU9 := hid hu9
         have T2 := And.intro ((L2.out.cell (p := ⟨rb, 0, none⟩) rbl).trans r0) ((L2.out.cell (p := ⟨rb, 1, none⟩) rbl).trans r1)
         clear hb9 rw9 hl9 wd9 hu9)
      | (go_at_call 89; refine (dwords_two x.n ab cb x.ms x.S us _ K1.out.n (RDZ.out _ L2.out) K1.out.is K1.out.bd K1.out.len HL9.out WD9.out HU9.out).mono ?_; rintro e w3 ⟨g8, rfl, rw8, hb8⟩
         have L3 := hid (belowT L2.out hb8)
         have RW8 := hid rw8
         have RW7 := hid (RW9.out.low hb8 (Nat.le_refl _))
         have T3 := And.intro ((L3.out.cell (p := ⟨rb, 0, none⟩) rbl).trans r0) ((L3.out.cell (p := ⟨rb, 1, none⟩) rbl).trans r1)
         clear hb8 rw8)
      | (go_at_call 88; refine (samew_yes _ _ _ _ us _ (by have h1 := HL9.out; have h2 := K1.out.n; unfold nw at h1; omega) RW7.out RW8.out).mono ?_; rintro e w4 ⟨rfl, k9, hww⟩
         have L4 := hid (belowT L3.out (show Below w3.heap.size w3 w4 from by rw [hww]; exact belowDrewN k9))
         have T4 := And.intro ((L4.out.cell (p := ⟨rb, 0, none⟩) rbl).trans r0) ((L4.out.cell (p := ⟨rb, 1, none⟩) rbl).trans r1)
         clear hww))
  go_wp2_with fail
  go_ret
  exact ⟨rfl, belowT BZ.out L4.out⟩
end Go.Proofs.YtkagdmhijjfnnaaDoor
namespace Go.Proofs.YtkagdmhijjfnnaaDoor
open Go.RowKit Bs
set_option linter.unusedVariables false
set_option maxRecDepth 100000 in
set_option maxHeartbeats 8000000 in
theorem ask_all (oa ob oc oi : Int) (vL vW : Value) (w0 W : World) (B : Nat) (st : Nat → RSt) (h : Rg w0 W B st) (ok : Ok st) :
    Calls Tryd.prog 51 #[.pointer (some ⟨B, 0, none⟩), .agg #[.int .i64 25, .int .i64 oa, .int .i64 ob, .int .i64 oc, .int .i64 oi, vL, vW]] W fun e w' => e = .returned (.bool true) ∧ Below W.heap.size W w' := by
  obtain ⟨ka, ha, ea⟩ := reg_of oa
  obtain ⟨kb, hb, eb⟩ := reg_of ob
  have BL1 := hid (lowAlloc W (.cells #[.int .i64 25, .int .i64 oa, .int .i64 ob, .int .i64 oc, .int .i64 oi, vL, vW] 37))
  have O1 := hid (Ob.new W 25 oa ob oc oi vL vW)
  have R1 := hid (h.low BL1.out)
  have OK := hid ok
  obtain ⟨ab, cb, eqb, _⟩ := own_shape (h.ow ka ha)
  have BB := hid eqb
  clear h ok eqb
  have o1 := O1.out.o1
  have hia : (ka : Int) < 4 := by omega
  have hib : (kb : Int) < 4 := by omega
  obtain ⟨b0, b1, b2, b3⟩ := R1.out.cells ha
  rw [BB.out] at b2
  rw [(OK.out ka ha).rn] at b1
  go_enter Tryd.func51, Tryd.ntmps51
  go_wp2_with fail
  generalize W.alloc _ = X at *
  have q1 := (O1.out.on (lowAlloc X (.cells #[.int .i64 0, .slice none 0 0] 30))).o1
  obtain ⟨d0, d1, d2, d3⟩ := (R1.out.low (lowAlloc X (.cells #[.int .i64 0, .slice none 0 0] 30))).cells ha
  rw [BB.out] at d2
  rw [(OK.out ka ha).rn] at d1
  go_region
  have bZ := belowT (lowAlloc X (.cells #[.int .i64 ((st ka).n : Int), .slice ab (st ka).ms.length cb] 30)) (belowDr _)
  have RZ := hid (R1.out.low bZ)
  have OZ := hid (O1.out.on bZ)
  have BZ := hid (belowT BL1.out bZ)
  have rbZ : Hid ((X.alloc (.cells #[.int .i64 ((st ka).n : Int), .slice ab (st ka).ms.length cb] 30)).drew.heap[X.heap.size]? = some (.cells #[.int .i64 ((st ka).n : Int), .slice ab (st ka).ms.length cb] 30)) := hid (heap_alloc_new X _)
  clear o1 q1 b0 b1 b2 b3 d0 d1 d2 d3 bZ BL1 R1 O1 ea eb
  generalize (X.alloc _).drew = Z at *
  generalize X.heap.size = rb at *
  have p0 := OZ.out.o0
  have q4 := OZ.out.o4
  have r0 : Z.cell? ⟨rb, 0, none⟩ = some (.int .i64 ((st ka).n : Int)) := by rw [cell_of_row _ _ 0 _ _ _ rbZ.out]; rfl
  have r1 : Z.cell? ⟨rb, 1, none⟩ = some (.slice ab (st ka).ms.length cb) := by rw [cell_of_row _ _ 1 _ _ _ rbZ.out]; rfl
  have rbl := lt_of_block rbZ.out
  have K1 := hid (OK.out ka ha)
  have RDZ := hid (fun V (hV : Below Z.heap.size Z V) => (own_rd (by rw [← BB.out]; exact own_low (RZ.out.ow ka ha) hV) : Rd V ab (st ka).ms))
  have SOZ := hid (fun V (hV : Below Z.heap.size Z V) => (RZ.out.so ka ha).low hV)
  have TBZ := hid (fun V (hV : Below Z.heap.size Z V) => (RZ.out.low hV).tab)
  have LEN := hid (K1.out.is.len)
  have OWZ := hid (fun V (hV : Below Z.heap.size Z V) => (show OwnI V 0 (.slice ab (st ka).ms.length cb) (st ka).ms by rw [← BB.out]; exact own_low (RZ.out.ow ka ha) hV))
  generalize hst : st ka = x at *
  clear hst
  go_wp2_with fail
  go_region_held3 (fun Y => Y.cell? ⟨rb, 0, none⟩ = some (.int .i64 (x.n : Int)) ∧ Y.cell? ⟨rb, 1, none⟩ = some (.slice ab x.ms.length cb))
    (first | exact ⟨r0, r1⟩ | exact T2 | exact T3 | exact T4 | go_keep)
    (first
      | (go_at_call 90; refine (walk_o x.ms _ (SOZ.out _ (belowDr Z)) (TBZ.out _ (belowDr Z)) K1.out.is K1.out.len).mono ?_; rintro e w2 ⟨v9, rfl, ho9, hb9⟩
         have L2 := hid (belowT (belowDr Z) hb9)
         have HL9 := hid (hl_own ho9)
         have T2 := And.intro ((L2.out.cell (p := ⟨rb, 0, none⟩) rbl).trans r0) ((L2.out.cell (p := ⟨rb, 1, none⟩) rbl).trans r1)
         clear hb9 ho9)
      | (go_at_call 87; refine (same_yes _ 0 v9 _ x.ms _ K1.out.len HL9.out (hl_own (OWZ.out _ L2.out))).mono ?_; rintro e w3 ⟨rfl, k9, hww⟩
         have L3 := hid (belowT L2.out (show Below w2.heap.size w2 w3 from by rw [hww]; exact belowDrewN k9))
         have T3 := And.intro ((L3.out.cell (p := ⟨rb, 0, none⟩) rbl).trans r0) ((L3.out.cell (p := ⟨rb, 1, none⟩) rbl).trans r1)
         clear hww))
  go_wp2_with fail
  go_ret
  exact ⟨rfl, belowT BZ.out L3.out⟩
end Go.Proofs.YtkagdmhijjfnnaaDoor
