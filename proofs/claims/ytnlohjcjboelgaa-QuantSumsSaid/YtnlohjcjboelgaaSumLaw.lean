import Derived.Test.YtnlohjcjboelgaaSumU
import Derived.Deep.RegionHeld3
namespace Go.Proofs.Ytnlohjcjboelgaa.L
open Go.RowKit
set_option linter.unusedVariables false
theorem five_new (w : World) (p q x y z : Value) (t : TypeId) : (w.alloc (.cells #[p, q, x, y, z] t)).cell? ⟨w.heap.size, 2, none⟩ = some x ∧ (w.alloc (.cells #[p, q, x, y, z] t)).cell? ⟨w.heap.size, 3, none⟩ = some y ∧ (w.alloc (.cells #[p, q, x, y, z] t)).cell? ⟨w.heap.size, 4, none⟩ = some z := by
  have h : (w.alloc (.cells #[p, q, x, y, z] t)).heap[w.heap.size]? = some (.cells #[p, q, x, y, z] t) := by
    show (w.heap.push _)[w.heap.size]? = _
    simp
  unfold World.cell?
  rw [h]
  exact ⟨rfl, rfl, rfl⟩
theorem five_low {W W' : World} {b : Nat} {x y z : Value} (h : W.cell? ⟨b, 2, none⟩ = some x ∧ W.cell? ⟨b, 3, none⟩ = some y ∧ W.cell? ⟨b, 4, none⟩ = some z) (hb : Below W.heap.size W W') (hl : b < W.heap.size) : W'.cell? ⟨b, 2, none⟩ = some x ∧ W'.cell? ⟨b, 3, none⟩ = some y ∧ W'.cell? ⟨b, 4, none⟩ = some z := by
  rw [hb.cell (p := ⟨b, 2, none⟩) hl, hb.cell (p := ⟨b, 3, none⟩) hl, hb.cell (p := ⟨b, 4, none⟩) hl]
  exact h
theorem Below.drew_left {B : Nat} {W W' : World} (h : Below B W.drew W') : Below B W W' := (Below.refl B W).drew.trans h
set_option maxHeartbeats 4000000 in
set_option maxRecDepth 100000 in
theorem sums_add (s : ByteArray) (vA vB vC : Value) (l c : List It) (w : World) (m1 : Came w vA l) (m2 : Came w vB c) (g1 : Good l) (g2 : Good c) :
    Calls Try.prog 6 #[.agg #[.int .i64 7, .string s, vA, vB, vC]] w fun e w' => e = .returned (.bool true) ∧ Below w.heap.size w w' := by
  obtain ⟨R, S, er, hR, f1, f2⟩ := add_uni l c g1 g2
  have F1 := hid f1
  have F2 := hid f2
  have M1 := hid m1
  have M2 := hid m2
  have CO := hid (fun W v x (h : Came W v x) (g : Good x) => copied_any v x W h g)
  have CS := hid (fun W v x (h : Came W v x) (g : Good x) => cop_any v x W h g)
  have G1 := hid g1
  have G2 := hid g2
  have HR := hid hR
  clear f1 f2 m1 m2 g1 g2 hR
  go_enter Try.func6, Try.ntmps6
  go_wp2_with fail
  have B0 := hid (show Below w.heap.size w (w.alloc (.cells #[.int .i64 7, .string s, vA, vB, vC] 26)) from belowA _ _)
  have Z0 := hid (show w.heap.size < (w.alloc (.cells #[.int .i64 7, .string s, vA, vB, vC] 26)).heap.size by simp)
  have C0 := hid (five_new w (.int .i64 7) (.string s) vA vB vC 26)
  generalize w.alloc (.cells #[.int .i64 7, .string s, vA, vB, vC] 26) = W0 at *
  have T0 : W0.drew.cell? ⟨w.heap.size, 2, none⟩ = some vA ∧ W0.drew.cell? ⟨w.heap.size, 3, none⟩ = some vB ∧ W0.drew.cell? ⟨w.heap.size, 4, none⟩ = some vC := C0.out
  go_region_held3 (fun W => W.cell? ⟨w.heap.size, 2, none⟩ = some vA ∧ W.cell? ⟨w.heap.size, 3, none⟩ = some vB ∧ W.cell? ⟨w.heap.size, 4, none⟩ = some vC)
    (first | exact T0 | exact T1 | exact T2 | exact T3)
    (first
      | (go_at_call_of 13 vA; refine (CO.out _ _ l ?_ G1.out).mono ?_; exact M1.out.low B0.out.drew; rintro e w1 ⟨x1, rfl, hi1, hb1⟩; have T1 := five_low T0 hb1 Z0.out; have X1 := hid hi1; have D1 := hid hb1; clear hi1 hb1; have B1 := hid (B0.out.drew.trans (D1.out.mono B0.out.size)); have Z1 := hid (Nat.lt_of_lt_of_le Z0.out D1.out.size))
      | (go_at_call_of 13 vB; refine (CO.out _ _ c ?_ G2.out).mono ?_; exact M2.out.low B1.out; rintro e w2 ⟨x2, rfl, hi2, hb2⟩; have T2 := five_low T1 hb2 Z1.out; have Y1 := hid (X1.out.low hb2); have Y2 := hid hi2; have D2 := hid hb2; clear hi2 hb2; have B2 := hid (B1.out.trans (D2.out.mono B1.out.size)); have Z2 := hid (Nat.lt_of_lt_of_le Z1.out D2.out.size))
      | (go_at_call 12; refine (F2.out _ _ _ Y1.out Y2.out).mono ?_; rintro e w3 ⟨vr, sr, rfl, hsr, hit, hb3⟩; have T3 := five_low T2 hb3 Z2.out; have IR := hid hit; have D3 := hid hb3; clear hit hb3; have B3 := hid (B2.out.trans (D3.out.mono B2.out.size)); have Z3 := hid (Nat.lt_of_lt_of_le Z2.out D3.out.size)))
  have C3 := hid T3
  clear T0 T1 T2 T3 X1 Y1 Y2 D1 D2 D3 B1 B2 Z1 Z2 C0 B0 Z0
  go_wp2_with fail
  have T0 : w3.drew.cell? ⟨w.heap.size, 2, none⟩ = some vA ∧ w3.drew.cell? ⟨w.heap.size, 3, none⟩ = some vB ∧ w3.drew.cell? ⟨w.heap.size, 4, none⟩ = some vC := C3.out
  go_region_held3 (fun W => W.cell? ⟨w.heap.size, 2, none⟩ = some vA ∧ W.cell? ⟨w.heap.size, 3, none⟩ = some vB ∧ W.cell? ⟨w.heap.size, 4, none⟩ = some vC)
    (first | exact T0 | exact T1 | exact T2 | exact T3)
    (first
      | (go_at_call_of 13 vA; refine (CS.out _ _ l ?_ G1.out).mono ?_; exact M1.out.low B3.out.drew; rintro e w4 ⟨x1, rfl, hi1, hb1⟩; have T1 := five_low T0 hb1 Z3.out; have X1 := hid hi1; have IR1 := hid (IR.out.low (Below.drew_left hb1)); have D1 := hid hb1; clear hi1 hb1; have B1 := hid (B3.out.drew.trans (D1.out.mono B3.out.size)); have Z1 := hid (Nat.lt_of_lt_of_le Z3.out D1.out.size))
      | (go_at_call_of 13 vB; refine (CS.out _ _ c ?_ G2.out).mono ?_; exact M2.out.low B1.out; rintro e w5 ⟨x2, rfl, hi2, hb2⟩; have T2 := five_low T1 hb2 Z1.out; have Y1 := hid (X1.out.low hb2); have IR2 := hid (IR1.out.low hb2); have Y2 := hid hi2; have D2 := hid hb2; clear hi2 hb2; have B2 := hid (B1.out.trans (D2.out.mono B1.out.size)); have Z2 := hid (Nat.lt_of_lt_of_le Z1.out D2.out.size))
      | (go_at_call 10; refine (F1.out _ _ _ Y1.out Y2.out).mono ?_; rintro e w6 ⟨vi, si, rfl, hsi, hit, hb3⟩; have T3 := five_low T2 hb3 Z2.out; have II := hid hit; have IR3 := hid (IR2.out.low hb3); have D3 := hid hb3; clear hit hb3; have B6 := hid (B2.out.trans (D3.out.mono B2.out.size))))
  clear T0 T1 T2 T3 X1 Y1 Y2 D1 D2 D3 B1 B2 Z1 Z2 C3 B3 Z3 IR IR1 IR2 F1 F2 CO CS
  go_wp2_with fail
  refine (same_yes vi vr R R w6 II.out IR3.out HR.out rfl (fun _ _ => ⟨rfl, rfl⟩)).mono ?_
  rintro e w7 ⟨rfl, hb7⟩
  have B7 := hid (B6.out.trans (hb7.mono B6.out.size))
  clear hb7 B6 II IR3
  go_wp2_with fail
  go_ret
  exact ⟨rfl, B7.out⟩
set_option maxHeartbeats 4000000 in
set_option maxRecDepth 100000 in
theorem sums_sub (s : ByteArray) (vA vB vC : Value) (l c : List It) (w : World) (m1 : Came w vA l) (m2 : Came w vB c) (g1 : Good l) (g2 : Good c) :
    Calls Try.prog 6 #[.agg #[.int .i64 8, .string s, vA, vB, vC]] w fun e w' => e = .returned (.bool true) ∧ Below w.heap.size w w' := by
  obtain ⟨R, S, er, hR, f1, f2⟩ := sub_uni l c g1 g2
  have F1 := hid f1
  have F2 := hid f2
  have M1 := hid m1
  have M2 := hid m2
  have CO := hid (fun W v x (h : Came W v x) (g : Good x) => copied_any v x W h g)
  have CS := hid (fun W v x (h : Came W v x) (g : Good x) => cop_any v x W h g)
  have G1 := hid g1
  have G2 := hid g2
  have HR := hid hR
  clear f1 f2 m1 m2 g1 g2 hR
  go_enter Try.func6, Try.ntmps6
  go_wp2_with fail
  have B0 := hid (show Below w.heap.size w (w.alloc (.cells #[.int .i64 8, .string s, vA, vB, vC] 26)) from belowA _ _)
  have Z0 := hid (show w.heap.size < (w.alloc (.cells #[.int .i64 8, .string s, vA, vB, vC] 26)).heap.size by simp)
  have C0 := hid (five_new w (.int .i64 8) (.string s) vA vB vC 26)
  generalize w.alloc (.cells #[.int .i64 8, .string s, vA, vB, vC] 26) = W0 at *
  have T0 : W0.drew.cell? ⟨w.heap.size, 2, none⟩ = some vA ∧ W0.drew.cell? ⟨w.heap.size, 3, none⟩ = some vB ∧ W0.drew.cell? ⟨w.heap.size, 4, none⟩ = some vC := C0.out
  go_region_held3 (fun W => W.cell? ⟨w.heap.size, 2, none⟩ = some vA ∧ W.cell? ⟨w.heap.size, 3, none⟩ = some vB ∧ W.cell? ⟨w.heap.size, 4, none⟩ = some vC)
    (first | exact T0 | exact T1 | exact T2 | exact T3)
    (first
      | (go_at_call_of 13 vA; refine (CO.out _ _ l ?_ G1.out).mono ?_; exact M1.out.low B0.out.drew; rintro e w1 ⟨x1, rfl, hi1, hb1⟩; have T1 := five_low T0 hb1 Z0.out; have X1 := hid hi1; have D1 := hid hb1; clear hi1 hb1; have B1 := hid (B0.out.drew.trans (D1.out.mono B0.out.size)); have Z1 := hid (Nat.lt_of_lt_of_le Z0.out D1.out.size))
      | (go_at_call_of 13 vB; refine (CO.out _ _ c ?_ G2.out).mono ?_; exact M2.out.low B1.out; rintro e w2 ⟨x2, rfl, hi2, hb2⟩; have T2 := five_low T1 hb2 Z1.out; have Y1 := hid (X1.out.low hb2); have Y2 := hid hi2; have D2 := hid hb2; clear hi2 hb2; have B2 := hid (B1.out.trans (D2.out.mono B1.out.size)); have Z2 := hid (Nat.lt_of_lt_of_le Z1.out D2.out.size))
      | (go_at_call 14; refine (F2.out _ _ _ Y1.out Y2.out).mono ?_; rintro e w3 ⟨vr, sr, rfl, hsr, hit, hb3⟩; have T3 := five_low T2 hb3 Z2.out; have IR := hid hit; have D3 := hid hb3; clear hit hb3; have B3 := hid (B2.out.trans (D3.out.mono B2.out.size)); have Z3 := hid (Nat.lt_of_lt_of_le Z2.out D3.out.size)))
  have C3 := hid T3
  clear T0 T1 T2 T3 X1 Y1 Y2 D1 D2 D3 B1 B2 Z1 Z2 C0 B0 Z0
  go_wp2_with fail
  have T0 : w3.drew.cell? ⟨w.heap.size, 2, none⟩ = some vA ∧ w3.drew.cell? ⟨w.heap.size, 3, none⟩ = some vB ∧ w3.drew.cell? ⟨w.heap.size, 4, none⟩ = some vC := C3.out
  go_region_held3 (fun W => W.cell? ⟨w.heap.size, 2, none⟩ = some vA ∧ W.cell? ⟨w.heap.size, 3, none⟩ = some vB ∧ W.cell? ⟨w.heap.size, 4, none⟩ = some vC)
    (first | exact T0 | exact T1 | exact T2 | exact T3)
    (first
      | (go_at_call_of 13 vA; refine (CS.out _ _ l ?_ G1.out).mono ?_; exact M1.out.low B3.out.drew; rintro e w4 ⟨x1, rfl, hi1, hb1⟩; have T1 := five_low T0 hb1 Z3.out; have X1 := hid hi1; have IR1 := hid (IR.out.low (Below.drew_left hb1)); have D1 := hid hb1; clear hi1 hb1; have B1 := hid (B3.out.drew.trans (D1.out.mono B3.out.size)); have Z1 := hid (Nat.lt_of_lt_of_le Z3.out D1.out.size))
      | (go_at_call_of 13 vB; refine (CS.out _ _ c ?_ G2.out).mono ?_; exact M2.out.low B1.out; rintro e w5 ⟨x2, rfl, hi2, hb2⟩; have T2 := five_low T1 hb2 Z1.out; have Y1 := hid (X1.out.low hb2); have IR2 := hid (IR1.out.low hb2); have Y2 := hid hi2; have D2 := hid hb2; clear hi2 hb2; have B2 := hid (B1.out.trans (D2.out.mono B1.out.size)); have Z2 := hid (Nat.lt_of_lt_of_le Z1.out D2.out.size))
      | (go_at_call 15; refine (F1.out _ _ _ Y1.out Y2.out).mono ?_; rintro e w6 ⟨vi, si, rfl, hsi, hit, hb3⟩; have T3 := five_low T2 hb3 Z2.out; have II := hid hit; have IR3 := hid (IR2.out.low hb3); have D3 := hid hb3; clear hit hb3; have B6 := hid (B2.out.trans (D3.out.mono B2.out.size))))
  clear T0 T1 T2 T3 X1 Y1 Y2 D1 D2 D3 B1 B2 Z1 Z2 C3 B3 Z3 IR IR1 IR2 F1 F2 CO CS
  go_wp2_with fail
  refine (same_yes vi vr R R w6 II.out IR3.out HR.out rfl (fun _ _ => ⟨rfl, rfl⟩)).mono ?_
  rintro e w7 ⟨rfl, hb7⟩
  have B7 := hid (B6.out.trans (hb7.mono B6.out.size))
  clear hb7 B6 II IR3
  go_wp2_with fail
  go_ret
  exact ⟨rfl, B7.out⟩
set_option maxHeartbeats 4000000 in
set_option maxRecDepth 100000 in
theorem sums_short (s : ByteArray) (vA vB vC : Value) (l c u : List It) (w : World) (m1 : Came w vA l) (m2 : Came w vB c) (m3 : Came w vC u) (g1 : Good l) (g2 : Good c) (g3 : Good u) :
    Calls Try.prog 6 #[.agg #[.int .i64 9, .string s, vA, vB, vC]] w fun e w' => e = .returned (.bool true) ∧ Below w.heap.size w w' := by
  have F1 := hid (fun W x y z (i1 : Items W x l) (i2 : Items W y c) (i3 : Items W z u) => short_any x y z l c u W i1 i2 i3 g1 g2 g3)
  have F2 := hid (fun W x y z (i1 : Items W x l) (i2 : Items W y c) (i3 : Items W z u) => rshort_any x y z l c u W i1 i2 i3 g1 g2 g3)
  generalize shortE l c u = er at *
  generalize shortS l c u = sS at *
  have M1 := hid m1
  have M2 := hid m2
  have M3 := hid m3
  have CO := hid (fun W v x (h : Came W v x) (g : Good x) => copied_any v x W h g)
  have G1 := hid g1
  have G2 := hid g2
  have G3 := hid g3
  clear m1 m2 m3 g1 g2 g3
  go_enter Try.func6, Try.ntmps6
  go_wp2_with fail
  have B0 := hid (show Below w.heap.size w (w.alloc (.cells #[.int .i64 9, .string s, vA, vB, vC] 26)) from belowA _ _)
  have Z0 := hid (show w.heap.size < (w.alloc (.cells #[.int .i64 9, .string s, vA, vB, vC] 26)).heap.size by simp)
  have C0 := hid (five_new w (.int .i64 9) (.string s) vA vB vC 26)
  generalize w.alloc (.cells #[.int .i64 9, .string s, vA, vB, vC] 26) = W0 at *
  have T0 : W0.drew.cell? ⟨w.heap.size, 2, none⟩ = some vA ∧ W0.drew.cell? ⟨w.heap.size, 3, none⟩ = some vB ∧ W0.drew.cell? ⟨w.heap.size, 4, none⟩ = some vC := C0.out
  go_region_held3 (fun W => W.cell? ⟨w.heap.size, 2, none⟩ = some vA ∧ W.cell? ⟨w.heap.size, 3, none⟩ = some vB ∧ W.cell? ⟨w.heap.size, 4, none⟩ = some vC)
    (first | exact T0 | exact T1 | exact T2 | exact T3 | exact T4)
    (first
      | (go_at_call_of 13 vA; refine (CO.out _ _ l ?_ G1.out).mono ?_; exact M1.out.low B0.out.drew; rintro e w1 ⟨x1, rfl, hi1, hb1⟩; have T1 := five_low T0 hb1 Z0.out; have X1 := hid hi1; have D1 := hid hb1; clear hi1 hb1; have B1 := hid (B0.out.drew.trans (D1.out.mono B0.out.size)); have Z1 := hid (Nat.lt_of_lt_of_le Z0.out D1.out.size))
      | (go_at_call_of 13 vB; refine (CO.out _ _ c ?_ G2.out).mono ?_; exact M2.out.low B1.out; rintro e w2 ⟨x2, rfl, hi2, hb2⟩; have T2 := five_low T1 hb2 Z1.out; have Y1 := hid (X1.out.low hb2); have Y2 := hid hi2; have D2 := hid hb2; clear hi2 hb2; have B2 := hid (B1.out.trans (D2.out.mono B1.out.size)); have Z2 := hid (Nat.lt_of_lt_of_le Z1.out D2.out.size))
      | (go_at_call_of 13 vC; refine (CO.out _ _ u ?_ G3.out).mono ?_; exact M3.out.low B2.out; rintro e w3 ⟨x3, rfl, hi3, hb3⟩; have T3 := five_low T2 hb3 Z2.out; have U1 := hid (Y1.out.low hb3); have U2 := hid (Y2.out.low hb3); have U3 := hid hi3; have D3 := hid hb3; clear hi3 hb3; have B3 := hid (B2.out.trans (D3.out.mono B2.out.size)); have Z3 := hid (Nat.lt_of_lt_of_le Z2.out D3.out.size))
      | (go_at_call 16; refine (F2.out _ _ _ _ U1.out U2.out U3.out).mono ?_; rintro e w4 ⟨rfl, hb4⟩; have T4 := five_low T3 hb4 Z3.out; have D4 := hid hb4; clear hb4; have B4ref := hid (B3.out.trans (D4.out.mono B3.out.size)); have Z4ref := hid (Nat.lt_of_lt_of_le Z3.out D4.out.size)))
  have C4 := hid T4
  clear T0 T1 T2 T3 T4 X1 Y1 Y2 U1 U2 U3 D1 D2 D3 D4 B1 B2 B3 Z1 Z2 Z3 B0 Z0 C0
  have C0 := C4
  clear C4
  go_wp2_with fail
  have T0 : w4.drew.cell? ⟨w.heap.size, 2, none⟩ = some vA ∧ w4.drew.cell? ⟨w.heap.size, 3, none⟩ = some vB ∧ w4.drew.cell? ⟨w.heap.size, 4, none⟩ = some vC := C0.out
  go_region_held3 (fun W => W.cell? ⟨w.heap.size, 2, none⟩ = some vA ∧ W.cell? ⟨w.heap.size, 3, none⟩ = some vB ∧ W.cell? ⟨w.heap.size, 4, none⟩ = some vC)
    (first | exact T0 | exact T1 | exact T2 | exact T3 | exact T4)
    (first
      | (go_at_call_of 13 vA; refine (CO.out _ _ l ?_ G1.out).mono ?_; exact M1.out.low B4ref.out.drew; rintro e w5 ⟨x1, rfl, hi1, hb1⟩; have T1 := five_low T0 hb1 Z4ref.out; have X1 := hid hi1; have D1 := hid hb1; clear hi1 hb1; have B1 := hid (B4ref.out.drew.trans (D1.out.mono B4ref.out.size)); have Z1 := hid (Nat.lt_of_lt_of_le Z4ref.out D1.out.size))
      | (go_at_call_of 13 vB; refine (CO.out _ _ c ?_ G2.out).mono ?_; exact M2.out.low B1.out; rintro e w6 ⟨x2, rfl, hi2, hb2⟩; have T2 := five_low T1 hb2 Z1.out; have Y1 := hid (X1.out.low hb2); have Y2 := hid hi2; have D2 := hid hb2; clear hi2 hb2; have B2 := hid (B1.out.trans (D2.out.mono B1.out.size)); have Z2 := hid (Nat.lt_of_lt_of_le Z1.out D2.out.size))
      | (go_at_call_of 13 vC; refine (CO.out _ _ u ?_ G3.out).mono ?_; exact M3.out.low B2.out; rintro e w7 ⟨x3, rfl, hi3, hb3⟩; have T3 := five_low T2 hb3 Z2.out; have U1 := hid (Y1.out.low hb3); have U2 := hid (Y2.out.low hb3); have U3 := hid hi3; have D3 := hid hb3; clear hi3 hb3; have B3 := hid (B2.out.trans (D3.out.mono B2.out.size)); have Z3 := hid (Nat.lt_of_lt_of_le Z2.out D3.out.size))
      | (go_at_call 17; refine (F1.out _ _ _ _ U1.out U2.out U3.out).mono ?_; rintro e w8 ⟨rfl, hb4⟩; have T4 := five_low T3 hb4 Z3.out; have D4 := hid hb4; clear hb4; have B4impl := hid (B3.out.trans (D4.out.mono B3.out.size)); have Z4impl := hid (Nat.lt_of_lt_of_le Z3.out D4.out.size)))
  have C4 := hid T4
  clear T0 T1 T2 T3 T4 X1 Y1 Y2 U1 U2 U3 D1 D2 D3 D4 B1 B2 B3 Z1 Z2 Z3 B4ref Z4ref C0
  clear CO F1 F2
  go_wp2_with fail
  go_ret
  exact ⟨rfl, B4impl.out⟩
set_option maxHeartbeats 4000000 in
theorem sums_other (k : Int) (s : ByteArray) (vA vB vC : Value) (w : World) (h7 : k ≠ 7) (h8 : k ≠ 8) (h9 : k ≠ 9) :
    Calls Try.prog 6 #[.agg #[.int .i64 k, .string s, vA, vB, vC]] w fun e w' => e = .returned (.bool true) ∧ Below w.heap.size w w' := by
  have e7 : (k == 7) = false := by simpa using h7
  have e8 : (k == 8) = false := by simpa using h8
  have e9 : (k == 9) = false := by simpa using h9
  clear h7 h8 h9
  go_enter Try.func6, Try.ntmps6
  go_wp2_with fail
  go_ret
  exact ⟨rfl, belowA _ _⟩
/-- The law of one call. -/
theorem sums_any (k : Int) (s : ByteArray) (vA vB vC : Value) (l c u : List It) (w : World) (m1 : Came w vA l) (m2 : Came w vB c) (m3 : Came w vC u) (g1 : Good l) (g2 : Good c) (g3 : Good u) :
    Calls Try.prog 6 #[.agg #[.int .i64 k, .string s, vA, vB, vC]] w fun e w' => e = .returned (.bool true) ∧ Below w.heap.size w w' := by
  by_cases h7 : k = 7
  · subst h7; exact sums_add s vA vB vC l c w m1 m2 g1 g2
  by_cases h8 : k = 8
  · subst h8; exact sums_sub s vA vB vC l c w m1 m2 g1 g2
  by_cases h9 : k = 9
  · subst h9; exact sums_short s vA vB vC l c u w m1 m2 m3 g1 g2 g3
  exact sums_other k s vA vB vC w h7 h8 h9
end Go.Proofs.Ytnlohjcjboelgaa.L
