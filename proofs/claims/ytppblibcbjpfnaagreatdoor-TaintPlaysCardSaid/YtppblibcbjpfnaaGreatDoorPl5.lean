import Derived.Test.YtppblibcbjpfnaaGreatDoorPl3
namespace Go.Proofs.YtppblibcbjpfnaaGreatDoor.L
open Go.RowKit
set_option linter.unusedVariables false
set_option linter.unusedSimpArgs false
set_option maxHeartbeats 4000000 in
set_option maxRecDepth 100000 in
theorem list_left (t0 t1 t2 o0 o1 o2 o3 s ky : ByteArray) (vL vO : Value) (l : List Tn) (os : List To) (w : World) (hL : CameT w vL l) (hg : GoodT l) (hO : CameO w vO os) (hgO : GoodO os) :
    Calls Tryz.prog 6 #[.agg #[.int .i64 14, .string t0, .string t1, .string t2, .string o0, .string o1, .string o2, .string o3, .string s, .string ky, vL, vO]] w fun e w' => e = .returned (.bool true) ∧ Below w.heap.size w w' := by
  have CP := hid (fun W (hb : Below w.heap.size w W) => taints_any vL l W (hL.low hb) hg)
  have CO := hid (fun W (hb : Below w.heap.size w W) => tols_any vO os W (hO.low hb) hgO)
  have F1 := hid (fun W x y (h : ItemsG 3 tf W x l) (h' : ItemsG 4 ofn W y os) => left_any x y l os s W h h' hg hgO.1.1)
  have F6 := hid (fun W x y (h : ItemsG 3 tf W x l) (h' : ItemsG 4 ofn W y os) => tolerated_any x y l os s W h h' hg hgO.1.1)
  have F2 := hid (fun W (hb : Below w.heap.size w W) => qleft_any vL vO l os s W (hL.low hb).items (hO.low hb).items hg hgO.1.1)
  have HDL := hid (Nat.le_trans (lft_len l os s) hg.1.1)
  obtain ⟨aL, cL, rfl, -⟩ := hL.items
  obtain ⟨aO, cO, rfl, -⟩ := hO.items
  clear hL hg hO hgO
  go_enter Tryz.func6, Tryz.ntmps6
  go_wp2_with fail
  have B0 := hid (show Below w.heap.size w (w.alloc (.cells #[.int .i64 14, .string t0, .string t1, .string t2, .string o0, .string o1, .string o2, .string o3, .string s, .string ky, .slice aL l.length cL, .slice aO os.length cO] 31)) from belowA _ _)
  have Z0 := hid (show w.heap.size < (w.alloc (.cells #[.int .i64 14, .string t0, .string t1, .string t2, .string o0, .string o1, .string o2, .string o3, .string s, .string ky, .slice aL l.length cL, .slice aO os.length cO] 31)).heap.size by simp)
  have E0 := hid (cells_at w #[.int .i64 14, .string t0, .string t1, .string t2, .string o0, .string o1, .string o2, .string o3, .string s, .string ky, .slice aL l.length cL, .slice aO os.length cO] 31)
  generalize w.alloc (.cells #[.int .i64 14, .string t0, .string t1, .string t2, .string o0, .string o1, .string o2, .string o3, .string s, .string ky, .slice aL l.length cL, .slice aO os.length cO] 31) = w0 at *
  have T0 : w0.drew.cell? ⟨w.heap.size, 8, none⟩ = some (.string s) ∧ w0.drew.cell? ⟨w.heap.size, 10, none⟩ = some (.slice aL l.length cL) ∧ w0.drew.cell? ⟨w.heap.size, 11, none⟩ = some (.slice aO os.length cO) := ⟨E0.out 8 _ rfl, E0.out 10 _ rfl, E0.out 11 _ rfl⟩
  go_region_held3 (fun W => W.cell? ⟨w.heap.size, 8, none⟩ = some (.string s) ∧ W.cell? ⟨w.heap.size, 10, none⟩ = some (.slice aL l.length cL) ∧ W.cell? ⟨w.heap.size, 11, none⟩ = some (.slice aO os.length cO))
    (first | exact T0 | exact T1 | exact T2 | exact T3 | exact T4 | exact T5 | exact T6)
    (first
      | (go_at_call 23; refine (CP.out _ B0.out.drew).mono ?_; rintro e w1 ⟨v1, rfl, hc1, hb1⟩; have D1 := hid hb1; have HC1 := hid (ownG_came hc1); clear hc1; clear hb1; have T1 : w1.cell? ⟨w.heap.size, 8, none⟩ = some (.string s) ∧ w1.cell? ⟨w.heap.size, 10, none⟩ = some (.slice aL l.length cL) ∧ w1.cell? ⟨w.heap.size, 11, none⟩ = some (.slice aO os.length cO) := ⟨(D1.out.cell (p := ⟨w.heap.size, 8, none⟩) Z0.out).trans T0.1, (D1.out.cell (p := ⟨w.heap.size, 10, none⟩) Z0.out).trans T0.2.1, (D1.out.cell (p := ⟨w.heap.size, 11, none⟩) Z0.out).trans T0.2.2⟩; have Z1 := hid (Nat.lt_of_lt_of_le Z0.out D1.out.size); have B1 := hid (w_bel B0.out.drew D1.out))
      | (go_at_call 29; refine (CO.out _ B1.out).mono ?_; rintro e w2 ⟨v2, rfl, hc2, hb2⟩; have D2 := hid hb2; have HC2 := hid (ownG_came hc2); clear hc2; clear hb2; have T2 : w2.cell? ⟨w.heap.size, 8, none⟩ = some (.string s) ∧ w2.cell? ⟨w.heap.size, 10, none⟩ = some (.slice aL l.length cL) ∧ w2.cell? ⟨w.heap.size, 11, none⟩ = some (.slice aO os.length cO) := ⟨(D2.out.cell (p := ⟨w.heap.size, 8, none⟩) Z1.out).trans T1.1, (D2.out.cell (p := ⟨w.heap.size, 10, none⟩) Z1.out).trans T1.2.1, (D2.out.cell (p := ⟨w.heap.size, 11, none⟩) Z1.out).trans T1.2.2⟩; have Z2 := hid (Nat.lt_of_lt_of_le Z1.out D2.out.size); have B2 := hid (w_bel B1.out D2.out))
      | (go_at_call 37; refine (F1.out _ _ _ (HC1.out.low D2.out).items HC2.out.items).mono ?_; rintro e w3 ⟨va, rfl, hda, hb3⟩; have D3 := hid hb3; have HA := hid hda; clear hda; clear hb3; have T3 : w3.cell? ⟨w.heap.size, 8, none⟩ = some (.string s) ∧ w3.cell? ⟨w.heap.size, 10, none⟩ = some (.slice aL l.length cL) ∧ w3.cell? ⟨w.heap.size, 11, none⟩ = some (.slice aO os.length cO) := ⟨(D3.out.cell (p := ⟨w.heap.size, 8, none⟩) Z2.out).trans T2.1, (D3.out.cell (p := ⟨w.heap.size, 10, none⟩) Z2.out).trans T2.2.1, (D3.out.cell (p := ⟨w.heap.size, 11, none⟩) Z2.out).trans T2.2.2⟩; have Z3 := hid (Nat.lt_of_lt_of_le Z2.out D3.out.size); have B3 := hid (w_bel B2.out D3.out)))
  clear T0 T1 T2
  have E3 := hid (box_low (box_low (box_low E0.out (show Below w0.heap.size w0 w1 from (Below.refl _ _).drew.trans D1.out) Z0.out) D2.out Z1.out) D3.out Z2.out)
  clear T3 D1 D2 D3 HC1 HC2
  have c3_8 := E3.out 8 _ rfl
  have c3_10 := E3.out 10 _ rfl
  have c3_11 := E3.out 11 _ rfl
  have z3 := Z3.out
  go_wp2_with fail
  clear c3_8 c3_10 c3_11 z3
  refine (F2.out _ B3.out).mono ?_
  rintro e w4 ⟨vb, rfl, hdb, hb4⟩
  have B4 := hid (w_bel B3.out hb4)
  have E4 := hid (box_low E3.out hb4 Z3.out)
  have Z4 := hid (Nat.lt_of_lt_of_le Z3.out hb4.size)
  have F4 := hid (fun W (hb : Below w4.heap.size w4 W) => same_any va vb _ W ((ownG_came (ownG_low HA.out hb4)).items.low hb) ((ownG_came hdb).items.low hb) HDL.out)
  obtain ⟨ab, cb, hvb, -⟩ := (ownG_came hdb).items
  clear hdb HA
  clear hb4
  subst hvb
  generalize lft l os s = LL at *
  go_wp2_with fail
  have T4 : w4.drew.cell? ⟨w.heap.size, 8, none⟩ = some (.string s) ∧ w4.drew.cell? ⟨w.heap.size, 10, none⟩ = some (.slice aL l.length cL) ∧ w4.drew.cell? ⟨w.heap.size, 11, none⟩ = some (.slice aO os.length cO) := ⟨E4.out 8 _ rfl, E4.out 10 _ rfl, E4.out 11 _ rfl⟩
  go_region_held3 (fun W => W.cell? ⟨w.heap.size, 8, none⟩ = some (.string s) ∧ W.cell? ⟨w.heap.size, 10, none⟩ = some (.slice aL l.length cL) ∧ W.cell? ⟨w.heap.size, 11, none⟩ = some (.slice aO os.length cO))
    (first | exact T0 | exact T1 | exact T2 | exact T3 | exact T4 | exact T5 | exact T6 | exact T7 | exact T8)
    (first
      | (go_at_call 25; refine (F4.out _ (Below.refl _ _).drew).mono ?_; rintro e w5 ⟨rfl, hb5⟩; have D5 := hid hb5; clear hb5; have T5 : w5.cell? ⟨w.heap.size, 8, none⟩ = some (.string s) ∧ w5.cell? ⟨w.heap.size, 10, none⟩ = some (.slice aL l.length cL) ∧ w5.cell? ⟨w.heap.size, 11, none⟩ = some (.slice aO os.length cO) := ⟨(D5.out.cell (p := ⟨w.heap.size, 8, none⟩) Z4.out).trans T4.1, (D5.out.cell (p := ⟨w.heap.size, 10, none⟩) Z4.out).trans T4.2.1, (D5.out.cell (p := ⟨w.heap.size, 11, none⟩) Z4.out).trans T4.2.2⟩; have Z5 := hid (Nat.lt_of_lt_of_le Z4.out D5.out.size); have B5 := hid (w_bel B4.out.drew D5.out))
      | (go_at_call 23; refine (CP.out _ B5.out).mono ?_; rintro e w6 ⟨v6, rfl, hc6, hb6⟩; have D6 := hid hb6; have HC6 := hid (ownG_came hc6); clear hc6; clear hb6; have T6 : w6.cell? ⟨w.heap.size, 8, none⟩ = some (.string s) ∧ w6.cell? ⟨w.heap.size, 10, none⟩ = some (.slice aL l.length cL) ∧ w6.cell? ⟨w.heap.size, 11, none⟩ = some (.slice aO os.length cO) := ⟨(D6.out.cell (p := ⟨w.heap.size, 8, none⟩) Z5.out).trans T5.1, (D6.out.cell (p := ⟨w.heap.size, 10, none⟩) Z5.out).trans T5.2.1, (D6.out.cell (p := ⟨w.heap.size, 11, none⟩) Z5.out).trans T5.2.2⟩; have Z6 := hid (Nat.lt_of_lt_of_le Z5.out D6.out.size); have B6 := hid (w_bel B5.out D6.out))
      | (go_at_call 29; refine (CO.out _ B6.out).mono ?_; rintro e w7 ⟨v7, rfl, hc7, hb7⟩; have D7 := hid hb7; have HC7 := hid (ownG_came hc7); clear hc7; clear hb7; have T7 : w7.cell? ⟨w.heap.size, 8, none⟩ = some (.string s) ∧ w7.cell? ⟨w.heap.size, 10, none⟩ = some (.slice aL l.length cL) ∧ w7.cell? ⟨w.heap.size, 11, none⟩ = some (.slice aO os.length cO) := ⟨(D7.out.cell (p := ⟨w.heap.size, 8, none⟩) Z6.out).trans T6.1, (D7.out.cell (p := ⟨w.heap.size, 10, none⟩) Z6.out).trans T6.2.1, (D7.out.cell (p := ⟨w.heap.size, 11, none⟩) Z6.out).trans T6.2.2⟩; have Z7 := hid (Nat.lt_of_lt_of_le Z6.out D7.out.size); have B7 := hid (w_bel B6.out D7.out))
      | (go_at_call 39; refine (F6.out _ _ _ (HC6.out.low D7.out).items HC7.out.items).mono ?_; rintro e w8 ⟨rfl, hb8⟩; have D8 := hid hb8; clear hb8; have T8 : w8.cell? ⟨w.heap.size, 8, none⟩ = some (.string s) ∧ w8.cell? ⟨w.heap.size, 10, none⟩ = some (.slice aL l.length cL) ∧ w8.cell? ⟨w.heap.size, 11, none⟩ = some (.slice aO os.length cO) := ⟨(D8.out.cell (p := ⟨w.heap.size, 8, none⟩) Z7.out).trans T7.1, (D8.out.cell (p := ⟨w.heap.size, 10, none⟩) Z7.out).trans T7.2.1, (D8.out.cell (p := ⟨w.heap.size, 11, none⟩) Z7.out).trans T7.2.2⟩; have Z8 := hid (Nat.lt_of_lt_of_le Z7.out D8.out.size); have B8 := hid (w_bel B7.out D8.out)))
  clear T4 T5 T6 T7 T8
  go_wp2_with fail
  go_ret
  exact ⟨ret_bool (by cases LL with
    | nil => simp
    | cons x y => first | (simp; done) | (simp; omega)), B8.out⟩
end Go.Proofs.YtppblibcbjpfnaaGreatDoor.L
