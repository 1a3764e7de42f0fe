import Derived.Test.YtppblibcbjpfnaaGreatDoorPl3
namespace Go.Proofs.YtppblibcbjpfnaaGreatDoor.L
open Go.RowKit
set_option linter.unusedVariables false
set_option linter.unusedSimpArgs false
set_option maxHeartbeats 4000000 in
set_option maxRecDepth 100000 in
theorem list_put (t0 t1 t2 o0 o1 o2 o3 s ky : ByteArray) (vL vO : Value) (l : List Tn) (w : World) (hL : CameT w vL l) (hg : GoodT l) (ht : t0.size ≤ maxLen ∧ t1.size ≤ maxLen ∧ t2.size ≤ maxLen) :
    Calls Tryz.prog 6 #[.agg #[.int .i64 11, .string t0, .string t1, .string t2, .string o0, .string o1, .string o2, .string o3, .string s, .string ky, vL, vO]] w fun e w' => e = .returned (.bool true) ∧ Below w.heap.size w w' := by
  have CP := hid (fun W (hb : Below w.heap.size w W) => taints_any vL l W (hL.low hb) hg)
  have F1 := hid (fun W v (hc : CameT W v l) => put_all v l (t0, t1, t2) W hc hg ht)
  have F2 := hid (fun W (hb : Below w.heap.size w W) => qput_any vL l (t0, t1, t2) W (hL.low hb).items hg ht)
  simp only [tv] at F1 F2
  obtain ⟨aL, cL, rfl, -⟩ := hL.items
  clear hL hg
  go_enter Tryz.func6, Tryz.ntmps6
  go_wp2_with fail
  have B0 := hid (show Below w.heap.size w (w.alloc (.cells #[.int .i64 11, .string t0, .string t1, .string t2, .string o0, .string o1, .string o2, .string o3, .string s, .string ky, .slice aL l.length cL, vO] 31)) from belowA _ _)
  have Z0 := hid (show w.heap.size < (w.alloc (.cells #[.int .i64 11, .string t0, .string t1, .string t2, .string o0, .string o1, .string o2, .string o3, .string s, .string ky, .slice aL l.length cL, vO] 31)).heap.size by simp)
  have E0 := hid (cells_at w #[.int .i64 11, .string t0, .string t1, .string t2, .string o0, .string o1, .string o2, .string o3, .string s, .string ky, .slice aL l.length cL, vO] 31)
  generalize w.alloc (.cells #[.int .i64 11, .string t0, .string t1, .string t2, .string o0, .string o1, .string o2, .string o3, .string s, .string ky, .slice aL l.length cL, vO] 31) = w0 at *
  have T0 : w0.drew.cell? ⟨w.heap.size, 1, none⟩ = some (.string t0) ∧ w0.drew.cell? ⟨w.heap.size, 2, none⟩ = some (.string t1) ∧ w0.drew.cell? ⟨w.heap.size, 3, none⟩ = some (.string t2) ∧ w0.drew.cell? ⟨w.heap.size, 10, none⟩ = some (.slice aL l.length cL) := ⟨E0.out 1 _ rfl, E0.out 2 _ rfl, E0.out 3 _ rfl, E0.out 10 _ rfl⟩
  go_region_held3 (fun W => W.cell? ⟨w.heap.size, 1, none⟩ = some (.string t0) ∧ W.cell? ⟨w.heap.size, 2, none⟩ = some (.string t1) ∧ W.cell? ⟨w.heap.size, 3, none⟩ = some (.string t2) ∧ W.cell? ⟨w.heap.size, 10, none⟩ = some (.slice aL l.length cL))
    (first | exact T0 | exact T1 | exact T2 | exact T3 | exact T4 | exact T5 | exact T6)
    (first
      | (go_at_call 23; refine (CP.out _ B0.out.drew).mono ?_; rintro e w1 ⟨v1, rfl, hc1, hb1⟩; have D1 := hid hb1; have HC1 := hid (ownG_came hc1); clear hc1; clear hb1; have T1 : w1.cell? ⟨w.heap.size, 1, none⟩ = some (.string t0) ∧ w1.cell? ⟨w.heap.size, 2, none⟩ = some (.string t1) ∧ w1.cell? ⟨w.heap.size, 3, none⟩ = some (.string t2) ∧ w1.cell? ⟨w.heap.size, 10, none⟩ = some (.slice aL l.length cL) := ⟨(D1.out.cell (p := ⟨w.heap.size, 1, none⟩) Z0.out).trans T0.1, (D1.out.cell (p := ⟨w.heap.size, 2, none⟩) Z0.out).trans T0.2.1, (D1.out.cell (p := ⟨w.heap.size, 3, none⟩) Z0.out).trans T0.2.2.1, (D1.out.cell (p := ⟨w.heap.size, 10, none⟩) Z0.out).trans T0.2.2.2⟩; have Z1 := hid (Nat.lt_of_lt_of_le Z0.out D1.out.size); have B1 := hid (w_bel B0.out.drew D1.out))
      | (go_at_call 31; refine (F1.out _ _ HC1.out).mono ?_; rintro e w2 ⟨va, la, ea, rfl, hb2, hra, hda⟩; have D2 := hid hb2; have HA := hid hda; have F5 := hid (fun W => num_any ea W hra); clear hda hra; clear hb2; have T2 : w2.cell? ⟨w.heap.size, 1, none⟩ = some (.string t0) ∧ w2.cell? ⟨w.heap.size, 2, none⟩ = some (.string t1) ∧ w2.cell? ⟨w.heap.size, 3, none⟩ = some (.string t2) ∧ w2.cell? ⟨w.heap.size, 10, none⟩ = some (.slice aL l.length cL) := ⟨(D2.out.cell (p := ⟨w.heap.size, 1, none⟩) Z1.out).trans T1.1, (D2.out.cell (p := ⟨w.heap.size, 2, none⟩) Z1.out).trans T1.2.1, (D2.out.cell (p := ⟨w.heap.size, 3, none⟩) Z1.out).trans T1.2.2.1, (D2.out.cell (p := ⟨w.heap.size, 10, none⟩) Z1.out).trans T1.2.2.2⟩; have Z2 := hid (Nat.lt_of_lt_of_le Z1.out D2.out.size); have B2 := hid (w_bel B1.out D2.out)))
  clear T0 T1
  have E2 := hid (box_low (box_low E0.out (show Below w0.heap.size w0 w1 from (Below.refl _ _).drew.trans D1.out) Z0.out) D2.out Z1.out)
  clear T2
  have c2_1 := E2.out 1 _ rfl
  have c2_2 := E2.out 2 _ rfl
  have c2_3 := E2.out 3 _ rfl
  have c2_10 := E2.out 10 _ rfl
  have z2 := Z2.out
  go_wp2_with fail
  clear c2_1 c2_2 c2_3 c2_10 z2
  refine (F2.out _ B2.out).mono ?_
  rintro e w3 ⟨vb, eb, rfl, hb3, hdb⟩
  have B3 := hid (w_bel B2.out hb3)
  have E3 := hid (box_low E2.out hb3 Z2.out)
  have Z3 := hid (Nat.lt_of_lt_of_le Z2.out hb3.size)
  obtain ⟨hu, ll, hll, i1, i2⟩ := two_put hb3 HA.out hdb
  have F4 := hid (same_any va vb ll w3 i1 i2 hll)
  have HU := hid hu
  clear hdb i1 i2 hu
  clear hb3
  obtain rfl := HU.out
  clear HU
  go_wp2_with fail
  refine (F4.out).mono ?_
  rintro e w4 ⟨rfl, hb4⟩
  have B4 := hid (w_bel B3.out hb4)
  have E4 := hid (box_low E3.out hb4 Z3.out)
  have Z4 := hid (Nat.lt_of_lt_of_le Z3.out hb4.size)
  clear hb4
  go_wp2_with fail
  refine (F5.out _).mono ?_
  rintro e wq ⟨rfl, hwq⟩
  subst hwq
  go_wp2_with fail
  go_ret
  exact ⟨ret_bool (by simp), B4.out⟩
set_option maxHeartbeats 4000000 in
set_option maxRecDepth 100000 in
theorem list_del (t0 t1 t2 o0 o1 o2 o3 s ky : ByteArray) (vL vO : Value) (l : List Tn) (w : World) (hL : CameT w vL l) (hg : GoodT l) :
    Calls Tryz.prog 6 #[.agg #[.int .i64 12, .string t0, .string t1, .string t2, .string o0, .string o1, .string o2, .string o3, .string s, .string ky, vL, vO]] w fun e w' => e = .returned (.bool true) ∧ Below w.heap.size w w' := by
  have CP := hid (fun W (hb : Below w.heap.size w W) => taints_any vL l W (hL.low hb) hg)
  have F1 := hid (fun W v (hc : CameT W v l) => del_any v l ky s W hc.items hg)
  have F2 := hid (fun W (hb : Below w.heap.size w W) => qdel_any vL l ky s W (hL.low hb).items hg)
  have HDL := hid (Nat.le_trans (dels_len l ky s) hg.1.1)
  rw [any_less] at F1
  generalize l.any (isK ky s) = r at *
  obtain ⟨aL, cL, rfl, -⟩ := hL.items
  clear hL hg
  go_enter Tryz.func6, Tryz.ntmps6
  go_wp2_with fail
  have B0 := hid (show Below w.heap.size w (w.alloc (.cells #[.int .i64 12, .string t0, .string t1, .string t2, .string o0, .string o1, .string o2, .string o3, .string s, .string ky, .slice aL l.length cL, vO] 31)) from belowA _ _)
  have Z0 := hid (show w.heap.size < (w.alloc (.cells #[.int .i64 12, .string t0, .string t1, .string t2, .string o0, .string o1, .string o2, .string o3, .string s, .string ky, .slice aL l.length cL, vO] 31)).heap.size by simp)
  have E0 := hid (cells_at w #[.int .i64 12, .string t0, .string t1, .string t2, .string o0, .string o1, .string o2, .string o3, .string s, .string ky, .slice aL l.length cL, vO] 31)
  generalize w.alloc (.cells #[.int .i64 12, .string t0, .string t1, .string t2, .string o0, .string o1, .string o2, .string o3, .string s, .string ky, .slice aL l.length cL, vO] 31) = w0 at *
  have T0 : w0.drew.cell? ⟨w.heap.size, 8, none⟩ = some (.string s) ∧ w0.drew.cell? ⟨w.heap.size, 9, none⟩ = some (.string ky) ∧ w0.drew.cell? ⟨w.heap.size, 10, none⟩ = some (.slice aL l.length cL) := ⟨E0.out 8 _ rfl, E0.out 9 _ rfl, E0.out 10 _ rfl⟩
  go_region_held3 (fun W => W.cell? ⟨w.heap.size, 8, none⟩ = some (.string s) ∧ W.cell? ⟨w.heap.size, 9, none⟩ = some (.string ky) ∧ W.cell? ⟨w.heap.size, 10, none⟩ = some (.slice aL l.length cL))
    (first | exact T0 | exact T1 | exact T2 | exact T3 | exact T4 | exact T5 | exact T6)
    (first
      | (go_at_call 23; refine (CP.out _ B0.out.drew).mono ?_; rintro e w1 ⟨v1, rfl, hc1, hb1⟩; have D1 := hid hb1; have HC1 := hid (ownG_came hc1); clear hc1; clear hb1; have T1 : w1.cell? ⟨w.heap.size, 8, none⟩ = some (.string s) ∧ w1.cell? ⟨w.heap.size, 9, none⟩ = some (.string ky) ∧ w1.cell? ⟨w.heap.size, 10, none⟩ = some (.slice aL l.length cL) := ⟨(D1.out.cell (p := ⟨w.heap.size, 8, none⟩) Z0.out).trans T0.1, (D1.out.cell (p := ⟨w.heap.size, 9, none⟩) Z0.out).trans T0.2.1, (D1.out.cell (p := ⟨w.heap.size, 10, none⟩) Z0.out).trans T0.2.2⟩; have Z1 := hid (Nat.lt_of_lt_of_le Z0.out D1.out.size); have B1 := hid (w_bel B0.out.drew D1.out))
      | (go_at_call 33; refine (F1.out _ _ HC1.out).mono ?_; rintro e w2 ⟨va, rfl, hda, hb2⟩; have D2 := hid hb2; have HA := hid hda; clear hda; clear hb2; have T2 : w2.cell? ⟨w.heap.size, 8, none⟩ = some (.string s) ∧ w2.cell? ⟨w.heap.size, 9, none⟩ = some (.string ky) ∧ w2.cell? ⟨w.heap.size, 10, none⟩ = some (.slice aL l.length cL) := ⟨(D2.out.cell (p := ⟨w.heap.size, 8, none⟩) Z1.out).trans T1.1, (D2.out.cell (p := ⟨w.heap.size, 9, none⟩) Z1.out).trans T1.2.1, (D2.out.cell (p := ⟨w.heap.size, 10, none⟩) Z1.out).trans T1.2.2⟩; have Z2 := hid (Nat.lt_of_lt_of_le Z1.out D2.out.size); have B2 := hid (w_bel B1.out D2.out)))
  clear T0 T1
  have E2 := hid (box_low (box_low E0.out (show Below w0.heap.size w0 w1 from (Below.refl _ _).drew.trans D1.out) Z0.out) D2.out Z1.out)
  clear T2
  have c2_8 := E2.out 8 _ rfl
  have c2_9 := E2.out 9 _ rfl
  have c2_10 := E2.out 10 _ rfl
  have z2 := Z2.out
  go_wp2_with fail
  clear c2_8 c2_9 c2_10 z2
  refine (F2.out _ B2.out).mono ?_
  rintro e w3 ⟨vb, rfl, hdb, hb3⟩
  have B3 := hid (w_bel B2.out hb3)
  have E3 := hid (box_low E2.out hb3 Z2.out)
  have Z3 := hid (Nat.lt_of_lt_of_le Z2.out hb3.size)
  have F4 := hid (same_any va vb _ w3 (ownG_came (ownG_low HA.out hb3)).items (ownG_came hdb).items HDL.out)
  clear hdb
  clear hb3
  go_wp2_with fail
  refine (F4.out).mono ?_
  rintro e w4 ⟨rfl, hb4⟩
  have B4 := hid (w_bel B3.out hb4)
  have E4 := hid (box_low E3.out hb4 Z3.out)
  have Z4 := hid (Nat.lt_of_lt_of_le Z3.out hb4.size)
  clear hb4
  go_wp2_with fail
  go_ret
  exact ⟨ret_bool (by simp), B4.out⟩
set_option maxHeartbeats 4000000 in
set_option maxRecDepth 100000 in
theorem list_match (t0 t1 t2 o0 o1 o2 o3 s ky : ByteArray) (vL vO : Value) (w : World) :
    Calls Tryz.prog 6 #[.agg #[.int .i64 13, .string t0, .string t1, .string t2, .string o0, .string o1, .string o2, .string o3, .string s, .string ky, vL, vO]] w fun e w' => e = .returned (.bool true) ∧ Below w.heap.size w w' := by
  have F1 := hid (fun W => match_any (o0, o1, o2, o3) (t0, t1, t2) W)
  have F2 := hid (fun W => qmatch_any (o0, o1, o2, o3) (t0, t1, t2) W)
  generalize mt (o0, o1, o2, o3) (t0, t1, t2) = r at *
  simp only [tv, ov] at F1 F2
  go_enter Tryz.func6, Tryz.ntmps6
  go_wp2_with fail
  have B0 := hid (show Below w.heap.size w (w.alloc (.cells #[.int .i64 13, .string t0, .string t1, .string t2, .string o0, .string o1, .string o2, .string o3, .string s, .string ky, vL, vO] 31)) from belowA _ _)
  have Z0 := hid (show w.heap.size < (w.alloc (.cells #[.int .i64 13, .string t0, .string t1, .string t2, .string o0, .string o1, .string o2, .string o3, .string s, .string ky, vL, vO] 31)).heap.size by simp)
  have E0 := hid (cells_at w #[.int .i64 13, .string t0, .string t1, .string t2, .string o0, .string o1, .string o2, .string o3, .string s, .string ky, vL, vO] 31)
  generalize w.alloc (.cells #[.int .i64 13, .string t0, .string t1, .string t2, .string o0, .string o1, .string o2, .string o3, .string s, .string ky, vL, vO] 31) = w0 at *
  have T0 : w0.drew.cell? ⟨w.heap.size, 1, none⟩ = some (.string t0) ∧ w0.drew.cell? ⟨w.heap.size, 2, none⟩ = some (.string t1) ∧ w0.drew.cell? ⟨w.heap.size, 3, none⟩ = some (.string t2) ∧ w0.drew.cell? ⟨w.heap.size, 4, none⟩ = some (.string o0) ∧ w0.drew.cell? ⟨w.heap.size, 5, none⟩ = some (.string o1) ∧ w0.drew.cell? ⟨w.heap.size, 6, none⟩ = some (.string o2) ∧ w0.drew.cell? ⟨w.heap.size, 7, none⟩ = some (.string o3) := ⟨E0.out 1 _ rfl, E0.out 2 _ rfl, E0.out 3 _ rfl, E0.out 4 _ rfl, E0.out 5 _ rfl, E0.out 6 _ rfl, E0.out 7 _ rfl⟩
  go_region_held3 (fun W => W.cell? ⟨w.heap.size, 1, none⟩ = some (.string t0) ∧ W.cell? ⟨w.heap.size, 2, none⟩ = some (.string t1) ∧ W.cell? ⟨w.heap.size, 3, none⟩ = some (.string t2) ∧ W.cell? ⟨w.heap.size, 4, none⟩ = some (.string o0) ∧ W.cell? ⟨w.heap.size, 5, none⟩ = some (.string o1) ∧ W.cell? ⟨w.heap.size, 6, none⟩ = some (.string o2) ∧ W.cell? ⟨w.heap.size, 7, none⟩ = some (.string o3))
    (first | exact T0 | exact T1 | exact T2 | exact T3 | exact T4 | exact T5 | exact T6)
    (first
      | (go_at_call 35; refine (F1.out _).mono ?_; rintro e w1 ⟨rfl, hb1⟩; have D1 := hid hb1; clear hb1; have T1 : w1.cell? ⟨w.heap.size, 1, none⟩ = some (.string t0) ∧ w1.cell? ⟨w.heap.size, 2, none⟩ = some (.string t1) ∧ w1.cell? ⟨w.heap.size, 3, none⟩ = some (.string t2) ∧ w1.cell? ⟨w.heap.size, 4, none⟩ = some (.string o0) ∧ w1.cell? ⟨w.heap.size, 5, none⟩ = some (.string o1) ∧ w1.cell? ⟨w.heap.size, 6, none⟩ = some (.string o2) ∧ w1.cell? ⟨w.heap.size, 7, none⟩ = some (.string o3) := ⟨(D1.out.cell (p := ⟨w.heap.size, 1, none⟩) Z0.out).trans T0.1, (D1.out.cell (p := ⟨w.heap.size, 2, none⟩) Z0.out).trans T0.2.1, (D1.out.cell (p := ⟨w.heap.size, 3, none⟩) Z0.out).trans T0.2.2.1, (D1.out.cell (p := ⟨w.heap.size, 4, none⟩) Z0.out).trans T0.2.2.2.1, (D1.out.cell (p := ⟨w.heap.size, 5, none⟩) Z0.out).trans T0.2.2.2.2.1, (D1.out.cell (p := ⟨w.heap.size, 6, none⟩) Z0.out).trans T0.2.2.2.2.2.1, (D1.out.cell (p := ⟨w.heap.size, 7, none⟩) Z0.out).trans T0.2.2.2.2.2.2⟩; have Z1 := hid (Nat.lt_of_lt_of_le Z0.out D1.out.size); have B1 := hid (w_bel B0.out.drew D1.out))
      | (go_at_call 36; refine (F2.out _).mono ?_; rintro e w2 ⟨rfl, hb2⟩; have D2 := hid hb2; clear hb2; have T2 : w2.cell? ⟨w.heap.size, 1, none⟩ = some (.string t0) ∧ w2.cell? ⟨w.heap.size, 2, none⟩ = some (.string t1) ∧ w2.cell? ⟨w.heap.size, 3, none⟩ = some (.string t2) ∧ w2.cell? ⟨w.heap.size, 4, none⟩ = some (.string o0) ∧ w2.cell? ⟨w.heap.size, 5, none⟩ = some (.string o1) ∧ w2.cell? ⟨w.heap.size, 6, none⟩ = some (.string o2) ∧ w2.cell? ⟨w.heap.size, 7, none⟩ = some (.string o3) := ⟨(D2.out.cell (p := ⟨w.heap.size, 1, none⟩) Z1.out).trans T1.1, (D2.out.cell (p := ⟨w.heap.size, 2, none⟩) Z1.out).trans T1.2.1, (D2.out.cell (p := ⟨w.heap.size, 3, none⟩) Z1.out).trans T1.2.2.1, (D2.out.cell (p := ⟨w.heap.size, 4, none⟩) Z1.out).trans T1.2.2.2.1, (D2.out.cell (p := ⟨w.heap.size, 5, none⟩) Z1.out).trans T1.2.2.2.2.1, (D2.out.cell (p := ⟨w.heap.size, 6, none⟩) Z1.out).trans T1.2.2.2.2.2.1, (D2.out.cell (p := ⟨w.heap.size, 7, none⟩) Z1.out).trans T1.2.2.2.2.2.2⟩; have Z2 := hid (Nat.lt_of_lt_of_le Z1.out D2.out.size); have B2 := hid (w_bel B1.out D2.out)))
  go_wp2_with fail
  go_ret
  exact ⟨ret_bool (by simp), B2.out⟩
end Go.Proofs.YtppblibcbjpfnaaGreatDoor.L
