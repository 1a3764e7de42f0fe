import Derived.Test.YtppblibcbjpfnaaGreatDoorPl1
namespace Go.Proofs.YtppblibcbjpfnaaGreatDoor.L
open Go.RowKit
set_option linter.unusedVariables false
set_option linter.unusedSimpArgs false
set_option maxHeartbeats 4000000 in
set_option maxRecDepth 100000 in
theorem one_text (t0 t1 t2 o0 o1 o2 o3 s ky : ByteArray) (vL vO : Value) (w : World) (hk : t0.size ≤ maxLen) (hv : t1.size ≤ maxLen) :
    Calls Tryz.prog 5 #[.agg #[.int .i64 4, .string t0, .string t1, .string t2, .string o0, .string o1, .string o2, .string o3, .string s, .string ky, vL, vO]] w fun e w' => e = .returned (.bool true) ∧ Below w.heap.size w w' := by
  obtain ⟨x, r, F1, F2, hr⟩ : ∃ (x : ByteArray) (r : Int), Hid (∀ W, Calls Tryz.prog 7 #[tv (t0, t1, t2)] W fun e w' => e = .returned (.tuple #[.string x, .int .i64 r]) ∧ Below W.heap.size W w') ∧ Hid (∀ W, Calls Tryz.prog 16 #[tv (t0, t1, t2)] W fun e w' => e = .returned (.tuple #[.string x, .int .i64 r]) ∧ Below W.heap.size W w') ∧ (0 ≤ r ∧ r ≤ 1000) := by
    by_cases h : tE (t0, t1, t2) = 0
    · exact ⟨_, _, hid (fun W => text_ok _ W h), hid (fun W => qtext_ok _ W h), by decide⟩
    · exact ⟨_, _, hid (fun W => text_bad _ W hk hv h), hid (fun W => qtext_bad _ W hk hv h), tE_range _⟩
  have F3 := hid (fun W => num_any r W hr)
  clear hr
  simp only [tv, ov] at F1 F2
  go_enter Tryz.func5, Tryz.ntmps5
  go_wp2_with fail
  have B0 := hid (show Below w.heap.size w (w.alloc (.cells #[.int .i64 4, .string t0, .string t1, .string t2, .string o0, .string o1, .string o2, .string o3, .string s, .string ky, vL, vO] 31)) from belowA _ _)
  have Z0 := hid (show w.heap.size < (w.alloc (.cells #[.int .i64 4, .string t0, .string t1, .string t2, .string o0, .string o1, .string o2, .string o3, .string s, .string ky, vL, vO] 31)).heap.size by simp)
  have E0 := hid (cells_at w #[.int .i64 4, .string t0, .string t1, .string t2, .string o0, .string o1, .string o2, .string o3, .string s, .string ky, vL, vO] 31)
  generalize w.alloc (.cells #[.int .i64 4, .string t0, .string t1, .string t2, .string o0, .string o1, .string o2, .string o3, .string s, .string ky, vL, vO] 31) = w0 at *
  refine (F1.out _).mono ?_
  rintro e w1 ⟨rfl, hb1⟩
  have B1 := hid (w_bel B0.out hb1)
  have E1 := hid (box_low E0.out hb1 Z0.out)
  have Z1 := hid (Nat.lt_of_lt_of_le Z0.out hb1.size)
  clear hb1
  have c1_1 := E1.out 1 _ rfl
  have c1_2 := E1.out 2 _ rfl
  have c1_3 := E1.out 3 _ rfl
  have z1 := Z1.out
  go_wp2_with fail
  clear c1_1 c1_2 c1_3 z1
  refine (F2.out _).mono ?_
  rintro e w2 ⟨rfl, hb2⟩
  have B2 := hid (w_bel B1.out hb2)
  have E2 := hid (box_low E1.out hb2 Z1.out)
  have Z2 := hid (Nat.lt_of_lt_of_le Z1.out hb2.size)
  clear hb2
  go_wp2_with fail
  refine (F3.out _).mono ?_
  rintro e wq ⟨rfl, hwq⟩
  subst hwq
  go_wp2_with fail
  go_ret
  exact ⟨ret_bool (by simp), B2.out⟩
set_option maxHeartbeats 4000000 in
set_option maxRecDepth 100000 in
theorem one_otext (t0 t1 t2 o0 o1 o2 o3 s ky : ByteArray) (vL vO : Value) (w : World) (hk : o0.size ≤ maxLen) (hv : o2.size ≤ maxLen) :
    Calls Tryz.prog 5 #[.agg #[.int .i64 6, .string t0, .string t1, .string t2, .string o0, .string o1, .string o2, .string o3, .string s, .string ky, vL, vO]] w fun e w' => e = .returned (.bool true) ∧ Below w.heap.size w w' := by
  obtain ⟨x, r, F1, F2, hr⟩ : ∃ (x : ByteArray) (r : Int), Hid (∀ W, Calls Tryz.prog 18 #[ov (o0, o1, o2, o3)] W fun e w' => e = .returned (.tuple #[.string x, .int .i64 r]) ∧ Below W.heap.size W w') ∧ Hid (∀ W, Calls Tryz.prog 19 #[ov (o0, o1, o2, o3)] W fun e w' => e = .returned (.tuple #[.string x, .int .i64 r]) ∧ Below W.heap.size W w') ∧ (0 ≤ r ∧ r ≤ 1000) := by
    by_cases h : oE (o0, o1, o2, o3) = 0
    · exact ⟨_, _, hid (fun W => otext_ok _ W h), hid (fun W => qotext_ok _ W h), by decide⟩
    · exact ⟨_, _, hid (fun W => otext_bad _ W hk hv h), hid (fun W => qotext_bad _ W hk hv h), oE_range _⟩
  have F3 := hid (fun W => num_any r W hr)
  clear hr
  simp only [tv, ov] at F1 F2
  go_enter Tryz.func5, Tryz.ntmps5
  go_wp2_with fail
  have B0 := hid (show Below w.heap.size w (w.alloc (.cells #[.int .i64 6, .string t0, .string t1, .string t2, .string o0, .string o1, .string o2, .string o3, .string s, .string ky, vL, vO] 31)) from belowA _ _)
  have Z0 := hid (show w.heap.size < (w.alloc (.cells #[.int .i64 6, .string t0, .string t1, .string t2, .string o0, .string o1, .string o2, .string o3, .string s, .string ky, vL, vO] 31)).heap.size by simp)
  have E0 := hid (cells_at w #[.int .i64 6, .string t0, .string t1, .string t2, .string o0, .string o1, .string o2, .string o3, .string s, .string ky, vL, vO] 31)
  generalize w.alloc (.cells #[.int .i64 6, .string t0, .string t1, .string t2, .string o0, .string o1, .string o2, .string o3, .string s, .string ky, vL, vO] 31) = w0 at *
  refine (F1.out _).mono ?_
  rintro e w1 ⟨rfl, hb1⟩
  have B1 := hid (w_bel B0.out hb1)
  have E1 := hid (box_low E0.out hb1 Z0.out)
  have Z1 := hid (Nat.lt_of_lt_of_le Z0.out hb1.size)
  clear hb1
  have c1_4 := E1.out 4 _ rfl
  have c1_5 := E1.out 5 _ rfl
  have c1_6 := E1.out 6 _ rfl
  have c1_7 := E1.out 7 _ rfl
  have z1 := Z1.out
  go_wp2_with fail
  clear c1_4 c1_5 c1_6 c1_7 z1
  refine (F2.out _).mono ?_
  rintro e w2 ⟨rfl, hb2⟩
  have B2 := hid (w_bel B1.out hb2)
  have E2 := hid (box_low E1.out hb2 Z1.out)
  have Z2 := hid (Nat.lt_of_lt_of_le Z1.out hb2.size)
  clear hb2
  go_wp2_with fail
  refine (F3.out _).mono ?_
  rintro e wq ⟨rfl, hwq⟩
  subst hwq
  go_wp2_with fail
  go_ret
  exact ⟨ret_bool (by simp), B2.out⟩
set_option maxHeartbeats 4000000 in
set_option maxRecDepth 100000 in
theorem one_parse (t0 t1 t2 o0 o1 o2 o3 s ky : ByteArray) (vL vO : Value) (w : World) (hs : s.size ≤ maxLen) :
    Calls Tryz.prog 5 #[.agg #[.int .i64 5, .string t0, .string t1, .string t2, .string o0, .string o1, .string o2, .string o3, .string s, .string ky, vL, vO]] w fun e w' => e = .returned (.bool true) ∧ Below w.heap.size w w' := by
  have F1 := hid (fun W => parse_any s W hs)
  have F2 := hid (fun W => qparse_any s W hs)
  have F3 := hid (fun W => num_any (pT s).2 W (pT_range s))
  generalize pT s = r at *
  obtain ⟨⟨x0, x1, x2⟩, r⟩ := r
  simp only [tv, ov] at F1 F2 F3
  go_enter Tryz.func5, Tryz.ntmps5
  go_wp2_with fail
  have B0 := hid (show Below w.heap.size w (w.alloc (.cells #[.int .i64 5, .string t0, .string t1, .string t2, .string o0, .string o1, .string o2, .string o3, .string s, .string ky, vL, vO] 31)) from belowA _ _)
  have Z0 := hid (show w.heap.size < (w.alloc (.cells #[.int .i64 5, .string t0, .string t1, .string t2, .string o0, .string o1, .string o2, .string o3, .string s, .string ky, vL, vO] 31)).heap.size by simp)
  have E0 := hid (cells_at w #[.int .i64 5, .string t0, .string t1, .string t2, .string o0, .string o1, .string o2, .string o3, .string s, .string ky, vL, vO] 31)
  generalize w.alloc (.cells #[.int .i64 5, .string t0, .string t1, .string t2, .string o0, .string o1, .string o2, .string o3, .string s, .string ky, vL, vO] 31) = w0 at *
  refine (F1.out _).mono ?_
  rintro e w1 ⟨rfl, hb1⟩
  have B1 := hid (w_bel B0.out hb1)
  have E1 := hid (box_low E0.out hb1 Z0.out)
  have Z1 := hid (Nat.lt_of_lt_of_le Z0.out hb1.size)
  clear hb1
  have c1_8 := E1.out 8 _ rfl
  have z1 := Z1.out
  go_wp2_with fail
  clear c1_8 z1
  have A1 := hid (show Below w1.heap.size w1 (w1.alloc (.cells #[.string x0, .string x1, .string x2] 25)) from belowA _ _)
  have X1 := hid (cells_at w1 #[.string x0, .string x1, .string x2] 25)
  have Y1 := hid (show w1.heap.size < (w1.alloc (.cells #[.string x0, .string x1, .string x2] 25)).heap.size by simp)
  generalize w1.alloc (.cells #[.string x0, .string x1, .string x2] 25) = wa at *
  refine (F2.out _).mono ?_
  rintro e w2 ⟨rfl, hb2⟩
  have B2 := hid (w_bel (w_bel B1.out A1.out) hb2)
  have d0 : w2.cell? ⟨w1.heap.size, 0, none⟩ = some (.string x0) := (hb2.cell (p := ⟨w1.heap.size, 0, none⟩) Y1.out).trans (X1.out 0 _ rfl)
  have d1 : w2.cell? ⟨w1.heap.size, 1, none⟩ = some (.string x1) := (hb2.cell (p := ⟨w1.heap.size, 1, none⟩) Y1.out).trans (X1.out 1 _ rfl)
  have d2 : w2.cell? ⟨w1.heap.size, 2, none⟩ = some (.string x2) := (hb2.cell (p := ⟨w1.heap.size, 2, none⟩) Y1.out).trans (X1.out 2 _ rfl)
  have y2 : w1.heap.size < w2.heap.size := Nat.lt_of_lt_of_le Y1.out hb2.size
  clear hb2
  go_wp2_with fail
  have BF := hid (B2.out.alloc B2.out.size (.cells #[.string x0, .string x1, .string x2] 25))
  refine (F3.out _).mono ?_
  rintro e wq ⟨rfl, hwq⟩
  subst hwq
  go_wp2_with fail
  go_ret
  exact ⟨ret_bool (by simp), BF.out⟩
set_option maxHeartbeats 4000000 in
set_option maxRecDepth 100000 in
theorem one_oparse (t0 t1 t2 o0 o1 o2 o3 s ky : ByteArray) (vL vO : Value) (w : World) (hs : s.size ≤ maxLen) :
    Calls Tryz.prog 5 #[.agg #[.int .i64 7, .string t0, .string t1, .string t2, .string o0, .string o1, .string o2, .string o3, .string s, .string ky, vL, vO]] w fun e w' => e = .returned (.bool true) ∧ Below w.heap.size w w' := by
  have F1 := hid (fun W => ptol_any s W hs)
  have F2 := hid (fun W => qptol_any s W hs)
  have F3 := hid (fun W => num_any (pO s).2 W (pO_range s))
  generalize pO s = r at *
  obtain ⟨⟨x0, x1, x2, x3⟩, r⟩ := r
  simp only [tv, ov] at F1 F2 F3
  go_enter Tryz.func5, Tryz.ntmps5
  go_wp2_with fail
  have B0 := hid (show Below w.heap.size w (w.alloc (.cells #[.int .i64 7, .string t0, .string t1, .string t2, .string o0, .string o1, .string o2, .string o3, .string s, .string ky, vL, vO] 31)) from belowA _ _)
  have Z0 := hid (show w.heap.size < (w.alloc (.cells #[.int .i64 7, .string t0, .string t1, .string t2, .string o0, .string o1, .string o2, .string o3, .string s, .string ky, vL, vO] 31)).heap.size by simp)
  have E0 := hid (cells_at w #[.int .i64 7, .string t0, .string t1, .string t2, .string o0, .string o1, .string o2, .string o3, .string s, .string ky, vL, vO] 31)
  generalize w.alloc (.cells #[.int .i64 7, .string t0, .string t1, .string t2, .string o0, .string o1, .string o2, .string o3, .string s, .string ky, vL, vO] 31) = w0 at *
  refine (F1.out _).mono ?_
  rintro e w1 ⟨rfl, hb1⟩
  have B1 := hid (w_bel B0.out hb1)
  have E1 := hid (box_low E0.out hb1 Z0.out)
  have Z1 := hid (Nat.lt_of_lt_of_le Z0.out hb1.size)
  clear hb1
  have c1_8 := E1.out 8 _ rfl
  have z1 := Z1.out
  go_wp2_with fail
  clear c1_8 z1
  have A1 := hid (show Below w1.heap.size w1 (w1.alloc (.cells #[.string x0, .string x1, .string x2, .string x3] 27)) from belowA _ _)
  have X1 := hid (cells_at w1 #[.string x0, .string x1, .string x2, .string x3] 27)
  have Y1 := hid (show w1.heap.size < (w1.alloc (.cells #[.string x0, .string x1, .string x2, .string x3] 27)).heap.size by simp)
  generalize w1.alloc (.cells #[.string x0, .string x1, .string x2, .string x3] 27) = wa at *
  refine (F2.out _).mono ?_
  rintro e w2 ⟨rfl, hb2⟩
  have B2 := hid (w_bel (w_bel B1.out A1.out) hb2)
  have d0 : w2.cell? ⟨w1.heap.size, 0, none⟩ = some (.string x0) := (hb2.cell (p := ⟨w1.heap.size, 0, none⟩) Y1.out).trans (X1.out 0 _ rfl)
  have d1 : w2.cell? ⟨w1.heap.size, 1, none⟩ = some (.string x1) := (hb2.cell (p := ⟨w1.heap.size, 1, none⟩) Y1.out).trans (X1.out 1 _ rfl)
  have d2 : w2.cell? ⟨w1.heap.size, 2, none⟩ = some (.string x2) := (hb2.cell (p := ⟨w1.heap.size, 2, none⟩) Y1.out).trans (X1.out 2 _ rfl)
  have d3 : w2.cell? ⟨w1.heap.size, 3, none⟩ = some (.string x3) := (hb2.cell (p := ⟨w1.heap.size, 3, none⟩) Y1.out).trans (X1.out 3 _ rfl)
  have y2 : w1.heap.size < w2.heap.size := Nat.lt_of_lt_of_le Y1.out hb2.size
  clear hb2
  go_wp2_with fail
  have BF := hid (B2.out.alloc B2.out.size (.cells #[.string x0, .string x1, .string x2, .string x3] 27))
  refine (F3.out _).mono ?_
  rintro e wq ⟨rfl, hwq⟩
  subst hwq
  go_wp2_with fail
  go_ret
  exact ⟨ret_bool (by simp), BF.out⟩
end Go.Proofs.YtppblibcbjpfnaaGreatDoor.L
