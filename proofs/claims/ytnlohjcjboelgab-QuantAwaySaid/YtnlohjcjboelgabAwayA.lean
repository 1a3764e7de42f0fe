import Derived.Test.YtnlohjcjboelgabFix
namespace Go.Proofs.Ytnlohjcjboelgab.L
open Go.RowKit
set_option linter.unusedVariables false
set_option maxHeartbeats 16000000 in
set_option maxRecDepth 100000 in
theorem away_bad_a (v1 v2 : Value) (la lb : List It) (w : World) (m1 : Came w v1 la) (m2 : Came w v2 lb) (g1 : Good la) (g2 : Good lb) (bad : checkN la ≠ 0) (ea eb : Int) (ha : ea = chkAll (two la lb) 2 0 ∧ ea ≠ 0) (hb : eb = chkAll (two lb la) 2 0 ∧ eb ≠ 0) :
    Calls Try.prog 3 #[v1, v2] w fun e w' => e = .returned (.bool true) ∧ Below w.heap.size w w' := by
  have HA := hid (show (ea = chkAll (two la lb) 2 0 ∧ ea ≠ 0) ∨ (checkN la = 0 ∧ checkN lb = 0 ∧ 16 < (mrg 40 la lb).length ∧ ea = 27) ∨ (checkN la = 0 ∧ checkN lb = 0 ∧ (mrg 40 la lb).length ≤ 16 ∧ overAt (mrg 40 la lb) (mrg 40 la lb).length 0 ≠ none ∧ ea = 28) from Or.inl ha)
  have HC := hid (show (eb = chkAll (two lb la) 2 0 ∧ eb ≠ 0) ∨ (checkN lb = 0 ∧ checkN la = 0 ∧ 16 < (mrg 40 lb la).length ∧ eb = 27) ∨ (checkN lb = 0 ∧ checkN la = 0 ∧ (mrg 40 lb la).length ≤ 16 ∧ overAt (mrg 40 lb la) (mrg 40 lb la).length 0 ≠ none ∧ eb = 28) from Or.inl hb)
  have n1 : (ea != 0) = true := by simpa using ha.2
  have n2 : (eb != 0) = true := by simpa using hb.2
  clear ha hb
  have M1 := hid m1
  have M2 := hid m2
  have G1 := hid g1
  have G2 := hid g2
  clear m1 m2 g1 g2
  go_enter Try.func3, Try.ntmps3
  go_wp2_with fail
  refine (fixedSum_any w).mono ?_
  rintro e w1 ⟨rfl, hb⟩
  have B1 := hid (show Below w.heap.size w w1 from hb)
  clear hb
  go_wp2_with fail
  refine (cop_any v1 la _ (M1.out.low B1.out) G1.out).mono ?_
  rintro e w2 ⟨x1, rfl, i, hb⟩
  have B2 := hid (B1.out.trans (hb.mono B1.out.size))
  have S_x1 := hid i
  clear hb i
  go_wp2_with fail
  refine (cop_any v2 lb _ (M2.out.low B2.out) G2.out).mono ?_
  rintro e w3 ⟨x2, rfl, i, hb⟩
  have B3 := hid (B2.out.trans (hb.mono B2.out.size))
  replace S_x1 := hid (S_x1.out.low hb)
  have S_x2 := hid i
  clear hb i
  go_wp2_with fail
  refine (add_wrong _ _ la lb _ S_x1.out S_x2.out G1.out G2.out ea HA.out).mono ?_
  rintro e w4 ⟨s1, rfl, hb⟩
  have B4 := hid (B3.out.trans (hb.mono B3.out.size))
  replace S_x1 := hid (S_x1.out.low hb)
  replace S_x2 := hid (S_x2.out.low hb)
  clear hb
  go_wp2_with fail
  refine (cop_any v2 lb _ (M2.out.low B4.out) G2.out).mono ?_
  rintro e w5 ⟨x3, rfl, i, hb⟩
  have B5 := hid (B4.out.trans (hb.mono B4.out.size))
  have S_x3 := hid i
  clear hb i
  go_wp2_with fail
  refine (cop_any v1 la _ (M1.out.low B5.out) G1.out).mono ?_
  rintro e w6 ⟨x4, rfl, i, hb⟩
  have B6 := hid (B5.out.trans (hb.mono B5.out.size))
  replace S_x3 := hid (S_x3.out.low hb)
  have S_x4 := hid i
  clear hb i
  go_wp2_with fail
  refine (add_wrong _ _ lb la _ S_x3.out S_x4.out G2.out G1.out eb HC.out).mono ?_
  rintro e w7 ⟨s2, rfl, hb⟩
  have B7 := hid (B6.out.trans (hb.mono B6.out.size))
  replace S_x3 := hid (S_x3.out.low hb)
  replace S_x4 := hid (S_x4.out.low hb)
  clear hb
  go_wp2_with fail
  refine (cop_any v1 la _ (M1.out.low B7.out) G1.out).mono ?_
  rintro e w8 ⟨x5, rfl, i, hb⟩
  have B8 := hid (B7.out.trans (hb.mono B7.out.size))
  have S_x5 := hid i
  clear hb i
  go_wp2_with fail
  refine (check_any _ la _ S_x5.out.items G1.out).mono ?_
  rintro e w9 ⟨rfl, hb⟩
  have B9 := hid (B8.out.trans (hb.mono B8.out.size))
  replace S_x5 := hid (S_x5.out.low hb)
  clear hb
  have n3 : (checkN la != 0) = true := by simpa using bad
  generalize checkN la = k1 at *
  go_wp2_with fail
  go_ret
  exact ⟨rfl, B9.out⟩
set_option maxHeartbeats 16000000 in
set_option maxRecDepth 100000 in
theorem away_bad_b (v1 v2 : Value) (la lb : List It) (w : World) (m1 : Came w v1 la) (m2 : Came w v2 lb) (g1 : Good la) (g2 : Good lb) (ok : checkN la = 0) (bad : checkN lb ≠ 0) (ea eb : Int) (ha : ea = chkAll (two la lb) 2 0 ∧ ea ≠ 0) (hb : eb = chkAll (two lb la) 2 0 ∧ eb ≠ 0) :
    Calls Try.prog 3 #[v1, v2] w fun e w' => e = .returned (.bool true) ∧ Below w.heap.size w w' := by
  have HA := hid (show (ea = chkAll (two la lb) 2 0 ∧ ea ≠ 0) ∨ (checkN la = 0 ∧ checkN lb = 0 ∧ 16 < (mrg 40 la lb).length ∧ ea = 27) ∨ (checkN la = 0 ∧ checkN lb = 0 ∧ (mrg 40 la lb).length ≤ 16 ∧ overAt (mrg 40 la lb) (mrg 40 la lb).length 0 ≠ none ∧ ea = 28) from Or.inl ha)
  have HC := hid (show (eb = chkAll (two lb la) 2 0 ∧ eb ≠ 0) ∨ (checkN lb = 0 ∧ checkN la = 0 ∧ 16 < (mrg 40 lb la).length ∧ eb = 27) ∨ (checkN lb = 0 ∧ checkN la = 0 ∧ (mrg 40 lb la).length ≤ 16 ∧ overAt (mrg 40 lb la) (mrg 40 lb la).length 0 ≠ none ∧ eb = 28) from Or.inl hb)
  have n1 : (ea != 0) = true := by simpa using ha.2
  have n2 : (eb != 0) = true := by simpa using hb.2
  clear ha hb
  have M1 := hid m1
  have M2 := hid m2
  have G1 := hid g1
  have G2 := hid g2
  clear m1 m2 g1 g2
  go_enter Try.func3, Try.ntmps3
  go_wp2_with fail
  refine (fixedSum_any w).mono ?_
  rintro e w1 ⟨rfl, hb⟩
  have B1 := hid (show Below w.heap.size w w1 from hb)
  clear hb
  go_wp2_with fail
  refine (cop_any v1 la _ (M1.out.low B1.out) G1.out).mono ?_
  rintro e w2 ⟨x1, rfl, i, hb⟩
  have B2 := hid (B1.out.trans (hb.mono B1.out.size))
  have S_x1 := hid i
  clear hb i
  go_wp2_with fail
  refine (cop_any v2 lb _ (M2.out.low B2.out) G2.out).mono ?_
  rintro e w3 ⟨x2, rfl, i, hb⟩
  have B3 := hid (B2.out.trans (hb.mono B2.out.size))
  replace S_x1 := hid (S_x1.out.low hb)
  have S_x2 := hid i
  clear hb i
  go_wp2_with fail
  refine (add_wrong _ _ la lb _ S_x1.out S_x2.out G1.out G2.out ea HA.out).mono ?_
  rintro e w4 ⟨s1, rfl, hb⟩
  have B4 := hid (B3.out.trans (hb.mono B3.out.size))
  replace S_x1 := hid (S_x1.out.low hb)
  replace S_x2 := hid (S_x2.out.low hb)
  clear hb
  go_wp2_with fail
  refine (cop_any v2 lb _ (M2.out.low B4.out) G2.out).mono ?_
  rintro e w5 ⟨x3, rfl, i, hb⟩
  have B5 := hid (B4.out.trans (hb.mono B4.out.size))
  have S_x3 := hid i
  clear hb i
  go_wp2_with fail
  refine (cop_any v1 la _ (M1.out.low B5.out) G1.out).mono ?_
  rintro e w6 ⟨x4, rfl, i, hb⟩
  have B6 := hid (B5.out.trans (hb.mono B5.out.size))
  replace S_x3 := hid (S_x3.out.low hb)
  have S_x4 := hid i
  clear hb i
  go_wp2_with fail
  refine (add_wrong _ _ lb la _ S_x3.out S_x4.out G2.out G1.out eb HC.out).mono ?_
  rintro e w7 ⟨s2, rfl, hb⟩
  have B7 := hid (B6.out.trans (hb.mono B6.out.size))
  replace S_x3 := hid (S_x3.out.low hb)
  replace S_x4 := hid (S_x4.out.low hb)
  clear hb
  go_wp2_with fail
  refine (cop_any v1 la _ (M1.out.low B7.out) G1.out).mono ?_
  rintro e w8 ⟨x5, rfl, i, hb⟩
  have B8 := hid (B7.out.trans (hb.mono B7.out.size))
  have S_x5 := hid i
  clear hb i
  go_wp2_with fail
  refine (check_any _ la _ S_x5.out.items G1.out).mono ?_
  rintro e w9 ⟨rfl, hb⟩
  have B9 := hid (B8.out.trans (hb.mono B8.out.size))
  replace S_x5 := hid (S_x5.out.low hb)
  clear hb
  rw [ok]
  go_wp2_with fail
  refine (cop_any v2 lb _ (M2.out.low B9.out) G2.out).mono ?_
  rintro e w10 ⟨x6, rfl, i, hb⟩
  have B10 := hid (B9.out.trans (hb.mono B9.out.size))
  have S_x6 := hid i
  clear hb i
  go_wp2_with fail
  refine (check_any _ lb _ S_x6.out.items G2.out).mono ?_
  rintro e w11 ⟨rfl, hb⟩
  have B11 := hid (B10.out.trans (hb.mono B10.out.size))
  replace S_x6 := hid (S_x6.out.low hb)
  clear hb
  have n3 : (checkN lb != 0) = true := by simpa using bad
  generalize checkN lb = k1 at *
  go_wp2_with fail
  go_ret
  exact ⟨rfl, B11.out⟩
set_option maxHeartbeats 16000000 in
set_option maxRecDepth 100000 in
theorem away_none (v1 v2 : Value) (la lb : List It) (w : World) (m1 : Came w v1 la) (m2 : Came w v2 lb) (g1 : Good la) (g2 : Good lb) (o1 : checkN la = 0) (o2 : checkN lb = 0) (er : Int) (he : er = 27 ∨ er = 28) (ha : (checkN la = 0 ∧ checkN lb = 0 ∧ 16 < (mrg 40 la lb).length ∧ er = 27) ∨ (checkN la = 0 ∧ checkN lb = 0 ∧ (mrg 40 la lb).length ≤ 16 ∧ overAt (mrg 40 la lb) (mrg 40 la lb).length 0 ≠ none ∧ er = 28)) (hb : (checkN lb = 0 ∧ checkN la = 0 ∧ 16 < (mrg 40 lb la).length ∧ er = 27) ∨ (checkN lb = 0 ∧ checkN la = 0 ∧ (mrg 40 lb la).length ≤ 16 ∧ overAt (mrg 40 lb la) (mrg 40 lb la).length 0 ≠ none ∧ er = 28)) :
    Calls Try.prog 3 #[v1, v2] w fun e w' => e = .returned (.bool true) ∧ Below w.heap.size w w' := by
  have AD1 := hid (fun W x y (s1 : Sl W x la) (s2 : Sl W y lb) => add_wrong x y la lb W s1 s2 g1 g2 er (Or.inr ha))
  have AD2 := hid (fun W x y (s1 : Sl W x lb) (s2 : Sl W y la) => add_wrong x y lb la W s1 s2 g2 g1 er (Or.inr hb))
  clear ha hb
  rcases he with rfl | rfl
  · have M1 := hid m1
    have M2 := hid m2
    have G1 := hid g1
    have G2 := hid g2
    clear m1 m2 g1 g2
    go_enter Try.func3, Try.ntmps3
    go_wp2_with fail
    refine (fixedSum_any w).mono ?_
    rintro e w1 ⟨rfl, hb⟩
    have B1 := hid (show Below w.heap.size w w1 from hb)
    clear hb
    go_wp2_with fail
    refine (cop_any v1 la _ (M1.out.low B1.out) G1.out).mono ?_
    rintro e w2 ⟨x1, rfl, i, hb⟩
    have B2 := hid (B1.out.trans (hb.mono B1.out.size))
    have S_x1 := hid i
    clear hb i
    go_wp2_with fail
    refine (cop_any v2 lb _ (M2.out.low B2.out) G2.out).mono ?_
    rintro e w3 ⟨x2, rfl, i, hb⟩
    have B3 := hid (B2.out.trans (hb.mono B2.out.size))
    replace S_x1 := hid (S_x1.out.low hb)
    have S_x2 := hid i
    clear hb i
    go_wp2_with fail
    refine (AD1.out _ _ _ S_x1.out S_x2.out).mono ?_
    rintro e w4 ⟨s1, rfl, hb⟩
    have B4 := hid (B3.out.trans (hb.mono B3.out.size))
    replace S_x1 := hid (S_x1.out.low hb)
    replace S_x2 := hid (S_x2.out.low hb)
    clear hb
    go_wp2_with fail
    refine (cop_any v2 lb _ (M2.out.low B4.out) G2.out).mono ?_
    rintro e w5 ⟨x3, rfl, i, hb⟩
    have B5 := hid (B4.out.trans (hb.mono B4.out.size))
    have S_x3 := hid i
    clear hb i
    go_wp2_with fail
    refine (cop_any v1 la _ (M1.out.low B5.out) G1.out).mono ?_
    rintro e w6 ⟨x4, rfl, i, hb⟩
    have B6 := hid (B5.out.trans (hb.mono B5.out.size))
    replace S_x3 := hid (S_x3.out.low hb)
    have S_x4 := hid i
    clear hb i
    go_wp2_with fail
    refine (AD2.out _ _ _ S_x3.out S_x4.out).mono ?_
    rintro e w7 ⟨s2, rfl, hb⟩
    have B7 := hid (B6.out.trans (hb.mono B6.out.size))
    replace S_x3 := hid (S_x3.out.low hb)
    replace S_x4 := hid (S_x4.out.low hb)
    clear hb
    go_wp2_with fail
    refine (cop_any v1 la _ (M1.out.low B7.out) G1.out).mono ?_
    rintro e w8 ⟨x5, rfl, i, hb⟩
    have B8 := hid (B7.out.trans (hb.mono B7.out.size))
    have S_x5 := hid i
    clear hb i
    go_wp2_with fail
    refine (check_any _ la _ S_x5.out.items G1.out).mono ?_
    rintro e w9 ⟨rfl, hb⟩
    have B9 := hid (B8.out.trans (hb.mono B8.out.size))
    replace S_x5 := hid (S_x5.out.low hb)
    clear hb
    rw [o1]
    go_wp2_with fail
    refine (cop_any v2 lb _ (M2.out.low B9.out) G2.out).mono ?_
    rintro e w10 ⟨x6, rfl, i, hb⟩
    have B10 := hid (B9.out.trans (hb.mono B9.out.size))
    have S_x6 := hid i
    clear hb i
    go_wp2_with fail
    refine (check_any _ lb _ S_x6.out.items G2.out).mono ?_
    rintro e w11 ⟨rfl, hb⟩
    have B11 := hid (B10.out.trans (hb.mono B10.out.size))
    replace S_x6 := hid (S_x6.out.low hb)
    clear hb
    rw [o2]
    go_wp2_with fail
    refine (same_yes (.slice none 0 0) (.slice none 0 0) [] [] _ ⟨_, _, rfl, Or.inl rfl⟩ ⟨_, _, rfl, Or.inl rfl⟩ (by decide) rfl (fun j hj => by simp at hj)).mono ?_
    rintro e w12 ⟨rfl, hb⟩
    have B12 := hid (B11.out.trans (hb.mono B11.out.size))
    clear hb
    go_wp2_with fail
    go_ret
    exact ⟨rfl, B12.out⟩
  · have M1 := hid m1
    have M2 := hid m2
    have G1 := hid g1
    have G2 := hid g2
    clear m1 m2 g1 g2
    go_enter Try.func3, Try.ntmps3
    go_wp2_with fail
    refine (fixedSum_any w).mono ?_
    rintro e w1 ⟨rfl, hb⟩
    have B1 := hid (show Below w.heap.size w w1 from hb)
    clear hb
    go_wp2_with fail
    refine (cop_any v1 la _ (M1.out.low B1.out) G1.out).mono ?_
    rintro e w2 ⟨x1, rfl, i, hb⟩
    have B2 := hid (B1.out.trans (hb.mono B1.out.size))
    have S_x1 := hid i
    clear hb i
    go_wp2_with fail
    refine (cop_any v2 lb _ (M2.out.low B2.out) G2.out).mono ?_
    rintro e w3 ⟨x2, rfl, i, hb⟩
    have B3 := hid (B2.out.trans (hb.mono B2.out.size))
    replace S_x1 := hid (S_x1.out.low hb)
    have S_x2 := hid i
    clear hb i
    go_wp2_with fail
    refine (AD1.out _ _ _ S_x1.out S_x2.out).mono ?_
    rintro e w4 ⟨s1, rfl, hb⟩
    have B4 := hid (B3.out.trans (hb.mono B3.out.size))
    replace S_x1 := hid (S_x1.out.low hb)
    replace S_x2 := hid (S_x2.out.low hb)
    clear hb
    go_wp2_with fail
    refine (cop_any v2 lb _ (M2.out.low B4.out) G2.out).mono ?_
    rintro e w5 ⟨x3, rfl, i, hb⟩
    have B5 := hid (B4.out.trans (hb.mono B4.out.size))
    have S_x3 := hid i
    clear hb i
    go_wp2_with fail
    refine (cop_any v1 la _ (M1.out.low B5.out) G1.out).mono ?_
    rintro e w6 ⟨x4, rfl, i, hb⟩
    have B6 := hid (B5.out.trans (hb.mono B5.out.size))
    replace S_x3 := hid (S_x3.out.low hb)
    have S_x4 := hid i
    clear hb i
    go_wp2_with fail
    refine (AD2.out _ _ _ S_x3.out S_x4.out).mono ?_
    rintro e w7 ⟨s2, rfl, hb⟩
    have B7 := hid (B6.out.trans (hb.mono B6.out.size))
    replace S_x3 := hid (S_x3.out.low hb)
    replace S_x4 := hid (S_x4.out.low hb)
    clear hb
    go_wp2_with fail
    refine (cop_any v1 la _ (M1.out.low B7.out) G1.out).mono ?_
    rintro e w8 ⟨x5, rfl, i, hb⟩
    have B8 := hid (B7.out.trans (hb.mono B7.out.size))
    have S_x5 := hid i
    clear hb i
    go_wp2_with fail
    refine (check_any _ la _ S_x5.out.items G1.out).mono ?_
    rintro e w9 ⟨rfl, hb⟩
    have B9 := hid (B8.out.trans (hb.mono B8.out.size))
    replace S_x5 := hid (S_x5.out.low hb)
    clear hb
    rw [o1]
    go_wp2_with fail
    refine (cop_any v2 lb _ (M2.out.low B9.out) G2.out).mono ?_
    rintro e w10 ⟨x6, rfl, i, hb⟩
    have B10 := hid (B9.out.trans (hb.mono B9.out.size))
    have S_x6 := hid i
    clear hb i
    go_wp2_with fail
    refine (check_any _ lb _ S_x6.out.items G2.out).mono ?_
    rintro e w11 ⟨rfl, hb⟩
    have B11 := hid (B10.out.trans (hb.mono B10.out.size))
    replace S_x6 := hid (S_x6.out.low hb)
    clear hb
    rw [o2]
    go_wp2_with fail
    refine (same_yes (.slice none 0 0) (.slice none 0 0) [] [] _ ⟨_, _, rfl, Or.inl rfl⟩ ⟨_, _, rfl, Or.inl rfl⟩ (by decide) rfl (fun j hj => by simp at hj)).mono ?_
    rintro e w12 ⟨rfl, hb⟩
    have B12 := hid (B11.out.trans (hb.mono B11.out.size))
    clear hb
    go_wp2_with fail
    go_ret
    exact ⟨rfl, B12.out⟩
end Go.Proofs.Ytnlohjcjboelgab.L
