import Derived.Test.YtimmjikpcekffaaGreatDoorMgAD
namespace Go.Proofs.YtimmjikpcekffaaGreatDoor.L
open Go.RowKit
set_option linter.unusedVariables false
set_option linter.unusedSimpArgs false
def siB (pods : Bool) (sd : Int) : Bool := sd == 1 || ((sd == 3 && pods) || (sd == 2 && !pods))
def rtxB (tk : Int) : Bool := tk == 2 || tk == 3
def rnuB (tk : Int) : Bool := decide (4 ≤ tk) && decide (tk ≤ 6)
def rofB (tk ts : Int) : Bool := tk == 1 || ts == 1
set_option maxHeartbeats 4000000 in
set_option maxRecDepth 100000 in
theorem rside_true (sd : Int) (w : World)  : Calls Tryz.prog 52 #[.int .i64 sd, .bool true] w fun e w' => e = .returned (.bool (siB true sd)) ∧ Below w.heap.size w w' := by
  cases h1 : (sd == 1)
  · cases h2 : (sd == 3)
    · cases h3 : (sd == 2)
      · go_enter Tryz.func52, Tryz.ntmps52
        go_wp2_with fail
        go_ret
        exact ⟨by first | rfl | (simp [siB, h1, h2, h3]), by first | exact Below.refl _ _ | exact (Below.refl _ w).alloc (Nat.le_refl _) _ | exact ((Below.refl _ w).alloc (Nat.le_refl _) _).alloc (by simp) _⟩
      · go_enter Tryz.func52, Tryz.ntmps52
        go_wp2_with fail
        go_ret
        exact ⟨by first | rfl | (simp [siB, h1, h2, h3]), by first | exact Below.refl _ _ | exact (Below.refl _ w).alloc (Nat.le_refl _) _ | exact ((Below.refl _ w).alloc (Nat.le_refl _) _).alloc (by simp) _⟩
    · cases h4 : (sd == 2)
      · go_enter Tryz.func52, Tryz.ntmps52
        go_wp2_with fail
        go_ret
        exact ⟨by first | rfl | (simp [siB, h1, h2, h4]), by first | exact Below.refl _ _ | exact (Below.refl _ w).alloc (Nat.le_refl _) _ | exact ((Below.refl _ w).alloc (Nat.le_refl _) _).alloc (by simp) _⟩
      · go_enter Tryz.func52, Tryz.ntmps52
        go_wp2_with fail
        go_ret
        exact ⟨by first | rfl | (simp [siB, h1, h2, h4]), by first | exact Below.refl _ _ | exact (Below.refl _ w).alloc (Nat.le_refl _) _ | exact ((Below.refl _ w).alloc (Nat.le_refl _) _).alloc (by simp) _⟩
  · go_enter Tryz.func52, Tryz.ntmps52
    go_wp2_with fail
    go_ret
    exact ⟨by first | rfl | (simp [siB, h1]), by first | exact Below.refl _ _ | exact (Below.refl _ w).alloc (Nat.le_refl _) _ | exact ((Below.refl _ w).alloc (Nat.le_refl _) _).alloc (by simp) _⟩
set_option maxHeartbeats 4000000 in
set_option maxRecDepth 100000 in
theorem rside_false (sd : Int) (w : World)  : Calls Tryz.prog 52 #[.int .i64 sd, .bool false] w fun e w' => e = .returned (.bool (siB false sd)) ∧ Below w.heap.size w w' := by
  cases h1 : (sd == 1)
  · cases h2 : (sd == 3)
    · cases h3 : (sd == 2)
      · go_enter Tryz.func52, Tryz.ntmps52
        go_wp2_with fail
        go_ret
        exact ⟨by first | rfl | (simp [siB, h1, h2, h3]), by first | exact Below.refl _ _ | exact (Below.refl _ w).alloc (Nat.le_refl _) _ | exact ((Below.refl _ w).alloc (Nat.le_refl _) _).alloc (by simp) _⟩
      · go_enter Tryz.func52, Tryz.ntmps52
        go_wp2_with fail
        go_ret
        exact ⟨by first | rfl | (simp [siB, h1, h2, h3]), by first | exact Below.refl _ _ | exact (Below.refl _ w).alloc (Nat.le_refl _) _ | exact ((Below.refl _ w).alloc (Nat.le_refl _) _).alloc (by simp) _⟩
    · cases h4 : (sd == 2)
      · go_enter Tryz.func52, Tryz.ntmps52
        go_wp2_with fail
        go_ret
        exact ⟨by first | rfl | (simp [siB, h1, h2, h4]), by first | exact Below.refl _ _ | exact (Below.refl _ w).alloc (Nat.le_refl _) _ | exact ((Below.refl _ w).alloc (Nat.le_refl _) _).alloc (by simp) _⟩
      · go_enter Tryz.func52, Tryz.ntmps52
        go_wp2_with fail
        go_ret
        exact ⟨by first | rfl | (simp [siB, h1, h2, h4]), by first | exact Below.refl _ _ | exact (Below.refl _ w).alloc (Nat.le_refl _) _ | exact ((Below.refl _ w).alloc (Nat.le_refl _) _).alloc (by simp) _⟩
  · go_enter Tryz.func52, Tryz.ntmps52
    go_wp2_with fail
    go_ret
    exact ⟨by first | rfl | (simp [siB, h1]), by first | exact Below.refl _ _ | exact (Below.refl _ w).alloc (Nat.le_refl _) _ | exact ((Below.refl _ w).alloc (Nat.le_refl _) _).alloc (by simp) _⟩
theorem rside_any (sd : Int) (pods : Bool) (w : World) : Calls Tryz.prog 52 #[.int .i64 sd, .bool pods] w fun e w' => e = .returned (.bool (siB pods sd)) ∧ Below w.heap.size w w' := by
  cases pods
  · exact rside_false sd w
  · exact rside_true sd w
set_option maxHeartbeats 4000000 in
set_option maxRecDepth 100000 in
theorem rtext_of (tk ts : Int) (ty : ByteArray) (tl : Int) (w : World)  : Calls Tryz.prog 53 #[.agg #[.int .i64 tk, .int .i64 ts, .string ty, .int .i64 tl]] w fun e w' => e = .returned (.bool (rtxB tk)) ∧ Below w.heap.size w w' := by
  have HLX := hid (show Below w.heap.size w (w.alloc (.cells #[.int .i64 tk, .int .i64 ts, .string ty, .int .i64 tl] 45)) from ((Below.refl _ w).alloc (by simp) _))
  have X0 : Bs (w.alloc (.cells #[.int .i64 tk, .int .i64 ts, .string ty, .int .i64 tl] 45)) w.heap.size [.int .i64 tk, .int .i64 ts, .string ty, .int .i64 tl] := by simpa using bs_1_0 w _ _
  go_enter Tryz.func53, Tryz.ntmps53
  go_upto_region 1 with (fail)
  generalize (w.alloc (.cells #[.int .i64 tk, .int .i64 ts, .string ty, .int .i64 tl] 45)) = x0 at *
  have c0 := bs4 X0
  have z0 := X0.1
  cases h1 : (tk == 2)
  · cases h2 : (tk == 3)
    · go_wp2_with fail
      go_ret
      exact ⟨by first | rfl | (simp [rtxB, h1, h2]), HLX.out⟩
    · go_wp2_with fail
      go_ret
      exact ⟨by first | rfl | (simp [rtxB, h1, h2]), HLX.out⟩
  · go_wp2_with fail
    go_ret
    exact ⟨by first | rfl | (simp [rtxB, h1]), HLX.out⟩
set_option maxHeartbeats 4000000 in
set_option maxRecDepth 100000 in
theorem rnumber_of (tk ts : Int) (ty : ByteArray) (tl : Int) (w : World)  : Calls Tryz.prog 81 #[.agg #[.int .i64 tk, .int .i64 ts, .string ty, .int .i64 tl]] w fun e w' => e = .returned (.bool (rnuB tk)) ∧ Below w.heap.size w w' := by
  have HLX := hid (show Below w.heap.size w (w.alloc (.cells #[.int .i64 tk, .int .i64 ts, .string ty, .int .i64 tl] 45)) from ((Below.refl _ w).alloc (by simp) _))
  have X0 : Bs (w.alloc (.cells #[.int .i64 tk, .int .i64 ts, .string ty, .int .i64 tl] 45)) w.heap.size [.int .i64 tk, .int .i64 ts, .string ty, .int .i64 tl] := by simpa using bs_1_0 w _ _
  go_enter Tryz.func81, Tryz.ntmps81
  go_upto_region 1 with (fail)
  generalize (w.alloc (.cells #[.int .i64 tk, .int .i64 ts, .string ty, .int .i64 tl] 45)) = x0 at *
  have c0 := bs4 X0
  have z0 := X0.1
  cases h1 : (decide (4 ≤ tk))
  · go_wp2_with fail
    go_ret
    exact ⟨by first | rfl | (simp [rnuB, h1]), HLX.out⟩
  · cases h2 : (decide (tk ≤ 6))
    · go_wp2_with fail
      go_ret
      exact ⟨by first | rfl | (simp [rnuB, h1, h2]), HLX.out⟩
    · go_wp2_with fail
      go_ret
      exact ⟨by first | rfl | (simp [rnuB, h1, h2]), HLX.out⟩
set_option maxHeartbeats 4000000 in
set_option maxRecDepth 100000 in
theorem rofpod_of (tk ts : Int) (ty : ByteArray) (tl : Int) (w : World)  : Calls Tryz.prog 54 #[.agg #[.int .i64 tk, .int .i64 ts, .string ty, .int .i64 tl]] w fun e w' => e = .returned (.bool (rofB tk ts)) ∧ Below w.heap.size w w' := by
  have HLX := hid (show Below w.heap.size w (w.alloc (.cells #[.int .i64 tk, .int .i64 ts, .string ty, .int .i64 tl] 45)) from ((Below.refl _ w).alloc (by simp) _))
  have X0 : Bs (w.alloc (.cells #[.int .i64 tk, .int .i64 ts, .string ty, .int .i64 tl] 45)) w.heap.size [.int .i64 tk, .int .i64 ts, .string ty, .int .i64 tl] := by simpa using bs_1_0 w _ _
  go_enter Tryz.func54, Tryz.ntmps54
  go_upto_region 1 with (fail)
  generalize (w.alloc (.cells #[.int .i64 tk, .int .i64 ts, .string ty, .int .i64 tl] 45)) = x0 at *
  have c0 := bs4 X0
  have z0 := X0.1
  cases h1 : (tk == 1)
  · cases h2 : (ts == 1)
    · go_wp2_with fail
      go_ret
      exact ⟨by first | rfl | (simp [rofB, h1, h2]), HLX.out⟩
    · go_wp2_with fail
      go_ret
      exact ⟨by first | rfl | (simp [rofB, h1, h2]), HLX.out⟩
  · go_wp2_with fail
    go_ret
    exact ⟨by first | rfl | (simp [rofB, h1]), HLX.out⟩
/-- What the document's Term answers. -/
def rteB (pods : Bool) (ns tk ts : Int) (ty : ByteArray) (tl : Int) : Bool := if decide ((127 : Int) < (ty.size : Int)) then false else if tk == 1 then ts == 0 && tl == 0 else if tk == 2 then siB pods ts && tl == 0 else if tk == 4 then siB pods ts && tl == 0 else if tk == 3 then siB pods ts && (tl == 0 && ty.toList == []) else if tk == 5 then !pods && (ts == 0 && tl == 0) else if tk == 6 then !pods && (ts == 0 && (decide (0 ≤ tl) && decide (tl < ns))) else false
set_option maxHeartbeats 4000000 in
set_option maxRecDepth 100000 in
theorem rterm_true (tk ts : Int) (ty : ByteArray) (tl : Int) (ns : Int) (w : World) (hs : ty.size ≤ maxLen) : Calls Tryz.prog 48 #[.agg #[.int .i64 tk, .int .i64 ts, .string ty, .int .i64 tl], .bool true, .int .i64 ns] w fun e w' => e = .returned (.bool (rteB true ns tk ts ty tl)) ∧ Below w.heap.size w w' := by
  unfold maxLen at hs
  have HLX := hid (show Below w.heap.size w (w.alloc (.cells #[.int .i64 tk, .int .i64 ts, .string ty, .int .i64 tl] 45)) from ((Below.refl _ w).alloc (by simp) _))
  have X0 : Bs (w.alloc (.cells #[.int .i64 tk, .int .i64 ts, .string ty, .int .i64 tl] 45)) w.heap.size [.int .i64 tk, .int .i64 ts, .string ty, .int .i64 tl] := by simpa using bs_1_0 w _ _
  go_enter Tryz.func48, Tryz.ntmps48
  go_upto_region 1 with (fail)
  generalize (w.alloc (.cells #[.int .i64 tk, .int .i64 ts, .string ty, .int .i64 tl] 45)) = x0 at *
  have c0 := bs4 X0
  have z0 := X0.1
  cases h1 : (decide ((127 : Int) < (ty.size : Int)))
  · cases h2 : (tk == 1)
    · cases h3 : (tk == 2)
      · cases h4 : (tk == 4)
        · cases h5 : (tk == 3)
          · cases h6 : (tk == 5)
            · cases h7 : (tk == 6)
              · go_wp2_with fail
                go_ret
                exact ⟨by first | rfl | (simp [rteB, h1, h2, h3, h4, h5, h6, h7]), HLX.out⟩
              · go_wp2_with fail
                go_ret
                exact ⟨by first | rfl | (simp [rteB, h1, h2, h3, h4, h5, h6, h7]), HLX.out⟩
            · go_wp2_with fail
              go_ret
              exact ⟨by first | rfl | (simp [rteB, h1, h2, h3, h4, h5, h6]), HLX.out⟩
          · have C := hid (rside_any ts true x0)
            go_wp2_with fail
            refine C.out.mono ?_
            rintro e x1 ⟨rfl, hb⟩
            replace HLX := hid (HLX.out.trans (hb.mono HLX.out.size))
            replace X0 := X0.low hb
            clear hb C
            clear c0 z0
            have c0 := bs4 X0
            have z0 := X0.1
            cases h8 : (siB true ts)
            · go_wp2_with fail
              go_ret
              exact ⟨by first | rfl | (simp [rteB, h1, h2, h3, h4, h5, h8]), HLX.out⟩
            · cases h9 : (tl == 0)
              · go_wp2_with fail
                go_ret
                exact ⟨by first | rfl | (simp [rteB, h1, h2, h3, h4, h5, h8, h9]), HLX.out⟩
              · cases h10 : (ty.toList == [])
                · go_wp2_with fail
                  go_ret
                  exact ⟨by first | rfl | (simp [rteB, h1, h2, h3, h4, h5, h8, h9, h10]), HLX.out⟩
                · go_wp2_with fail
                  go_ret
                  exact ⟨by first | rfl | (simp [rteB, h1, h2, h3, h4, h5, h8, h9, h10]), HLX.out⟩
        · have C := hid (rside_any ts true x0)
          go_wp2_with fail
          refine C.out.mono ?_
          rintro e x1 ⟨rfl, hb⟩
          replace HLX := hid (HLX.out.trans (hb.mono HLX.out.size))
          replace X0 := X0.low hb
          clear hb C
          clear c0 z0
          have c0 := bs4 X0
          have z0 := X0.1
          cases h11 : (siB true ts)
          · go_wp2_with fail
            go_ret
            exact ⟨by first | rfl | (simp [rteB, h1, h2, h3, h4, h11]), HLX.out⟩
          · cases h12 : (tl == 0)
            · go_wp2_with fail
              go_ret
              exact ⟨by first | rfl | (simp [rteB, h1, h2, h3, h4, h11, h12]), HLX.out⟩
            · go_wp2_with fail
              go_ret
              exact ⟨by first | rfl | (simp [rteB, h1, h2, h3, h4, h11, h12]), HLX.out⟩
      · have C := hid (rside_any ts true x0)
        go_wp2_with fail
        refine C.out.mono ?_
        rintro e x1 ⟨rfl, hb⟩
        replace HLX := hid (HLX.out.trans (hb.mono HLX.out.size))
        replace X0 := X0.low hb
        clear hb C
        clear c0 z0
        have c0 := bs4 X0
        have z0 := X0.1
        cases h13 : (siB true ts)
        · go_wp2_with fail
          go_ret
          exact ⟨by first | rfl | (simp [rteB, h1, h2, h3, h13]), HLX.out⟩
        · cases h14 : (tl == 0)
          · go_wp2_with fail
            go_ret
            exact ⟨by first | rfl | (simp [rteB, h1, h2, h3, h13, h14]), HLX.out⟩
          · go_wp2_with fail
            go_ret
            exact ⟨by first | rfl | (simp [rteB, h1, h2, h3, h13, h14]), HLX.out⟩
    · cases h15 : (ts == 0)
      · go_wp2_with fail
        go_ret
        exact ⟨by first | rfl | (simp [rteB, h1, h2, h15]), HLX.out⟩
      · cases h16 : (tl == 0)
        · go_wp2_with fail
          go_ret
          exact ⟨by first | rfl | (simp [rteB, h1, h2, h15, h16]), HLX.out⟩
        · go_wp2_with fail
          go_ret
          exact ⟨by first | rfl | (simp [rteB, h1, h2, h15, h16]), HLX.out⟩
  · go_wp2_with fail
    go_ret
    exact ⟨by first | rfl | (simp [rteB, h1]), HLX.out⟩
set_option maxHeartbeats 4000000 in
set_option maxRecDepth 100000 in
theorem rterm_false (tk ts : Int) (ty : ByteArray) (tl : Int) (ns : Int) (w : World) (hs : ty.size ≤ maxLen) : Calls Tryz.prog 48 #[.agg #[.int .i64 tk, .int .i64 ts, .string ty, .int .i64 tl], .bool false, .int .i64 ns] w fun e w' => e = .returned (.bool (rteB false ns tk ts ty tl)) ∧ Below w.heap.size w w' := by
  unfold maxLen at hs
  have HLX := hid (show Below w.heap.size w (w.alloc (.cells #[.int .i64 tk, .int .i64 ts, .string ty, .int .i64 tl] 45)) from ((Below.refl _ w).alloc (by simp) _))
  have X0 : Bs (w.alloc (.cells #[.int .i64 tk, .int .i64 ts, .string ty, .int .i64 tl] 45)) w.heap.size [.int .i64 tk, .int .i64 ts, .string ty, .int .i64 tl] := by simpa using bs_1_0 w _ _
  go_enter Tryz.func48, Tryz.ntmps48
  go_upto_region 1 with (fail)
  generalize (w.alloc (.cells #[.int .i64 tk, .int .i64 ts, .string ty, .int .i64 tl] 45)) = x0 at *
  have c0 := bs4 X0
  have z0 := X0.1
  cases h1 : (decide ((127 : Int) < (ty.size : Int)))
  · cases h2 : (tk == 1)
    · cases h3 : (tk == 2)
      · cases h4 : (tk == 4)
        · cases h5 : (tk == 3)
          · cases h6 : (tk == 5)
            · cases h7 : (tk == 6)
              · go_wp2_with fail
                go_ret
                exact ⟨by first | rfl | (simp [rteB, h1, h2, h3, h4, h5, h6, h7]), HLX.out⟩
              · cases h8 : (ts == 0)
                · go_wp2_with fail
                  go_ret
                  exact ⟨by first | rfl | (simp [rteB, h1, h2, h3, h4, h5, h6, h7, h8]), HLX.out⟩
                · cases h9 : (decide (0 ≤ tl))
                  · go_wp2_with fail
                    go_ret
                    exact ⟨by first | rfl | (simp [rteB, h1, h2, h3, h4, h5, h6, h7, h8, h9]), HLX.out⟩
                  · cases h10 : (decide (tl < ns))
                    · go_wp2_with fail
                      go_ret
                      exact ⟨by first | rfl | (simp [rteB, h1, h2, h3, h4, h5, h6, h7, h8, h9, h10]), HLX.out⟩
                    · go_wp2_with fail
                      go_ret
                      exact ⟨by first | rfl | (simp [rteB, h1, h2, h3, h4, h5, h6, h7, h8, h9, h10]), HLX.out⟩
            · cases h11 : (ts == 0)
              · go_wp2_with fail
                go_ret
                exact ⟨by first | rfl | (simp [rteB, h1, h2, h3, h4, h5, h6, h11]), HLX.out⟩
              · cases h12 : (tl == 0)
                · go_wp2_with fail
                  go_ret
                  exact ⟨by first | rfl | (simp [rteB, h1, h2, h3, h4, h5, h6, h11, h12]), HLX.out⟩
                · go_wp2_with fail
                  go_ret
                  exact ⟨by first | rfl | (simp [rteB, h1, h2, h3, h4, h5, h6, h11, h12]), HLX.out⟩
          · have C := hid (rside_any ts false x0)
            go_wp2_with fail
            refine C.out.mono ?_
            rintro e x1 ⟨rfl, hb⟩
            replace HLX := hid (HLX.out.trans (hb.mono HLX.out.size))
            replace X0 := X0.low hb
            clear hb C
            clear c0 z0
            have c0 := bs4 X0
            have z0 := X0.1
            cases h13 : (siB false ts)
            · go_wp2_with fail
              go_ret
              exact ⟨by first | rfl | (simp [rteB, h1, h2, h3, h4, h5, h13]), HLX.out⟩
            · cases h14 : (tl == 0)
              · go_wp2_with fail
                go_ret
                exact ⟨by first | rfl | (simp [rteB, h1, h2, h3, h4, h5, h13, h14]), HLX.out⟩
              · cases h15 : (ty.toList == [])
                · go_wp2_with fail
                  go_ret
                  exact ⟨by first | rfl | (simp [rteB, h1, h2, h3, h4, h5, h13, h14, h15]), HLX.out⟩
                · go_wp2_with fail
                  go_ret
                  exact ⟨by first | rfl | (simp [rteB, h1, h2, h3, h4, h5, h13, h14, h15]), HLX.out⟩
        · have C := hid (rside_any ts false x0)
          go_wp2_with fail
          refine C.out.mono ?_
          rintro e x1 ⟨rfl, hb⟩
          replace HLX := hid (HLX.out.trans (hb.mono HLX.out.size))
          replace X0 := X0.low hb
          clear hb C
          clear c0 z0
          have c0 := bs4 X0
          have z0 := X0.1
          cases h16 : (siB false ts)
          · go_wp2_with fail
            go_ret
            exact ⟨by first | rfl | (simp [rteB, h1, h2, h3, h4, h16]), HLX.out⟩
          · cases h17 : (tl == 0)
            · go_wp2_with fail
              go_ret
              exact ⟨by first | rfl | (simp [rteB, h1, h2, h3, h4, h16, h17]), HLX.out⟩
            · go_wp2_with fail
              go_ret
              exact ⟨by first | rfl | (simp [rteB, h1, h2, h3, h4, h16, h17]), HLX.out⟩
      · have C := hid (rside_any ts false x0)
        go_wp2_with fail
        refine C.out.mono ?_
        rintro e x1 ⟨rfl, hb⟩
        replace HLX := hid (HLX.out.trans (hb.mono HLX.out.size))
        replace X0 := X0.low hb
        clear hb C
        clear c0 z0
        have c0 := bs4 X0
        have z0 := X0.1
        cases h18 : (siB false ts)
        · go_wp2_with fail
          go_ret
          exact ⟨by first | rfl | (simp [rteB, h1, h2, h3, h18]), HLX.out⟩
        · cases h19 : (tl == 0)
          · go_wp2_with fail
            go_ret
            exact ⟨by first | rfl | (simp [rteB, h1, h2, h3, h18, h19]), HLX.out⟩
          · go_wp2_with fail
            go_ret
            exact ⟨by first | rfl | (simp [rteB, h1, h2, h3, h18, h19]), HLX.out⟩
    · cases h20 : (ts == 0)
      · go_wp2_with fail
        go_ret
        exact ⟨by first | rfl | (simp [rteB, h1, h2, h20]), HLX.out⟩
      · cases h21 : (tl == 0)
        · go_wp2_with fail
          go_ret
          exact ⟨by first | rfl | (simp [rteB, h1, h2, h20, h21]), HLX.out⟩
        · go_wp2_with fail
          go_ret
          exact ⟨by first | rfl | (simp [rteB, h1, h2, h20, h21]), HLX.out⟩
  · go_wp2_with fail
    go_ret
    exact ⟨by first | rfl | (simp [rteB, h1]), HLX.out⟩
theorem rterm_any (tk ts : Int) (ty : ByteArray) (tl : Int) (ns : Int) (pods : Bool) (w : World) (hs : ty.size ≤ maxLen) : Calls Tryz.prog 48 #[.agg #[.int .i64 tk, .int .i64 ts, .string ty, .int .i64 tl], .bool pods, .int .i64 ns] w fun e w' => e = .returned (.bool (rteB pods ns tk ts ty tl)) ∧ Below w.heap.size w w' := by
  cases pods
  · exact rterm_false tk ts ty tl ns w hs
  · exact rterm_true tk ts ty tl ns w hs
end Go.Proofs.YtimmjikpcekffaaGreatDoor.L
