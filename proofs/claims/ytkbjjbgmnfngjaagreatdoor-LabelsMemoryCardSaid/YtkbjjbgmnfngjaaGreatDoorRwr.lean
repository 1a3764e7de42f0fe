import Derived.Test.YtkbjjbgmnfngjaaGreatDoorGp2
namespace Go.Proofs.YtkbjjbgmnfngjaaGreatDoor.L
open Go.RowKit
set_option linter.unusedVariables false
/-- The key ahead of the i-th. -/
def prvD (L : List Df) (i : Nat) : ByteArray := if h : 0 < i ∧ i - 1 < L.length then L[i - 1].k else ByteArray.empty
theorem rise_start {k : ByteArray} (h : keyB k = true) : riseE ByteArray.empty k = 0 := rise_first h
set_option maxHeartbeats 16000000 in
set_option maxRecDepth 100000 in
theorem rwrong_first (b off len cap : Nat) (d : Df) (w : World) (hbl : b < w.heap.size) (hi : 0 < len) (hL : len ≤ 2600000000000) (z1 : d.k.size ≤ maxLen) (z2 : d.o.size ≤ maxLen) (z3 : d.n.size ≤ maxLen) (hc : w.cell? ⟨b, off, none⟩ = some (.string d.k) ∧ w.cell? ⟨b, off + 1, none⟩ = some (.string d.o) ∧ w.cell? ⟨b, off + 2, none⟩ = some (.string d.n) ∧ w.cell? ⟨b, off + 3, none⟩ = some (.bool d.had) ∧ w.cell? ⟨b, off + 4, none⟩ = some (.bool d.has)) :
    Calls Tryz.prog 48 #[.slice (some ⟨b, off, none⟩) len cap, .int .i64 ((0 : Nat) : Int)] w fun e w' => e = .returned (.int .i64 (wE ByteArray.empty d)) ∧ Below w.heap.size w w' := by
  have F1 := hid (fun W => rkey_any d.k W z1)
  have F2 := hid (fun W => rvalue_any d.o W z2)
  have F3 := hid (fun W => rvalue_any d.n W z3)
  obtain ⟨E, hE⟩ : ∃ E, E = wE ByteArray.empty d := ⟨_, rfl⟩
  rw [← hE]
  unfold wE at hE
  have VN := hid val_nul
  obtain ⟨dk, dO, dn, dh, ds⟩ := d
  obtain ⟨d0, d1, d2, d3, d4⟩ := hc
  simp only at d0 d1 d2 d3 d4 F1 F2 F3 hE
  have B0 := hid (belowA w (.cells #[.string dk, .string dO, .string dn, .bool dh, .bool ds] 52))
  have hi1 : (0 : Int) < (len : Int) := by omega
  rw [show ((0 : Nat) : Int) = 0 from rfl]
  cases k1 : keyB dk
  · rw [k1] at F1 hE
    simp only [if_true] at hE
    generalize valB dO = vo at *
    generalize valB dn = vn at *
    subst hE
    go_enter Tryz.func48, Tryz.ntmps48
    go_wp2_with fail
    have N0 := five_new w ⟨dk, dO, dn, dh, ds⟩ 52
    have b0 := belowA w (.cells #[.string dk, .string dO, .string dn, .bool dh, .bool ds] 52)
    refine (F1.out _).mono ?_
    rintro e w1 ⟨rfl, hb⟩
    obtain ⟨e0, e1, e2, e3, e4⟩ := N0.low hb (by simp)
    have hbl1 : b < w1.heap.size := Nat.lt_of_lt_of_le (by simp; omega) hb.size
    clear d0 d1 d2 d3 d4
    have B1 := hid (b0.trans (hb.mono b0.size))
    have Z1 := (show w.heap.size < w1.heap.size from Nat.lt_of_lt_of_le (by simp) hb.size)
    clear hb N0 b0
    simp only at e0 e1 e2 e3 e4
    go_wp2_with fail
    refine (F2.out _).mono ?_
    rintro e w2 ⟨rfl, hw⟩; subst hw
    go_wp2_with fail
    refine (F3.out _).mono ?_
    rintro e w2 ⟨rfl, hw⟩; subst hw
    go_wp2_with fail
    go_ret
    first | exact ⟨rfl, B1.out⟩ | exact ⟨rfl, below_drewN B1.out _⟩ | exact ⟨rfl, below_drewN (below_drewN B1.out _) _⟩
  · rw [k1] at F1 hE
    simp only [Bool.true_eq_false, if_false] at hE
    rw [rise_start k1, if_pos rfl] at hE
    cases dh with
    | false =>
      cases ds with
      | false =>
        simp only [somB, if_true] at hE
        generalize valB dO = vo at *
        generalize valB dn = vn at *
        subst hE
        go_enter Tryz.func48, Tryz.ntmps48
        go_wp2_with fail
        have N0 := five_new w ⟨dk, dO, dn, false, false⟩ 52
        have b0 := belowA w (.cells #[.string dk, .string dO, .string dn, .bool false, .bool false] 52)
        refine (F1.out _).mono ?_
        rintro e w1 ⟨rfl, hb⟩
        obtain ⟨e0, e1, e2, e3, e4⟩ := N0.low hb (by simp)
        have hbl1 : b < w1.heap.size := Nat.lt_of_lt_of_le (by simp; omega) hb.size
        clear d0 d1 d2 d3 d4
        have B1 := hid (b0.trans (hb.mono b0.size))
        have Z1 := (show w.heap.size < w1.heap.size from Nat.lt_of_lt_of_le (by simp) hb.size)
        clear hb N0 b0
        simp only at e0 e1 e2 e3 e4
        go_wp2_with fail
        refine (F2.out _).mono ?_
        rintro e w2 ⟨rfl, hw⟩; subst hw
        go_wp2_with fail
        refine (F3.out _).mono ?_
        rintro e w2 ⟨rfl, hw⟩; subst hw
        go_wp2_with fail
        go_quiet (fail)
        go_wp2_with fail
        go_quiet (fail)
        go_wp2_with fail
        go_ret
        first | exact ⟨rfl, B1.out⟩ | exact ⟨rfl, below_drewN B1.out _⟩ | exact ⟨rfl, below_drewN (below_drewN B1.out _) _⟩
      | true =>
        by_cases o1 : dO = ByteArray.empty
        · subst o1
          rw [VN.out] at F2 hE
          simp only [somB, eqS_iff.2 rfl, Bool.true_eq_false, if_false] at hE
          cases v1 : valB dn
          · rw [v1] at F3 hE
            simp only [if_true] at hE
            subst hE
            go_enter Tryz.func48, Tryz.ntmps48
            go_wp2_with fail
            have N0 := five_new w ⟨dk, ByteArray.empty, dn, false, true⟩ 52
            have b0 := belowA w (.cells #[.string dk, .string ByteArray.empty, .string dn, .bool false, .bool true] 52)
            refine (F1.out _).mono ?_
            rintro e w1 ⟨rfl, hb⟩
            obtain ⟨e0, e1, e2, e3, e4⟩ := N0.low hb (by simp)
            have hbl1 : b < w1.heap.size := Nat.lt_of_lt_of_le (by simp; omega) hb.size
            clear d0 d1 d2 d3 d4
            have B1 := hid (b0.trans (hb.mono b0.size))
            have Z1 := (show w.heap.size < w1.heap.size from Nat.lt_of_lt_of_le (by simp) hb.size)
            clear hb N0 b0
            simp only at e0 e1 e2 e3 e4
            go_wp2_with fail
            refine (F2.out _).mono ?_
            rintro e w2 ⟨rfl, hw⟩; subst hw
            go_wp2_with fail
            refine (F3.out _).mono ?_
            rintro e w2 ⟨rfl, hw⟩; subst hw
            go_wp2_with fail
            go_quiet (fail)
            go_wp2_with fail
            go_quiet (fail)
            go_wp2_with fail
            go_ret
            first | exact ⟨rfl, B1.out⟩ | exact ⟨rfl, below_drewN B1.out _⟩ | exact ⟨rfl, below_drewN (below_drewN B1.out _) _⟩
          · rw [v1] at F3 hE
            simp only [Bool.true_eq_false, if_false] at hE
            subst hE
            go_enter Tryz.func48, Tryz.ntmps48
            go_wp2_with fail
            have N0 := five_new w ⟨dk, ByteArray.empty, dn, false, true⟩ 52
            have b0 := belowA w (.cells #[.string dk, .string ByteArray.empty, .string dn, .bool false, .bool true] 52)
            refine (F1.out _).mono ?_
            rintro e w1 ⟨rfl, hb⟩
            obtain ⟨e0, e1, e2, e3, e4⟩ := N0.low hb (by simp)
            have hbl1 : b < w1.heap.size := Nat.lt_of_lt_of_le (by simp; omega) hb.size
            clear d0 d1 d2 d3 d4
            have B1 := hid (b0.trans (hb.mono b0.size))
            have Z1 := (show w.heap.size < w1.heap.size from Nat.lt_of_lt_of_le (by simp) hb.size)
            clear hb N0 b0
            simp only at e0 e1 e2 e3 e4
            go_wp2_with fail
            refine (F2.out _).mono ?_
            rintro e w2 ⟨rfl, hw⟩; subst hw
            go_wp2_with fail
            refine (F3.out _).mono ?_
            rintro e w2 ⟨rfl, hw⟩; subst hw
            go_wp2_with fail
            go_quiet (fail)
            go_wp2_with fail
            go_quiet (fail)
            go_wp2_with fail
            go_ret
            first | exact ⟨rfl, B1.out⟩ | exact ⟨rfl, below_drewN B1.out _⟩ | exact ⟨rfl, below_drewN (below_drewN B1.out _) _⟩
        · have o2 := ne_empty o1
          simp only [somB, eqS_ne.2 o1, if_true] at hE
          generalize valB dO = vo at *
          generalize valB dn = vn at *
          clear o1
          subst hE
          go_enter Tryz.func48, Tryz.ntmps48
          go_wp2_with fail
          have N0 := five_new w ⟨dk, dO, dn, false, true⟩ 52
          have b0 := belowA w (.cells #[.string dk, .string dO, .string dn, .bool false, .bool true] 52)
          refine (F1.out _).mono ?_
          rintro e w1 ⟨rfl, hb⟩
          obtain ⟨e0, e1, e2, e3, e4⟩ := N0.low hb (by simp)
          have hbl1 : b < w1.heap.size := Nat.lt_of_lt_of_le (by simp; omega) hb.size
          clear d0 d1 d2 d3 d4
          have B1 := hid (b0.trans (hb.mono b0.size))
          have Z1 := (show w.heap.size < w1.heap.size from Nat.lt_of_lt_of_le (by simp) hb.size)
          clear hb N0 b0
          simp only at e0 e1 e2 e3 e4
          go_wp2_with fail
          refine (F2.out _).mono ?_
          rintro e w2 ⟨rfl, hw⟩; subst hw
          go_wp2_with fail
          refine (F3.out _).mono ?_
          rintro e w2 ⟨rfl, hw⟩; subst hw
          go_wp2_with fail
          go_quiet (fail)
          go_wp2_with fail
          go_quiet (fail)
          go_wp2_with fail
          go_ret
          first | exact ⟨rfl, B1.out⟩ | exact ⟨rfl, below_drewN B1.out _⟩ | exact ⟨rfl, below_drewN (below_drewN B1.out _) _⟩
    | true =>
      cases ds with
      | false =>
        by_cases o1 : dn = ByteArray.empty
        · subst o1
          rw [VN.out] at F3 hE
          simp only [somB, eqS_iff.2 rfl, Bool.true_eq_false, if_false] at hE
          cases v1 : valB dO
          · rw [v1] at F2 hE
            simp only [if_true] at hE
            subst hE
            go_enter Tryz.func48, Tryz.ntmps48
            go_wp2_with fail
            have N0 := five_new w ⟨dk, dO, ByteArray.empty, true, false⟩ 52
            have b0 := belowA w (.cells #[.string dk, .string dO, .string ByteArray.empty, .bool true, .bool false] 52)
            refine (F1.out _).mono ?_
            rintro e w1 ⟨rfl, hb⟩
            obtain ⟨e0, e1, e2, e3, e4⟩ := N0.low hb (by simp)
            have hbl1 : b < w1.heap.size := Nat.lt_of_lt_of_le (by simp; omega) hb.size
            clear d0 d1 d2 d3 d4
            have B1 := hid (b0.trans (hb.mono b0.size))
            have Z1 := (show w.heap.size < w1.heap.size from Nat.lt_of_lt_of_le (by simp) hb.size)
            clear hb N0 b0
            simp only at e0 e1 e2 e3 e4
            go_wp2_with fail
            refine (F2.out _).mono ?_
            rintro e w2 ⟨rfl, hw⟩; subst hw
            go_wp2_with fail
            refine (F3.out _).mono ?_
            rintro e w2 ⟨rfl, hw⟩; subst hw
            go_wp2_with fail
            go_quiet (fail)
            go_wp2_with fail
            go_quiet (fail)
            go_wp2_with fail
            go_ret
            first | exact ⟨rfl, B1.out⟩ | exact ⟨rfl, below_drewN B1.out _⟩ | exact ⟨rfl, below_drewN (below_drewN B1.out _) _⟩
          · rw [v1] at F2 hE
            simp only [Bool.true_eq_false, if_false] at hE
            subst hE
            go_enter Tryz.func48, Tryz.ntmps48
            go_wp2_with fail
            have N0 := five_new w ⟨dk, dO, ByteArray.empty, true, false⟩ 52
            have b0 := belowA w (.cells #[.string dk, .string dO, .string ByteArray.empty, .bool true, .bool false] 52)
            refine (F1.out _).mono ?_
            rintro e w1 ⟨rfl, hb⟩
            obtain ⟨e0, e1, e2, e3, e4⟩ := N0.low hb (by simp)
            have hbl1 : b < w1.heap.size := Nat.lt_of_lt_of_le (by simp; omega) hb.size
            clear d0 d1 d2 d3 d4
            have B1 := hid (b0.trans (hb.mono b0.size))
            have Z1 := (show w.heap.size < w1.heap.size from Nat.lt_of_lt_of_le (by simp) hb.size)
            clear hb N0 b0
            simp only at e0 e1 e2 e3 e4
            go_wp2_with fail
            refine (F2.out _).mono ?_
            rintro e w2 ⟨rfl, hw⟩; subst hw
            go_wp2_with fail
            refine (F3.out _).mono ?_
            rintro e w2 ⟨rfl, hw⟩; subst hw
            go_wp2_with fail
            go_quiet (fail)
            go_wp2_with fail
            go_quiet (fail)
            go_wp2_with fail
            go_ret
            first | exact ⟨rfl, B1.out⟩ | exact ⟨rfl, below_drewN B1.out _⟩ | exact ⟨rfl, below_drewN (below_drewN B1.out _) _⟩
        · have o2 := ne_empty o1
          simp only [somB, eqS_ne.2 o1, if_true] at hE
          generalize valB dO = vo at *
          generalize valB dn = vn at *
          clear o1
          subst hE
          go_enter Tryz.func48, Tryz.ntmps48
          go_wp2_with fail
          have N0 := five_new w ⟨dk, dO, dn, true, false⟩ 52
          have b0 := belowA w (.cells #[.string dk, .string dO, .string dn, .bool true, .bool false] 52)
          refine (F1.out _).mono ?_
          rintro e w1 ⟨rfl, hb⟩
          obtain ⟨e0, e1, e2, e3, e4⟩ := N0.low hb (by simp)
          have hbl1 : b < w1.heap.size := Nat.lt_of_lt_of_le (by simp; omega) hb.size
          clear d0 d1 d2 d3 d4
          have B1 := hid (b0.trans (hb.mono b0.size))
          have Z1 := (show w.heap.size < w1.heap.size from Nat.lt_of_lt_of_le (by simp) hb.size)
          clear hb N0 b0
          simp only at e0 e1 e2 e3 e4
          go_wp2_with fail
          refine (F2.out _).mono ?_
          rintro e w2 ⟨rfl, hw⟩; subst hw
          go_wp2_with fail
          refine (F3.out _).mono ?_
          rintro e w2 ⟨rfl, hw⟩; subst hw
          go_wp2_with fail
          go_quiet (fail)
          go_wp2_with fail
          go_quiet (fail)
          go_wp2_with fail
          go_ret
          first | exact ⟨rfl, B1.out⟩ | exact ⟨rfl, below_drewN B1.out _⟩ | exact ⟨rfl, below_drewN (below_drewN B1.out _) _⟩
      | true =>
        cases o1 : (dO.toList == dn.toList)
        · have o2 : eqS dO dn = false := o1
          simp only [somB, o2, Bool.not_false, Bool.true_eq_false, if_false] at hE
          clear o2
          cases v1 : valB dO
          · rw [v1] at F2 hE
            simp only [if_true] at hE
            generalize valB dn = vn at *
            subst hE
            go_enter Tryz.func48, Tryz.ntmps48
            go_wp2_with fail
            have N0 := five_new w ⟨dk, dO, dn, true, true⟩ 52
            have b0 := belowA w (.cells #[.string dk, .string dO, .string dn, .bool true, .bool true] 52)
            refine (F1.out _).mono ?_
            rintro e w1 ⟨rfl, hb⟩
            obtain ⟨e0, e1, e2, e3, e4⟩ := N0.low hb (by simp)
            have hbl1 : b < w1.heap.size := Nat.lt_of_lt_of_le (by simp; omega) hb.size
            clear d0 d1 d2 d3 d4
            have B1 := hid (b0.trans (hb.mono b0.size))
            have Z1 := (show w.heap.size < w1.heap.size from Nat.lt_of_lt_of_le (by simp) hb.size)
            clear hb N0 b0
            simp only at e0 e1 e2 e3 e4
            go_wp2_with fail
            refine (F2.out _).mono ?_
            rintro e w2 ⟨rfl, hw⟩; subst hw
            go_wp2_with fail
            refine (F3.out _).mono ?_
            rintro e w2 ⟨rfl, hw⟩; subst hw
            go_wp2_with fail
            go_quiet (fail)
            go_wp2_with fail
            go_quiet (fail)
            go_wp2_with fail
            go_ret
            first | exact ⟨rfl, B1.out⟩ | exact ⟨rfl, below_drewN B1.out _⟩ | exact ⟨rfl, below_drewN (below_drewN B1.out _) _⟩
          · rw [v1] at F2 hE
            simp only [Bool.true_eq_false, if_false] at hE
            cases v2 : valB dn
            · rw [v2] at F3 hE
              simp only [if_true] at hE
              subst hE
              go_enter Tryz.func48, Tryz.ntmps48
              go_wp2_with fail
              have N0 := five_new w ⟨dk, dO, dn, true, true⟩ 52
              have b0 := belowA w (.cells #[.string dk, .string dO, .string dn, .bool true, .bool true] 52)
              refine (F1.out _).mono ?_
              rintro e w1 ⟨rfl, hb⟩
              obtain ⟨e0, e1, e2, e3, e4⟩ := N0.low hb (by simp)
              have hbl1 : b < w1.heap.size := Nat.lt_of_lt_of_le (by simp; omega) hb.size
              clear d0 d1 d2 d3 d4
              have B1 := hid (b0.trans (hb.mono b0.size))
              have Z1 := (show w.heap.size < w1.heap.size from Nat.lt_of_lt_of_le (by simp) hb.size)
              clear hb N0 b0
              simp only at e0 e1 e2 e3 e4
              go_wp2_with fail
              refine (F2.out _).mono ?_
              rintro e w2 ⟨rfl, hw⟩; subst hw
              go_wp2_with fail
              refine (F3.out _).mono ?_
              rintro e w2 ⟨rfl, hw⟩; subst hw
              go_wp2_with fail
              go_quiet (fail)
              go_wp2_with fail
              go_quiet (fail)
              go_wp2_with fail
              go_ret
              first | exact ⟨rfl, B1.out⟩ | exact ⟨rfl, below_drewN B1.out _⟩ | exact ⟨rfl, below_drewN (below_drewN B1.out _) _⟩
            · rw [v2] at F3 hE
              simp only [Bool.true_eq_false, if_false] at hE
              subst hE
              go_enter Tryz.func48, Tryz.ntmps48
              go_wp2_with fail
              have N0 := five_new w ⟨dk, dO, dn, true, true⟩ 52
              have b0 := belowA w (.cells #[.string dk, .string dO, .string dn, .bool true, .bool true] 52)
              refine (F1.out _).mono ?_
              rintro e w1 ⟨rfl, hb⟩
              obtain ⟨e0, e1, e2, e3, e4⟩ := N0.low hb (by simp)
              have hbl1 : b < w1.heap.size := Nat.lt_of_lt_of_le (by simp; omega) hb.size
              clear d0 d1 d2 d3 d4
              have B1 := hid (b0.trans (hb.mono b0.size))
              have Z1 := (show w.heap.size < w1.heap.size from Nat.lt_of_lt_of_le (by simp) hb.size)
              clear hb N0 b0
              simp only at e0 e1 e2 e3 e4
              go_wp2_with fail
              refine (F2.out _).mono ?_
              rintro e w2 ⟨rfl, hw⟩; subst hw
              go_wp2_with fail
              refine (F3.out _).mono ?_
              rintro e w2 ⟨rfl, hw⟩; subst hw
              go_wp2_with fail
              go_quiet (fail)
              go_wp2_with fail
              go_quiet (fail)
              go_wp2_with fail
              go_ret
              first | exact ⟨rfl, B1.out⟩ | exact ⟨rfl, below_drewN B1.out _⟩ | exact ⟨rfl, below_drewN (below_drewN B1.out _) _⟩
        · have o2 : eqS dO dn = true := o1
          simp only [somB, o2, Bool.not_true, if_true] at hE
          clear o2
          generalize valB dO = vo at *
          generalize valB dn = vn at *
          subst hE
          go_enter Tryz.func48, Tryz.ntmps48
          go_wp2_with fail
          have N0 := five_new w ⟨dk, dO, dn, true, true⟩ 52
          have b0 := belowA w (.cells #[.string dk, .string dO, .string dn, .bool true, .bool true] 52)
          refine (F1.out _).mono ?_
          rintro e w1 ⟨rfl, hb⟩
          obtain ⟨e0, e1, e2, e3, e4⟩ := N0.low hb (by simp)
          have hbl1 : b < w1.heap.size := Nat.lt_of_lt_of_le (by simp; omega) hb.size
          clear d0 d1 d2 d3 d4
          have B1 := hid (b0.trans (hb.mono b0.size))
          have Z1 := (show w.heap.size < w1.heap.size from Nat.lt_of_lt_of_le (by simp) hb.size)
          clear hb N0 b0
          simp only at e0 e1 e2 e3 e4
          go_wp2_with fail
          refine (F2.out _).mono ?_
          rintro e w2 ⟨rfl, hw⟩; subst hw
          go_wp2_with fail
          refine (F3.out _).mono ?_
          rintro e w2 ⟨rfl, hw⟩; subst hw
          go_wp2_with fail
          go_quiet (fail)
          go_wp2_with fail
          go_quiet (fail)
          go_wp2_with fail
          go_ret
          first | exact ⟨rfl, B1.out⟩ | exact ⟨rfl, below_drewN B1.out _⟩ | exact ⟨rfl, below_drewN (below_drewN B1.out _) _⟩
set_option maxHeartbeats 16000000 in
set_option maxRecDepth 100000 in
theorem rwrong_next (b off len cap j : Nat) (t : ByteArray) (d : Df) (w : World) (hbl : b < w.heap.size) (hi : j + 1 < len) (hL : len ≤ 2600000000000) (z1 : d.k.size ≤ maxLen) (z2 : d.o.size ≤ maxLen) (z3 : d.n.size ≤ maxLen) (q0 : w.cell? ⟨b, off + j * 5, none⟩ = some (.string t)) (hc : w.cell? ⟨b, off + (j + 1) * 5, none⟩ = some (.string d.k) ∧ w.cell? ⟨b, off + (j + 1) * 5 + 1, none⟩ = some (.string d.o) ∧ w.cell? ⟨b, off + (j + 1) * 5 + 2, none⟩ = some (.string d.n) ∧ w.cell? ⟨b, off + (j + 1) * 5 + 3, none⟩ = some (.bool d.had) ∧ w.cell? ⟨b, off + (j + 1) * 5 + 4, none⟩ = some (.bool d.has)) :
    Calls Tryz.prog 48 #[.slice (some ⟨b, off, none⟩) len cap, .int .i64 ((j + 1 : Nat) : Int)] w fun e w' => e = .returned (.int .i64 (wE t d)) ∧ Below w.heap.size w w' := by
  have F1 := hid (fun W => rkey_any d.k W z1)
  have F2 := hid (fun W => rvalue_any d.o W z2)
  have F3 := hid (fun W => rvalue_any d.n W z3)
  obtain ⟨E, hE⟩ : ∃ E, E = wE t d := ⟨_, rfl⟩
  rw [← hE]
  unfold wE at hE
  have VN := hid val_nul
  obtain ⟨dk, dO, dn, dh, ds⟩ := d
  obtain ⟨d0, d1, d2, d3, d4⟩ := hc
  simp only at d0 d1 d2 d3 d4 F1 F2 F3 hE
  have B0 := hid (belowA w (.cells #[.string dk, .string dO, .string dn, .bool dh, .bool ds] 52))
  have hi1 : ((j : Int) + 1) < (len : Int) := by omega
  have hi2 : (0 : Int) ≤ (j : Int) + 1 := by omega
  have hi3 : (j : Int) < (len : Int) := by omega
  have hi4 : (0 : Int) ≤ (j : Int) := by omega
  have hi5 : (0 : Int) < (j : Int) + 1 := by omega
  cases k1 : keyB dk
  · rw [k1] at F1 hE
    simp only [if_true] at hE
    generalize valB dO = vo at *
    generalize valB dn = vn at *
    subst hE
    go_enter Tryz.func48, Tryz.ntmps48
    go_wp2_with fail
    have N0 := five_new w ⟨dk, dO, dn, dh, ds⟩ 52
    have b0 := belowA w (.cells #[.string dk, .string dO, .string dn, .bool dh, .bool ds] 52)
    refine (F1.out _).mono ?_
    rintro e w1 ⟨rfl, hb⟩
    obtain ⟨e0, e1, e2, e3, e4⟩ := N0.low hb (by simp)
    have q1 := (hb.cell (p := ⟨b, off + j * 5, none⟩) (by simp; omega)).trans ((b0.cell (p := ⟨b, off + j * 5, none⟩) hbl).trans q0)
    have hbl1 : b < w1.heap.size := Nat.lt_of_lt_of_le (by simp; omega) hb.size
    clear q0 d0 d1 d2 d3 d4
    have B1 := hid (b0.trans (hb.mono b0.size))
    have Z1 := (show w.heap.size < w1.heap.size from Nat.lt_of_lt_of_le (by simp) hb.size)
    clear hb N0 b0
    simp only at e0 e1 e2 e3 e4
    go_wp2_with fail
    refine (F2.out _).mono ?_
    rintro e w2 ⟨rfl, hw⟩; subst hw
    go_wp2_with fail
    refine (F3.out _).mono ?_
    rintro e w2 ⟨rfl, hw⟩; subst hw
    go_wp2_with fail
    go_ret
    first | exact ⟨rfl, B1.out⟩ | exact ⟨rfl, below_drewN B1.out _⟩ | exact ⟨rfl, below_drewN (below_drewN B1.out _) _⟩
  · rw [k1] at F1 hE
    simp only [Bool.true_eq_false, if_false] at hE
    unfold riseE eqS at hE
    cases g1 : (dk.toList == t.toList)
    · rw [g1] at hE
      simp only [Bool.false_eq_true, if_false] at hE
      cases g2 : Op.bytesLess dk.toList t.toList
      · rw [g2] at hE
        simp only [Bool.false_eq_true, if_false, if_true] at hE
        cases dh with
        | false =>
          cases ds with
          | false =>
            simp only [somB, if_true] at hE
            generalize valB dO = vo at *
            generalize valB dn = vn at *
            subst hE
            go_enter Tryz.func48, Tryz.ntmps48
            go_wp2_with fail
            have N0 := five_new w ⟨dk, dO, dn, false, false⟩ 52
            have b0 := belowA w (.cells #[.string dk, .string dO, .string dn, .bool false, .bool false] 52)
            refine (F1.out _).mono ?_
            rintro e w1 ⟨rfl, hb⟩
            obtain ⟨e0, e1, e2, e3, e4⟩ := N0.low hb (by simp)
            have q1 := (hb.cell (p := ⟨b, off + j * 5, none⟩) (by simp; omega)).trans ((b0.cell (p := ⟨b, off + j * 5, none⟩) hbl).trans q0)
            have hbl1 : b < w1.heap.size := Nat.lt_of_lt_of_le (by simp; omega) hb.size
            clear q0 d0 d1 d2 d3 d4
            have B1 := hid (b0.trans (hb.mono b0.size))
            have Z1 := (show w.heap.size < w1.heap.size from Nat.lt_of_lt_of_le (by simp) hb.size)
            clear hb N0 b0
            simp only at e0 e1 e2 e3 e4
            go_wp2_with fail
            refine (F2.out _).mono ?_
            rintro e w2 ⟨rfl, hw⟩; subst hw
            go_wp2_with fail
            refine (F3.out _).mono ?_
            rintro e w2 ⟨rfl, hw⟩; subst hw
            go_wp2_with fail
            go_quiet (fail)
            go_wp2_with fail
            go_quiet (fail)
            go_wp2_with fail
            go_ret
            first | exact ⟨rfl, B1.out⟩ | exact ⟨rfl, below_drewN B1.out _⟩ | exact ⟨rfl, below_drewN (below_drewN B1.out _) _⟩
          | true =>
            by_cases o1 : dO = ByteArray.empty
            · subst o1
              rw [VN.out] at F2 hE
              simp only [somB, eqS_iff.2 rfl, Bool.true_eq_false, if_false] at hE
              cases v1 : valB dn
              · rw [v1] at F3 hE
                simp only [if_true] at hE
                subst hE
                go_enter Tryz.func48, Tryz.ntmps48
                go_wp2_with fail
                have N0 := five_new w ⟨dk, ByteArray.empty, dn, false, true⟩ 52
                have b0 := belowA w (.cells #[.string dk, .string ByteArray.empty, .string dn, .bool false, .bool true] 52)
                refine (F1.out _).mono ?_
                rintro e w1 ⟨rfl, hb⟩
                obtain ⟨e0, e1, e2, e3, e4⟩ := N0.low hb (by simp)
                have q1 := (hb.cell (p := ⟨b, off + j * 5, none⟩) (by simp; omega)).trans ((b0.cell (p := ⟨b, off + j * 5, none⟩) hbl).trans q0)
                have hbl1 : b < w1.heap.size := Nat.lt_of_lt_of_le (by simp; omega) hb.size
                clear q0 d0 d1 d2 d3 d4
                have B1 := hid (b0.trans (hb.mono b0.size))
                have Z1 := (show w.heap.size < w1.heap.size from Nat.lt_of_lt_of_le (by simp) hb.size)
                clear hb N0 b0
                simp only at e0 e1 e2 e3 e4
                go_wp2_with fail
                refine (F2.out _).mono ?_
                rintro e w2 ⟨rfl, hw⟩; subst hw
                go_wp2_with fail
                refine (F3.out _).mono ?_
                rintro e w2 ⟨rfl, hw⟩; subst hw
                go_wp2_with fail
                go_quiet (fail)
                go_wp2_with fail
                go_quiet (fail)
                go_wp2_with fail
                go_ret
                first | exact ⟨rfl, B1.out⟩ | exact ⟨rfl, below_drewN B1.out _⟩ | exact ⟨rfl, below_drewN (below_drewN B1.out _) _⟩
              · rw [v1] at F3 hE
                simp only [Bool.true_eq_false, if_false] at hE
                subst hE
                go_enter Tryz.func48, Tryz.ntmps48
                go_wp2_with fail
                have N0 := five_new w ⟨dk, ByteArray.empty, dn, false, true⟩ 52
                have b0 := belowA w (.cells #[.string dk, .string ByteArray.empty, .string dn, .bool false, .bool true] 52)
                refine (F1.out _).mono ?_
                rintro e w1 ⟨rfl, hb⟩
                obtain ⟨e0, e1, e2, e3, e4⟩ := N0.low hb (by simp)
                have q1 := (hb.cell (p := ⟨b, off + j * 5, none⟩) (by simp; omega)).trans ((b0.cell (p := ⟨b, off + j * 5, none⟩) hbl).trans q0)
                have hbl1 : b < w1.heap.size := Nat.lt_of_lt_of_le (by simp; omega) hb.size
                clear q0 d0 d1 d2 d3 d4
                have B1 := hid (b0.trans (hb.mono b0.size))
                have Z1 := (show w.heap.size < w1.heap.size from Nat.lt_of_lt_of_le (by simp) hb.size)
                clear hb N0 b0
                simp only at e0 e1 e2 e3 e4
                go_wp2_with fail
                refine (F2.out _).mono ?_
                rintro e w2 ⟨rfl, hw⟩; subst hw
                go_wp2_with fail
                refine (F3.out _).mono ?_
                rintro e w2 ⟨rfl, hw⟩; subst hw
                go_wp2_with fail
                go_quiet (fail)
                go_wp2_with fail
                go_quiet (fail)
                go_wp2_with fail
                go_ret
                first | exact ⟨rfl, B1.out⟩ | exact ⟨rfl, below_drewN B1.out _⟩ | exact ⟨rfl, below_drewN (below_drewN B1.out _) _⟩
            · have o2 := ne_empty o1
              simp only [somB, eqS_ne.2 o1, if_true] at hE
              generalize valB dO = vo at *
              generalize valB dn = vn at *
              clear o1
              subst hE
              go_enter Tryz.func48, Tryz.ntmps48
              go_wp2_with fail
              have N0 := five_new w ⟨dk, dO, dn, false, true⟩ 52
              have b0 := belowA w (.cells #[.string dk, .string dO, .string dn, .bool false, .bool true] 52)
              refine (F1.out _).mono ?_
              rintro e w1 ⟨rfl, hb⟩
              obtain ⟨e0, e1, e2, e3, e4⟩ := N0.low hb (by simp)
              have q1 := (hb.cell (p := ⟨b, off + j * 5, none⟩) (by simp; omega)).trans ((b0.cell (p := ⟨b, off + j * 5, none⟩) hbl).trans q0)
              have hbl1 : b < w1.heap.size := Nat.lt_of_lt_of_le (by simp; omega) hb.size
              clear q0 d0 d1 d2 d3 d4
              have B1 := hid (b0.trans (hb.mono b0.size))
              have Z1 := (show w.heap.size < w1.heap.size from Nat.lt_of_lt_of_le (by simp) hb.size)
              clear hb N0 b0
              simp only at e0 e1 e2 e3 e4
              go_wp2_with fail
              refine (F2.out _).mono ?_
              rintro e w2 ⟨rfl, hw⟩; subst hw
              go_wp2_with fail
              refine (F3.out _).mono ?_
              rintro e w2 ⟨rfl, hw⟩; subst hw
              go_wp2_with fail
              go_quiet (fail)
              go_wp2_with fail
              go_quiet (fail)
              go_wp2_with fail
              go_ret
              first | exact ⟨rfl, B1.out⟩ | exact ⟨rfl, below_drewN B1.out _⟩ | exact ⟨rfl, below_drewN (below_drewN B1.out _) _⟩
        | true =>
          cases ds with
          | false =>
            by_cases o1 : dn = ByteArray.empty
            · subst o1
              rw [VN.out] at F3 hE
              simp only [somB, eqS_iff.2 rfl, Bool.true_eq_false, if_false] at hE
              cases v1 : valB dO
              · rw [v1] at F2 hE
                simp only [if_true] at hE
                subst hE
                go_enter Tryz.func48, Tryz.ntmps48
                go_wp2_with fail
                have N0 := five_new w ⟨dk, dO, ByteArray.empty, true, false⟩ 52
                have b0 := belowA w (.cells #[.string dk, .string dO, .string ByteArray.empty, .bool true, .bool false] 52)
                refine (F1.out _).mono ?_
                rintro e w1 ⟨rfl, hb⟩
                obtain ⟨e0, e1, e2, e3, e4⟩ := N0.low hb (by simp)
                have q1 := (hb.cell (p := ⟨b, off + j * 5, none⟩) (by simp; omega)).trans ((b0.cell (p := ⟨b, off + j * 5, none⟩) hbl).trans q0)
                have hbl1 : b < w1.heap.size := Nat.lt_of_lt_of_le (by simp; omega) hb.size
                clear q0 d0 d1 d2 d3 d4
                have B1 := hid (b0.trans (hb.mono b0.size))
                have Z1 := (show w.heap.size < w1.heap.size from Nat.lt_of_lt_of_le (by simp) hb.size)
                clear hb N0 b0
                simp only at e0 e1 e2 e3 e4
                go_wp2_with fail
                refine (F2.out _).mono ?_
                rintro e w2 ⟨rfl, hw⟩; subst hw
                go_wp2_with fail
                refine (F3.out _).mono ?_
                rintro e w2 ⟨rfl, hw⟩; subst hw
                go_wp2_with fail
                go_quiet (fail)
                go_wp2_with fail
                go_quiet (fail)
                go_wp2_with fail
                go_ret
                first | exact ⟨rfl, B1.out⟩ | exact ⟨rfl, below_drewN B1.out _⟩ | exact ⟨rfl, below_drewN (below_drewN B1.out _) _⟩
              · rw [v1] at F2 hE
                simp only [Bool.true_eq_false, if_false] at hE
                subst hE
                go_enter Tryz.func48, Tryz.ntmps48
                go_wp2_with fail
                have N0 := five_new w ⟨dk, dO, ByteArray.empty, true, false⟩ 52
                have b0 := belowA w (.cells #[.string dk, .string dO, .string ByteArray.empty, .bool true, .bool false] 52)
                refine (F1.out _).mono ?_
                rintro e w1 ⟨rfl, hb⟩
                obtain ⟨e0, e1, e2, e3, e4⟩ := N0.low hb (by simp)
                have q1 := (hb.cell (p := ⟨b, off + j * 5, none⟩) (by simp; omega)).trans ((b0.cell (p := ⟨b, off + j * 5, none⟩) hbl).trans q0)
                have hbl1 : b < w1.heap.size := Nat.lt_of_lt_of_le (by simp; omega) hb.size
                clear q0 d0 d1 d2 d3 d4
                have B1 := hid (b0.trans (hb.mono b0.size))
                have Z1 := (show w.heap.size < w1.heap.size from Nat.lt_of_lt_of_le (by simp) hb.size)
                clear hb N0 b0
                simp only at e0 e1 e2 e3 e4
                go_wp2_with fail
                refine (F2.out _).mono ?_
                rintro e w2 ⟨rfl, hw⟩; subst hw
                go_wp2_with fail
                refine (F3.out _).mono ?_
                rintro e w2 ⟨rfl, hw⟩; subst hw
                go_wp2_with fail
                go_quiet (fail)
                go_wp2_with fail
                go_quiet (fail)
                go_wp2_with fail
                go_ret
                first | exact ⟨rfl, B1.out⟩ | exact ⟨rfl, below_drewN B1.out _⟩ | exact ⟨rfl, below_drewN (below_drewN B1.out _) _⟩
            · have o2 := ne_empty o1
              simp only [somB, eqS_ne.2 o1, if_true] at hE
              generalize valB dO = vo at *
              generalize valB dn = vn at *
              clear o1
              subst hE
              go_enter Tryz.func48, Tryz.ntmps48
              go_wp2_with fail
              have N0 := five_new w ⟨dk, dO, dn, true, false⟩ 52
              have b0 := belowA w (.cells #[.string dk, .string dO, .string dn, .bool true, .bool false] 52)
              refine (F1.out _).mono ?_
              rintro e w1 ⟨rfl, hb⟩
              obtain ⟨e0, e1, e2, e3, e4⟩ := N0.low hb (by simp)
              have q1 := (hb.cell (p := ⟨b, off + j * 5, none⟩) (by simp; omega)).trans ((b0.cell (p := ⟨b, off + j * 5, none⟩) hbl).trans q0)
              have hbl1 : b < w1.heap.size := Nat.lt_of_lt_of_le (by simp; omega) hb.size
              clear q0 d0 d1 d2 d3 d4
              have B1 := hid (b0.trans (hb.mono b0.size))
              have Z1 := (show w.heap.size < w1.heap.size from Nat.lt_of_lt_of_le (by simp) hb.size)
              clear hb N0 b0
              simp only at e0 e1 e2 e3 e4
              go_wp2_with fail
              refine (F2.out _).mono ?_
              rintro e w2 ⟨rfl, hw⟩; subst hw
              go_wp2_with fail
              refine (F3.out _).mono ?_
              rintro e w2 ⟨rfl, hw⟩; subst hw
              go_wp2_with fail
              go_quiet (fail)
              go_wp2_with fail
              go_quiet (fail)
              go_wp2_with fail
              go_ret
              first | exact ⟨rfl, B1.out⟩ | exact ⟨rfl, below_drewN B1.out _⟩ | exact ⟨rfl, below_drewN (below_drewN B1.out _) _⟩
          | true =>
            cases o1 : (dO.toList == dn.toList)
            · have o2 : eqS dO dn = false := o1
              simp only [somB, o2, Bool.not_false, Bool.true_eq_false, if_false] at hE
              clear o2
              cases v1 : valB dO
              · rw [v1] at F2 hE
                simp only [if_true] at hE
                generalize valB dn = vn at *
                subst hE
                go_enter Tryz.func48, Tryz.ntmps48
                go_wp2_with fail
                have N0 := five_new w ⟨dk, dO, dn, true, true⟩ 52
                have b0 := belowA w (.cells #[.string dk, .string dO, .string dn, .bool true, .bool true] 52)
                refine (F1.out _).mono ?_
                rintro e w1 ⟨rfl, hb⟩
                obtain ⟨e0, e1, e2, e3, e4⟩ := N0.low hb (by simp)
                have q1 := (hb.cell (p := ⟨b, off + j * 5, none⟩) (by simp; omega)).trans ((b0.cell (p := ⟨b, off + j * 5, none⟩) hbl).trans q0)
                have hbl1 : b < w1.heap.size := Nat.lt_of_lt_of_le (by simp; omega) hb.size
                clear q0 d0 d1 d2 d3 d4
                have B1 := hid (b0.trans (hb.mono b0.size))
                have Z1 := (show w.heap.size < w1.heap.size from Nat.lt_of_lt_of_le (by simp) hb.size)
                clear hb N0 b0
                simp only at e0 e1 e2 e3 e4
                go_wp2_with fail
                refine (F2.out _).mono ?_
                rintro e w2 ⟨rfl, hw⟩; subst hw
                go_wp2_with fail
                refine (F3.out _).mono ?_
                rintro e w2 ⟨rfl, hw⟩; subst hw
                go_wp2_with fail
                go_quiet (fail)
                go_wp2_with fail
                go_quiet (fail)
                go_wp2_with fail
                go_ret
                first | exact ⟨rfl, B1.out⟩ | exact ⟨rfl, below_drewN B1.out _⟩ | exact ⟨rfl, below_drewN (below_drewN B1.out _) _⟩
              · rw [v1] at F2 hE
                simp only [Bool.true_eq_false, if_false] at hE
                cases v2 : valB dn
                · rw [v2] at F3 hE
                  simp only [if_true] at hE
                  subst hE
                  go_enter Tryz.func48, Tryz.ntmps48
                  go_wp2_with fail
                  have N0 := five_new w ⟨dk, dO, dn, true, true⟩ 52
                  have b0 := belowA w (.cells #[.string dk, .string dO, .string dn, .bool true, .bool true] 52)
                  refine (F1.out _).mono ?_
                  rintro e w1 ⟨rfl, hb⟩
                  obtain ⟨e0, e1, e2, e3, e4⟩ := N0.low hb (by simp)
                  have q1 := (hb.cell (p := ⟨b, off + j * 5, none⟩) (by simp; omega)).trans ((b0.cell (p := ⟨b, off + j * 5, none⟩) hbl).trans q0)
                  have hbl1 : b < w1.heap.size := Nat.lt_of_lt_of_le (by simp; omega) hb.size
                  clear q0 d0 d1 d2 d3 d4
                  have B1 := hid (b0.trans (hb.mono b0.size))
                  have Z1 := (show w.heap.size < w1.heap.size from Nat.lt_of_lt_of_le (by simp) hb.size)
                  clear hb N0 b0
                  simp only at e0 e1 e2 e3 e4
                  go_wp2_with fail
                  refine (F2.out _).mono ?_
                  rintro e w2 ⟨rfl, hw⟩; subst hw
                  go_wp2_with fail
                  refine (F3.out _).mono ?_
                  rintro e w2 ⟨rfl, hw⟩; subst hw
                  go_wp2_with fail
                  go_quiet (fail)
                  go_wp2_with fail
                  go_quiet (fail)
                  go_wp2_with fail
                  go_ret
                  first | exact ⟨rfl, B1.out⟩ | exact ⟨rfl, below_drewN B1.out _⟩ | exact ⟨rfl, below_drewN (below_drewN B1.out _) _⟩
                · rw [v2] at F3 hE
                  simp only [Bool.true_eq_false, if_false] at hE
                  subst hE
                  go_enter Tryz.func48, Tryz.ntmps48
                  go_wp2_with fail
                  have N0 := five_new w ⟨dk, dO, dn, true, true⟩ 52
                  have b0 := belowA w (.cells #[.string dk, .string dO, .string dn, .bool true, .bool true] 52)
                  refine (F1.out _).mono ?_
                  rintro e w1 ⟨rfl, hb⟩
                  obtain ⟨e0, e1, e2, e3, e4⟩ := N0.low hb (by simp)
                  have q1 := (hb.cell (p := ⟨b, off + j * 5, none⟩) (by simp; omega)).trans ((b0.cell (p := ⟨b, off + j * 5, none⟩) hbl).trans q0)
                  have hbl1 : b < w1.heap.size := Nat.lt_of_lt_of_le (by simp; omega) hb.size
                  clear q0 d0 d1 d2 d3 d4
                  have B1 := hid (b0.trans (hb.mono b0.size))
                  have Z1 := (show w.heap.size < w1.heap.size from Nat.lt_of_lt_of_le (by simp) hb.size)
                  clear hb N0 b0
                  simp only at e0 e1 e2 e3 e4
                  go_wp2_with fail
                  refine (F2.out _).mono ?_
                  rintro e w2 ⟨rfl, hw⟩; subst hw
                  go_wp2_with fail
                  refine (F3.out _).mono ?_
                  rintro e w2 ⟨rfl, hw⟩; subst hw
                  go_wp2_with fail
                  go_quiet (fail)
                  go_wp2_with fail
                  go_quiet (fail)
                  go_wp2_with fail
                  go_ret
                  first | exact ⟨rfl, B1.out⟩ | exact ⟨rfl, below_drewN B1.out _⟩ | exact ⟨rfl, below_drewN (below_drewN B1.out _) _⟩
            · have o2 : eqS dO dn = true := o1
              simp only [somB, o2, Bool.not_true, if_true] at hE
              clear o2
              generalize valB dO = vo at *
              generalize valB dn = vn at *
              subst hE
              go_enter Tryz.func48, Tryz.ntmps48
              go_wp2_with fail
              have N0 := five_new w ⟨dk, dO, dn, true, true⟩ 52
              have b0 := belowA w (.cells #[.string dk, .string dO, .string dn, .bool true, .bool true] 52)
              refine (F1.out _).mono ?_
              rintro e w1 ⟨rfl, hb⟩
              obtain ⟨e0, e1, e2, e3, e4⟩ := N0.low hb (by simp)
              have q1 := (hb.cell (p := ⟨b, off + j * 5, none⟩) (by simp; omega)).trans ((b0.cell (p := ⟨b, off + j * 5, none⟩) hbl).trans q0)
              have hbl1 : b < w1.heap.size := Nat.lt_of_lt_of_le (by simp; omega) hb.size
              clear q0 d0 d1 d2 d3 d4
              have B1 := hid (b0.trans (hb.mono b0.size))
              have Z1 := (show w.heap.size < w1.heap.size from Nat.lt_of_lt_of_le (by simp) hb.size)
              clear hb N0 b0
              simp only at e0 e1 e2 e3 e4
              go_wp2_with fail
              refine (F2.out _).mono ?_
              rintro e w2 ⟨rfl, hw⟩; subst hw
              go_wp2_with fail
              refine (F3.out _).mono ?_
              rintro e w2 ⟨rfl, hw⟩; subst hw
              go_wp2_with fail
              go_quiet (fail)
              go_wp2_with fail
              go_quiet (fail)
              go_wp2_with fail
              go_ret
              first | exact ⟨rfl, B1.out⟩ | exact ⟨rfl, below_drewN B1.out _⟩ | exact ⟨rfl, below_drewN (below_drewN B1.out _) _⟩
      · rw [g2] at hE
        simp only [if_true, show ¬ ((36 : Int) = 0) by decide, if_false] at hE
        generalize valB dO = vo at *
        generalize valB dn = vn at *
        subst hE
        go_enter Tryz.func48, Tryz.ntmps48
        go_wp2_with fail
        have N0 := five_new w ⟨dk, dO, dn, dh, ds⟩ 52
        have b0 := belowA w (.cells #[.string dk, .string dO, .string dn, .bool dh, .bool ds] 52)
        refine (F1.out _).mono ?_
        rintro e w1 ⟨rfl, hb⟩
        obtain ⟨e0, e1, e2, e3, e4⟩ := N0.low hb (by simp)
        have q1 := (hb.cell (p := ⟨b, off + j * 5, none⟩) (by simp; omega)).trans ((b0.cell (p := ⟨b, off + j * 5, none⟩) hbl).trans q0)
        have hbl1 : b < w1.heap.size := Nat.lt_of_lt_of_le (by simp; omega) hb.size
        clear q0 d0 d1 d2 d3 d4
        have B1 := hid (b0.trans (hb.mono b0.size))
        have Z1 := (show w.heap.size < w1.heap.size from Nat.lt_of_lt_of_le (by simp) hb.size)
        clear hb N0 b0
        simp only at e0 e1 e2 e3 e4
        go_wp2_with fail
        refine (F2.out _).mono ?_
        rintro e w2 ⟨rfl, hw⟩; subst hw
        go_wp2_with fail
        refine (F3.out _).mono ?_
        rintro e w2 ⟨rfl, hw⟩; subst hw
        go_wp2_with fail
        go_quiet (fail)
        go_wp2_with fail
        go_quiet (fail)
        go_wp2_with fail
        go_ret
        first | exact ⟨rfl, B1.out⟩ | exact ⟨rfl, below_drewN B1.out _⟩ | exact ⟨rfl, below_drewN (below_drewN B1.out _) _⟩
    · rw [g1] at hE
      simp only [if_true, show ¬ ((33 : Int) = 0) by decide, if_false] at hE
      generalize valB dO = vo at *
      generalize valB dn = vn at *
      subst hE
      go_enter Tryz.func48, Tryz.ntmps48
      go_wp2_with fail
      have N0 := five_new w ⟨dk, dO, dn, dh, ds⟩ 52
      have b0 := belowA w (.cells #[.string dk, .string dO, .string dn, .bool dh, .bool ds] 52)
      refine (F1.out _).mono ?_
      rintro e w1 ⟨rfl, hb⟩
      obtain ⟨e0, e1, e2, e3, e4⟩ := N0.low hb (by simp)
      have q1 := (hb.cell (p := ⟨b, off + j * 5, none⟩) (by simp; omega)).trans ((b0.cell (p := ⟨b, off + j * 5, none⟩) hbl).trans q0)
      have hbl1 : b < w1.heap.size := Nat.lt_of_lt_of_le (by simp; omega) hb.size
      clear q0 d0 d1 d2 d3 d4
      have B1 := hid (b0.trans (hb.mono b0.size))
      have Z1 := (show w.heap.size < w1.heap.size from Nat.lt_of_lt_of_le (by simp) hb.size)
      clear hb N0 b0
      simp only at e0 e1 e2 e3 e4
      go_wp2_with fail
      refine (F2.out _).mono ?_
      rintro e w2 ⟨rfl, hw⟩; subst hw
      go_wp2_with fail
      refine (F3.out _).mono ?_
      rintro e w2 ⟨rfl, hw⟩; subst hw
      go_wp2_with fail
      go_quiet (fail)
      go_wp2_with fail
      go_ret
      first | exact ⟨rfl, B1.out⟩ | exact ⟨rfl, below_drewN B1.out _⟩ | exact ⟨rfl, below_drewN (below_drewN B1.out _) _⟩
theorem rwrong_any (v : Value) (L : List Df) (i : Nat) (w : World) (h2 : ItemsD w v L) (gd : GoodD L) (hi : i < L.length) :
    Calls Tryz.prog 48 #[v, .int .i64 i] w fun e w' => e = .returned (.int .i64 (wE (prvD L i) L[i])) ∧ Below w.heap.size w w' := by
  have hL := gd.1
  obtain ⟨z1, z2, z3⟩ := gd.2 _ (List.getElem_mem hi)
  obtain ⟨a, cap, rfl, h⟩ := h2
  rcases h with h0 | ⟨b, off, rfl, hbl, hc⟩
  · omega
  by_cases h0 : i = 0
  · subst h0
    have e : prvD L 0 = ByteArray.empty := by unfold prvD; rw [dif_neg (by omega)]
    rw [e]
    refine rwrong_first b off L.length cap L[0] w hbl hi hL z1 z2 z3 ?_
    have := hc 0 hi
    simpa using this
  · obtain ⟨j, rfl⟩ : ∃ j, i = j + 1 := ⟨i - 1, by omega⟩
    have hj : j < L.length := by omega
    have e : prvD L (j + 1) = L[j].k := by unfold prvD; rw [dif_pos ⟨by omega, by omega⟩]; rfl
    rw [e]
    exact rwrong_next b off L.length cap j L[j].k L[j + 1] w hbl hi hL z1 z2 z3 (hc j hj).1 (hc (j + 1) hi)
end Go.Proofs.YtkbjjbgmnfngjaaGreatDoor.L
