import Derived.Test.YtppblibcbjpfnaaGreatDoorTxp
namespace Go.Proofs.YtppblibcbjpfnaaGreatDoor.L
open Go.RowKit
set_option linter.unusedVariables false
/-- The text of a toleration. -/
def oHead (o : To) : ByteArray := if evB o = true then ⟨#[42]⟩ else o.1
def oMid (o : To) : ByteArray := if eqS o.2.1 sEq = true then oHead o ++ (⟨#[61]⟩ ++ o.2.2.1) else oHead o
def oText (o : To) : ByteArray := if emB o.2.2.2 = true then oMid o else oMid o ++ (⟨#[58]⟩ ++ o.2.2.2)
theorem oE_ok {o : To} (h : oE o = 0) : (eqS o.2.1 sEq = true ∨ eqS o.2.1 sEx = true) ∧ (keyB o.1 = true ∨ evB o = true) ∧ valB o.2.2.1 = true ∧ (eqS o.2.1 sEx = true → emB o.2.2.1 = true) ∧ (emB o.2.2.2 = true ∨ effB o.2.2.2 = true) := by
  unfold oE at h
  split at h
  · cases h
  · split at h
    · cases h
    · split at h
      · cases h
      · split at h
        · cases h
        · rename_i a b c d
          rw [Bool.not_eq_false] at a b c d
          rw [Bool.or_eq_true] at a b d
          rw [Bool.and_eq_true, Bool.or_eq_true] at c
          refine ⟨a, b, c.1, fun e => ?_, d⟩
          rcases c.2 with c | c
          · rw [e] at c; cases c
          · exact c
theorem ev_key {o : To} (h : evB o = true) : o.1 = ByteArray.empty := by
  unfold evB at h
  rw [Bool.and_eq_true] at h
  exact emB_iff.1 h.1
theorem ok_sizes {o : To} (h : oE o = 0) : o.1.size ≤ 127 ∧ o.2.2.1.size ≤ 63 ∧ o.2.2.2.size ≤ 16 := by
  obtain ⟨_, a2, a3, _, a5⟩ := oE_ok h
  refine ⟨?_, val_size a3, ?_⟩
  · rcases a2 with a | a
    · exact key_size a
    · rw [ev_key a]; decide
  · rcases a5 with a | a
    · rw [emB_iff.1 a]; decide
    · exact eff_size a
set_option maxHeartbeats 4000000 in
theorem otext_bad (o : To) (w : World) (hk : o.1.size ≤ maxLen) (hv : o.2.2.1.size ≤ maxLen) (h : oE o ≠ 0) : Calls Tryz.prog 18 #[ov o] w fun e w' => e = .returned (.tuple #[.string ByteArray.empty, .int .i64 (oE o)]) ∧ Below w.heap.size w w' := by
  have HC := hid (fun W => ctol_any o W hk hv)
  generalize oE o = er at *
  have h' : (er != 0) = true := by simpa using h
  clear h
  obtain ⟨k, p, v, f⟩ := o
  simp only [ov] at *
  go_enter Tryz.func18, Tryz.ntmps18
  go_wp2_with fail
  refine (HC.out _).mono ?_
  rintro e w1 ⟨rfl, hb⟩
  have HB := hid ((belowA w _).trans (hb.mono (belowA w _).size))
  clear hb
  go_wp2_with fail
  go_ret2
  exact ⟨rfl, HB.out⟩
set_option maxHeartbeats 8000000 in
theorem otext_ok (o : To) (w : World) (h : oE o = 0) : Calls Tryz.prog 18 #[ov o] w fun e w' => e = .returned (.tuple #[.string (oText o), .int .i64 0]) ∧ Below w.heap.size w w' := by
  obtain ⟨z1, z2, z3⟩ := ok_sizes h
  have HC := hid (fun W => ctol_any o W (by unfold maxLen; omega) (by unfold maxLen; omega))
  rw [h] at HC
  have HE := hid (fun W => every_any o W)
  clear h
  by_cases e1 : evB o = true
  · by_cases e2 : eqS o.2.1 sEq = true
    · by_cases e3 : emB o.2.2.2 = true
      · have HT := hid (show oText o = (if emB o.2.2.2 = true then oMid o else oMid o ++ (⟨#[58]⟩ ++ o.2.2.2)) from rfl)
        rw [if_pos e3] at HT
        unfold oMid at HT
        rw [if_pos e2] at HT
        unfold oHead at HT
        rw [if_pos e1] at HT
        rw [HT.out]
        rw [e1] at HE
        obtain ⟨k, p, v, f⟩ := o
        simp only [ov] at *
        have g2 : (p.toList == [69, 113, 117, 97, 108]) = true := by have := e2; unfold eqS at this; rw [lEq] at this; exact this
        have g3 : f.toList.isEmpty = true := e3
        clear e1 e2 e3 HT
        have HF := hid (four_alloc w (.string k) (.string p) (.string v) (.string f) 27)
        have HW := hid (belowA w (.cells #[.string k, .string p, .string v, .string f] 27))
        have hz : w.heap.size < (w.alloc (.cells #[.string k, .string p, .string v, .string f] 27)).heap.size := by simp
        go_enter Tryz.func18, Tryz.ntmps18
        go_wp2_with fail
        refine (HC.out _).mono ?_
        rintro e w1 ⟨rfl, hb⟩
        have B1 := hid (HW.out.trans (hb.mono HW.out.size))
        have C1 := hid (four_low HF.out hb hz)
        obtain ⟨c0, c1, c2, c3⟩ := C1.out
        have z1 : w.heap.size < w1.heap.size := Nat.lt_of_lt_of_le hz hb.size
        clear hb
        go_wp2_with fail
        refine (HE.out _).mono ?_
        rintro e w2 ⟨rfl, hb⟩
        have B2 := hid (B1.out.trans (hb.mono B1.out.size))
        clear c0 c1 c2 c3
        obtain ⟨c0, c1, c2, c3⟩ := four_low C1.out hb z1
        clear hb
        go_wp2_with fail
        go_ret2
        exact ⟨rfl, B2.out⟩
      · have HT := hid (show oText o = (if emB o.2.2.2 = true then oMid o else oMid o ++ (⟨#[58]⟩ ++ o.2.2.2)) from rfl)
        rw [if_neg e3] at HT
        unfold oMid at HT
        rw [if_pos e2] at HT
        unfold oHead at HT
        rw [if_pos e1] at HT
        rw [HT.out]
        rw [e1] at HE
        obtain ⟨k, p, v, f⟩ := o
        simp only [ov] at *
        have g2 : (p.toList == [69, 113, 117, 97, 108]) = true := by have := e2; unfold eqS at this; rw [lEq] at this; exact this
        have g3 : f.toList.isEmpty = false := Bool.eq_false_iff.2 e3
        clear e1 e2 e3 HT
        have HF := hid (four_alloc w (.string k) (.string p) (.string v) (.string f) 27)
        have HW := hid (belowA w (.cells #[.string k, .string p, .string v, .string f] 27))
        have hz : w.heap.size < (w.alloc (.cells #[.string k, .string p, .string v, .string f] 27)).heap.size := by simp
        go_enter Tryz.func18, Tryz.ntmps18
        go_wp2_with fail
        refine (HC.out _).mono ?_
        rintro e w1 ⟨rfl, hb⟩
        have B1 := hid (HW.out.trans (hb.mono HW.out.size))
        have C1 := hid (four_low HF.out hb hz)
        obtain ⟨c0, c1, c2, c3⟩ := C1.out
        have z1 : w.heap.size < w1.heap.size := Nat.lt_of_lt_of_le hz hb.size
        clear hb
        go_wp2_with fail
        refine (HE.out _).mono ?_
        rintro e w2 ⟨rfl, hb⟩
        have B2 := hid (B1.out.trans (hb.mono B1.out.size))
        clear c0 c1 c2 c3
        obtain ⟨c0, c1, c2, c3⟩ := four_low C1.out hb z1
        clear hb
        go_wp2_with fail
        go_ret2
        exact ⟨rfl, B2.out⟩
    · by_cases e3 : emB o.2.2.2 = true
      · have HT := hid (show oText o = (if emB o.2.2.2 = true then oMid o else oMid o ++ (⟨#[58]⟩ ++ o.2.2.2)) from rfl)
        rw [if_pos e3] at HT
        unfold oMid at HT
        rw [if_neg e2] at HT
        unfold oHead at HT
        rw [if_pos e1] at HT
        rw [HT.out]
        rw [e1] at HE
        obtain ⟨k, p, v, f⟩ := o
        simp only [ov] at *
        have g2 : (p.toList == [69, 113, 117, 97, 108]) = false := by have := Bool.eq_false_iff.2 e2; unfold eqS at this; rw [lEq] at this; exact this
        have g3 : f.toList.isEmpty = true := e3
        clear e1 e2 e3 HT
        have HF := hid (four_alloc w (.string k) (.string p) (.string v) (.string f) 27)
        have HW := hid (belowA w (.cells #[.string k, .string p, .string v, .string f] 27))
        have hz : w.heap.size < (w.alloc (.cells #[.string k, .string p, .string v, .string f] 27)).heap.size := by simp
        go_enter Tryz.func18, Tryz.ntmps18
        go_wp2_with fail
        refine (HC.out _).mono ?_
        rintro e w1 ⟨rfl, hb⟩
        have B1 := hid (HW.out.trans (hb.mono HW.out.size))
        have C1 := hid (four_low HF.out hb hz)
        obtain ⟨c0, c1, c2, c3⟩ := C1.out
        have z1 : w.heap.size < w1.heap.size := Nat.lt_of_lt_of_le hz hb.size
        clear hb
        go_wp2_with fail
        refine (HE.out _).mono ?_
        rintro e w2 ⟨rfl, hb⟩
        have B2 := hid (B1.out.trans (hb.mono B1.out.size))
        clear c0 c1 c2 c3
        obtain ⟨c0, c1, c2, c3⟩ := four_low C1.out hb z1
        clear hb
        go_wp2_with fail
        go_ret2
        exact ⟨rfl, B2.out⟩
      · have HT := hid (show oText o = (if emB o.2.2.2 = true then oMid o else oMid o ++ (⟨#[58]⟩ ++ o.2.2.2)) from rfl)
        rw [if_neg e3] at HT
        unfold oMid at HT
        rw [if_neg e2] at HT
        unfold oHead at HT
        rw [if_pos e1] at HT
        rw [HT.out]
        rw [e1] at HE
        obtain ⟨k, p, v, f⟩ := o
        simp only [ov] at *
        have g2 : (p.toList == [69, 113, 117, 97, 108]) = false := by have := Bool.eq_false_iff.2 e2; unfold eqS at this; rw [lEq] at this; exact this
        have g3 : f.toList.isEmpty = false := Bool.eq_false_iff.2 e3
        clear e1 e2 e3 HT
        have HF := hid (four_alloc w (.string k) (.string p) (.string v) (.string f) 27)
        have HW := hid (belowA w (.cells #[.string k, .string p, .string v, .string f] 27))
        have hz : w.heap.size < (w.alloc (.cells #[.string k, .string p, .string v, .string f] 27)).heap.size := by simp
        go_enter Tryz.func18, Tryz.ntmps18
        go_wp2_with fail
        refine (HC.out _).mono ?_
        rintro e w1 ⟨rfl, hb⟩
        have B1 := hid (HW.out.trans (hb.mono HW.out.size))
        have C1 := hid (four_low HF.out hb hz)
        obtain ⟨c0, c1, c2, c3⟩ := C1.out
        have z1 : w.heap.size < w1.heap.size := Nat.lt_of_lt_of_le hz hb.size
        clear hb
        go_wp2_with fail
        refine (HE.out _).mono ?_
        rintro e w2 ⟨rfl, hb⟩
        have B2 := hid (B1.out.trans (hb.mono B1.out.size))
        clear c0 c1 c2 c3
        obtain ⟨c0, c1, c2, c3⟩ := four_low C1.out hb z1
        clear hb
        go_wp2_with fail
        go_ret2
        exact ⟨rfl, B2.out⟩
  · by_cases e2 : eqS o.2.1 sEq = true
    · by_cases e3 : emB o.2.2.2 = true
      · have HT := hid (show oText o = (if emB o.2.2.2 = true then oMid o else oMid o ++ (⟨#[58]⟩ ++ o.2.2.2)) from rfl)
        rw [if_pos e3] at HT
        unfold oMid at HT
        rw [if_pos e2] at HT
        unfold oHead at HT
        rw [if_neg e1] at HT
        rw [HT.out]
        rw [Bool.eq_false_iff.2 e1] at HE
        obtain ⟨k, p, v, f⟩ := o
        simp only [ov] at *
        have g2 : (p.toList == [69, 113, 117, 97, 108]) = true := by have := e2; unfold eqS at this; rw [lEq] at this; exact this
        have g3 : f.toList.isEmpty = true := e3
        clear e1 e2 e3 HT
        have HF := hid (four_alloc w (.string k) (.string p) (.string v) (.string f) 27)
        have HW := hid (belowA w (.cells #[.string k, .string p, .string v, .string f] 27))
        have hz : w.heap.size < (w.alloc (.cells #[.string k, .string p, .string v, .string f] 27)).heap.size := by simp
        go_enter Tryz.func18, Tryz.ntmps18
        go_wp2_with fail
        refine (HC.out _).mono ?_
        rintro e w1 ⟨rfl, hb⟩
        have B1 := hid (HW.out.trans (hb.mono HW.out.size))
        have C1 := hid (four_low HF.out hb hz)
        obtain ⟨c0, c1, c2, c3⟩ := C1.out
        have z1 : w.heap.size < w1.heap.size := Nat.lt_of_lt_of_le hz hb.size
        clear hb
        go_wp2_with fail
        refine (HE.out _).mono ?_
        rintro e w2 ⟨rfl, hb⟩
        have B2 := hid (B1.out.trans (hb.mono B1.out.size))
        clear c0 c1 c2 c3
        obtain ⟨c0, c1, c2, c3⟩ := four_low C1.out hb z1
        clear hb
        go_wp2_with fail
        go_ret2
        exact ⟨rfl, B2.out⟩
      · have HT := hid (show oText o = (if emB o.2.2.2 = true then oMid o else oMid o ++ (⟨#[58]⟩ ++ o.2.2.2)) from rfl)
        rw [if_neg e3] at HT
        unfold oMid at HT
        rw [if_pos e2] at HT
        unfold oHead at HT
        rw [if_neg e1] at HT
        rw [HT.out]
        rw [Bool.eq_false_iff.2 e1] at HE
        obtain ⟨k, p, v, f⟩ := o
        simp only [ov] at *
        have g2 : (p.toList == [69, 113, 117, 97, 108]) = true := by have := e2; unfold eqS at this; rw [lEq] at this; exact this
        have g3 : f.toList.isEmpty = false := Bool.eq_false_iff.2 e3
        clear e1 e2 e3 HT
        have HF := hid (four_alloc w (.string k) (.string p) (.string v) (.string f) 27)
        have HW := hid (belowA w (.cells #[.string k, .string p, .string v, .string f] 27))
        have hz : w.heap.size < (w.alloc (.cells #[.string k, .string p, .string v, .string f] 27)).heap.size := by simp
        go_enter Tryz.func18, Tryz.ntmps18
        go_wp2_with fail
        refine (HC.out _).mono ?_
        rintro e w1 ⟨rfl, hb⟩
        have B1 := hid (HW.out.trans (hb.mono HW.out.size))
        have C1 := hid (four_low HF.out hb hz)
        obtain ⟨c0, c1, c2, c3⟩ := C1.out
        have z1 : w.heap.size < w1.heap.size := Nat.lt_of_lt_of_le hz hb.size
        clear hb
        go_wp2_with fail
        refine (HE.out _).mono ?_
        rintro e w2 ⟨rfl, hb⟩
        have B2 := hid (B1.out.trans (hb.mono B1.out.size))
        clear c0 c1 c2 c3
        obtain ⟨c0, c1, c2, c3⟩ := four_low C1.out hb z1
        clear hb
        go_wp2_with fail
        go_ret2
        exact ⟨rfl, B2.out⟩
    · by_cases e3 : emB o.2.2.2 = true
      · have HT := hid (show oText o = (if emB o.2.2.2 = true then oMid o else oMid o ++ (⟨#[58]⟩ ++ o.2.2.2)) from rfl)
        rw [if_pos e3] at HT
        unfold oMid at HT
        rw [if_neg e2] at HT
        unfold oHead at HT
        rw [if_neg e1] at HT
        rw [HT.out]
        rw [Bool.eq_false_iff.2 e1] at HE
        obtain ⟨k, p, v, f⟩ := o
        simp only [ov] at *
        have g2 : (p.toList == [69, 113, 117, 97, 108]) = false := by have := Bool.eq_false_iff.2 e2; unfold eqS at this; rw [lEq] at this; exact this
        have g3 : f.toList.isEmpty = true := e3
        clear e1 e2 e3 HT
        have HF := hid (four_alloc w (.string k) (.string p) (.string v) (.string f) 27)
        have HW := hid (belowA w (.cells #[.string k, .string p, .string v, .string f] 27))
        have hz : w.heap.size < (w.alloc (.cells #[.string k, .string p, .string v, .string f] 27)).heap.size := by simp
        go_enter Tryz.func18, Tryz.ntmps18
        go_wp2_with fail
        refine (HC.out _).mono ?_
        rintro e w1 ⟨rfl, hb⟩
        have B1 := hid (HW.out.trans (hb.mono HW.out.size))
        have C1 := hid (four_low HF.out hb hz)
        obtain ⟨c0, c1, c2, c3⟩ := C1.out
        have z1 : w.heap.size < w1.heap.size := Nat.lt_of_lt_of_le hz hb.size
        clear hb
        go_wp2_with fail
        refine (HE.out _).mono ?_
        rintro e w2 ⟨rfl, hb⟩
        have B2 := hid (B1.out.trans (hb.mono B1.out.size))
        clear c0 c1 c2 c3
        obtain ⟨c0, c1, c2, c3⟩ := four_low C1.out hb z1
        clear hb
        go_wp2_with fail
        go_ret2
        exact ⟨rfl, B2.out⟩
      · have HT := hid (show oText o = (if emB o.2.2.2 = true then oMid o else oMid o ++ (⟨#[58]⟩ ++ o.2.2.2)) from rfl)
        rw [if_neg e3] at HT
        unfold oMid at HT
        rw [if_neg e2] at HT
        unfold oHead at HT
        rw [if_neg e1] at HT
        rw [HT.out]
        rw [Bool.eq_false_iff.2 e1] at HE
        obtain ⟨k, p, v, f⟩ := o
        simp only [ov] at *
        have g2 : (p.toList == [69, 113, 117, 97, 108]) = false := by have := Bool.eq_false_iff.2 e2; unfold eqS at this; rw [lEq] at this; exact this
        have g3 : f.toList.isEmpty = false := Bool.eq_false_iff.2 e3
        clear e1 e2 e3 HT
        have HF := hid (four_alloc w (.string k) (.string p) (.string v) (.string f) 27)
        have HW := hid (belowA w (.cells #[.string k, .string p, .string v, .string f] 27))
        have hz : w.heap.size < (w.alloc (.cells #[.string k, .string p, .string v, .string f] 27)).heap.size := by simp
        go_enter Tryz.func18, Tryz.ntmps18
        go_wp2_with fail
        refine (HC.out _).mono ?_
        rintro e w1 ⟨rfl, hb⟩
        have B1 := hid (HW.out.trans (hb.mono HW.out.size))
        have C1 := hid (four_low HF.out hb hz)
        obtain ⟨c0, c1, c2, c3⟩ := C1.out
        have z1 : w.heap.size < w1.heap.size := Nat.lt_of_lt_of_le hz hb.size
        clear hb
        go_wp2_with fail
        refine (HE.out _).mono ?_
        rintro e w2 ⟨rfl, hb⟩
        have B2 := hid (B1.out.trans (hb.mono B1.out.size))
        clear c0 c1 c2 c3
        obtain ⟨c0, c1, c2, c3⟩ := four_low C1.out hb z1
        clear hb
        go_wp2_with fail
        go_ret2
        exact ⟨rfl, B2.out⟩
theorem results_cell1 {fn : Func} {p : Tmp} {ty : TypeId} (h : fn.results = #[.cell p ty]) (tmps : Array Value) (P : Program) (w : World) :
    (results fn tmps).run P w = ((asAddr (tmps.getD p undef)).run P w).andThen fun a w₁ => (loadVar ty a).run P w₁ := by
  simp only [results, h]
  simp [Sem.run_bind, Result.andThen]
theorem below_set4 {B : Nat} {a w : World} (h : Below B a w) (b : Nat) (x y z u : Value) (hb : B ≤ b) : Below B a ((((w.setCell ⟨b, 0, none⟩ x).setCell ⟨b, 1, none⟩ y).setCell ⟨b, 2, none⟩ z).setCell ⟨b, 3, none⟩ u) := below_set (below_set (below_set (below_set h b 0 x hb) b 1 y hb) b 2 z hb) b 3 u hb
/-- The toleration that a text without an effect writes. -/
def rRest (r : ByteArray) : To := if idx r 61 = -1 then (if eqS r ⟨#[42]⟩ = true then (⟨#[]⟩, sEx, ⟨#[]⟩, ⟨#[]⟩) else (r, sEx, ⟨#[]⟩, ⟨#[]⟩)) else (r.extract 0 (idx r 61).toNat, sEq, r.extract ((idx r 61).toNat + 1) r.size, ⟨#[]⟩)
theorem l42 : (⟨#[42]⟩ : ByteArray).toList = [42] := bytes_toList _
set_option maxHeartbeats 4000000 in
theorem rest_any (r : ByteArray) (w : World) (hr : r.size ≤ maxLen) : Calls Tryz.prog 49 #[.string r] w fun e w' => e = .returned (ov (rRest r)) ∧ Below w.heap.size w w' := by
  rcases idx_cases r 61 with h | ⟨j, h, hj⟩
  · have HD := hid (fun W => cut_no r 61 W h)
    by_cases e : eqS r ⟨#[42]⟩ = true
    · have HR := hid (show rRest r = (⟨#[]⟩, sEx, ⟨#[]⟩, ⟨#[]⟩) by unfold rRest; rw [if_pos h, if_pos e])
      rw [HR.out]
      unfold eqS at e
      rw [l42] at e
      simp only [ov, sEx]
      clear HR h
      go_enter Tryz.func49, Tryz.ntmps49
      go_wp2_with fail
      refine (HD.out _).mono ?_
      rintro e w1 ⟨rfl, hww⟩; subst hww
      go_wp2_with fail
      (try simp only [Exit.inBlock, Exit.then])
      refine bodyPost_ret (v := .agg #[.string ⟨#[]⟩, .string ⟨#[69, 120, 105, 115, 116, 115]⟩, .string ⟨#[]⟩, .string ⟨#[]⟩]) ?_ rfl ⟨rfl, belowA _ _⟩
      rw [results_cell1 rfl]
      go_simp
    · have HR := hid (show rRest r = (r, sEx, ⟨#[]⟩, ⟨#[]⟩) by unfold rRest; rw [if_pos h, if_neg e])
      rw [HR.out]
      have e' := Bool.eq_false_iff.2 e
      unfold eqS at e'
      rw [l42] at e'
      simp only [ov, sEx]
      clear HR h e
      go_enter Tryz.func49, Tryz.ntmps49
      go_wp2_with fail
      refine (HD.out _).mono ?_
      rintro e w1 ⟨rfl, hww⟩; subst hww
      go_wp2_with fail
      (try simp only [Exit.inBlock, Exit.then])
      refine bodyPost_ret (v := .agg #[.string r, .string ⟨#[69, 120, 105, 115, 116, 115]⟩, .string ⟨#[]⟩, .string ⟨#[]⟩]) ?_ rfl ⟨rfl, belowA _ _⟩
      rw [results_cell1 rfl]
      go_simp
  · have HD := hid (fun W => cut_yes r 61 j W hr h hj)
    have HR := hid (show rRest r = (r.extract 0 j, sEq, r.extract (j + 1) r.size, ⟨#[]⟩) by unfold rRest; rw [h, if_neg (by omega)]; rfl)
    rw [HR.out]
    simp only [ov, sEq]
    clear HR h
    generalize r.extract 0 j = k at *
    generalize r.extract (j + 1) r.size = v at *
    go_enter Tryz.func49, Tryz.ntmps49
    go_wp2_with fail
    refine (HD.out _).mono ?_
    rintro e w1 ⟨rfl, n, hww⟩; subst hww
    go_wp2_with fail
    (try simp only [Exit.inBlock, Exit.then])
    refine bodyPost_ret (v := .agg #[.string k, .string ⟨#[69, 113, 117, 97, 108]⟩, .string v, .string ⟨#[]⟩]) ?_ rfl ⟨rfl, below_set4 (below_drewN (belowA _ _) n) _ _ _ _ _ (Nat.le_refl _)⟩
    rw [results_cell1 rfl]
    go_simp
end Go.Proofs.YtppblibcbjpfnaaGreatDoor.L
