import Derived.Test.YtnldagpbmphdhaaGreatDoorRit
import Derived.Test.YtnldagpbmphdhaaGreatDoorRnk
import Derived.Deep.RegionHeld3
namespace Go.Proofs.YtnldagpbmphdhaaGreatDoor.L
open Go.RowKit
set_option linter.unusedVariables false
theorem eight_new (w : World) (a b c d e f g h : Value) (t : TypeId) : (w.alloc (.cells #[a, b, c, d, e, f, g, h] t)).cell? ⟨w.heap.size, 4, none⟩ = some e ∧ (w.alloc (.cells #[a, b, c, d, e, f, g, h] t)).cell? ⟨w.heap.size, 7, none⟩ = some h := by
  have h : (w.alloc (.cells #[a, b, c, d, e, f, g, h] t)).heap[w.heap.size]? = some (.cells #[a, b, c, d, e, f, g, h] t) := by
    show (w.heap.push _)[w.heap.size]? = _
    simp
  unfold World.cell?
  rw [h]
  exact ⟨rfl, rfl⟩
theorem eq_self (r : Bool) : (r == r) = true := by cases r <;> rfl
set_option maxHeartbeats 4000000 in
set_option maxRecDepth 100000 in
theorem texts_name (vL vO vD : Value) (s ky vl : ByteArray) (n : Int) (w : World) (hs : s.size ≤ 281474976710656) :
    Calls Tryz.prog 27 #[.agg #[.int .i64 1, vL, vO, vD, .string s, .string ky, .string vl, .int .i64 n]] w fun e w' => e = .returned (.bool true) ∧ Below w.heap.size w w' := by
  have F1 := hid (fun W => name_any s W (by unfold maxLen; omega))
  have F2 := hid (fun W => rname_any s W (by unfold maxLen; omega))
  generalize nameB s = r at *
  go_enter Tryz.func27, Tryz.ntmps27
  go_wp2_with fail
  have B0 := hid (show Below w.heap.size w (w.alloc (.cells #[.int .i64 1, vL, vO, vD, .string s, .string ky, .string vl, .int .i64 n] 40)) from belowA _ _)
  have Z0 := hid (show w.heap.size < (w.alloc (.cells #[.int .i64 1, vL, vO, vD, .string s, .string ky, .string vl, .int .i64 n] 40)).heap.size by simp)
  have C0 := hid (eight_new w (.int .i64 1) vL vO vD (.string s) (.string ky) (.string vl) (.int .i64 n) 40)
  generalize w.alloc (.cells #[.int .i64 1, vL, vO, vD, .string s, .string ky, .string vl, .int .i64 n] 40) = W0 at *
  have T0 : W0.drew.cell? ⟨w.heap.size, 4, none⟩ = some (.string s) := C0.out.1
  go_region_held3 (fun W => W.cell? ⟨w.heap.size, 4, none⟩ = some (.string s))
    (first | exact T0 | exact T1 | exact T2)
    (first
      | (go_at_call 14; refine (F1.out _).mono ?_; rintro e w1 ⟨rfl, hb1⟩; have D1 := hid hb1; clear hb1; have T1 := (D1.out.cell (p := ⟨w.heap.size, 4, none⟩) Z0.out).trans T0; have Z1 := hid (Nat.lt_of_lt_of_le Z0.out D1.out.size); have B1 := hid (B0.out.drew.trans (D1.out.mono (B0.out.drew.size))))
      | (go_at_call 39; refine (F2.out _).mono ?_; rintro e w2 ⟨rfl, hb2⟩; have D2 := hid hb2; clear hb2; have T2 := (D2.out.cell (p := ⟨w.heap.size, 4, none⟩) Z1.out).trans T1; have B2 := hid (B1.out.trans (D2.out.mono B1.out.size))))
  go_wp2_with fail
  go_ret
  exact ⟨ret_bool (by simp), B2.out⟩
set_option maxHeartbeats 4000000 in
set_option maxRecDepth 100000 in
theorem texts_key (vL vO vD : Value) (s ky vl : ByteArray) (n : Int) (w : World) (hs : s.size ≤ 281474976710656) :
    Calls Tryz.prog 27 #[.agg #[.int .i64 2, vL, vO, vD, .string s, .string ky, .string vl, .int .i64 n]] w fun e w' => e = .returned (.bool true) ∧ Below w.heap.size w w' := by
  have F1 := hid (fun W => key_any s W (by unfold maxLen; omega))
  have F2 := hid (fun W => rkey_any s W (by unfold maxLen; omega))
  generalize keyB s = r at *
  go_enter Tryz.func27, Tryz.ntmps27
  go_wp2_with fail
  have B0 := hid (show Below w.heap.size w (w.alloc (.cells #[.int .i64 2, vL, vO, vD, .string s, .string ky, .string vl, .int .i64 n] 40)) from belowA _ _)
  have Z0 := hid (show w.heap.size < (w.alloc (.cells #[.int .i64 2, vL, vO, vD, .string s, .string ky, .string vl, .int .i64 n] 40)).heap.size by simp)
  have C0 := hid (eight_new w (.int .i64 2) vL vO vD (.string s) (.string ky) (.string vl) (.int .i64 n) 40)
  generalize w.alloc (.cells #[.int .i64 2, vL, vO, vD, .string s, .string ky, .string vl, .int .i64 n] 40) = W0 at *
  have T0 : W0.drew.cell? ⟨w.heap.size, 4, none⟩ = some (.string s) := C0.out.1
  go_region_held3 (fun W => W.cell? ⟨w.heap.size, 4, none⟩ = some (.string s))
    (first | exact T0 | exact T1 | exact T2)
    (first
      | (go_at_call 8; refine (F1.out _).mono ?_; rintro e w1 ⟨rfl, hb1⟩; have D1 := hid hb1; clear hb1; have T1 := (D1.out.cell (p := ⟨w.heap.size, 4, none⟩) Z0.out).trans T0; have Z1 := hid (Nat.lt_of_lt_of_le Z0.out D1.out.size); have B1 := hid (B0.out.drew.trans (D1.out.mono (B0.out.drew.size))))
      | (go_at_call 40; refine (F2.out _).mono ?_; rintro e w2 ⟨rfl, hb2⟩; have D2 := hid hb2; clear hb2; have T2 := (D2.out.cell (p := ⟨w.heap.size, 4, none⟩) Z1.out).trans T1; have B2 := hid (B1.out.trans (D2.out.mono B1.out.size))))
  go_wp2_with fail
  go_ret
  exact ⟨ret_bool (by simp), B2.out⟩
set_option maxHeartbeats 4000000 in
set_option maxRecDepth 100000 in
theorem texts_value (vL vO vD : Value) (s ky vl : ByteArray) (n : Int) (w : World) (hs : s.size ≤ 281474976710656) :
    Calls Tryz.prog 27 #[.agg #[.int .i64 3, vL, vO, vD, .string s, .string ky, .string vl, .int .i64 n]] w fun e w' => e = .returned (.bool true) ∧ Below w.heap.size w w' := by
  have F1 := hid (fun W => value_any s W (by unfold maxLen; omega))
  have F2 := hid (fun W => rvalue_any s W (by unfold maxLen; omega))
  generalize valB s = r at *
  go_enter Tryz.func27, Tryz.ntmps27
  go_wp2_with fail
  have B0 := hid (show Below w.heap.size w (w.alloc (.cells #[.int .i64 3, vL, vO, vD, .string s, .string ky, .string vl, .int .i64 n] 40)) from belowA _ _)
  have Z0 := hid (show w.heap.size < (w.alloc (.cells #[.int .i64 3, vL, vO, vD, .string s, .string ky, .string vl, .int .i64 n] 40)).heap.size by simp)
  have C0 := hid (eight_new w (.int .i64 3) vL vO vD (.string s) (.string ky) (.string vl) (.int .i64 n) 40)
  generalize w.alloc (.cells #[.int .i64 3, vL, vO, vD, .string s, .string ky, .string vl, .int .i64 n] 40) = W0 at *
  have T0 : W0.drew.cell? ⟨w.heap.size, 4, none⟩ = some (.string s) := C0.out.1
  go_region_held3 (fun W => W.cell? ⟨w.heap.size, 4, none⟩ = some (.string s))
    (first | exact T0 | exact T1 | exact T2)
    (first
      | (go_at_call 41; refine (F1.out _).mono ?_; rintro e w1 ⟨rfl, hb1⟩; subst hb1; have T1 := T0)
      | (go_at_call 42; refine (F2.out _).mono ?_; rintro e w2 ⟨rfl, hb2⟩; subst hb2; have T2 := T1))
  go_wp2_with fail
  go_ret
  exact ⟨ret_bool (by simp), B0.out.drew⟩
set_option maxHeartbeats 4000000 in
set_option maxRecDepth 100000 in
theorem texts_int (vL vO vD : Value) (s ky vl : ByteArray) (n : Int) (w : World) (hs : s.size ≤ 281474976710656) (hv : Vars w) :
    Calls Tryz.prog 27 #[.agg #[.int .i64 4, vL, vO, vD, .string s, .string ky, .string vl, .int .i64 n]] w fun e w' => e = .returned (.bool true) ∧ Below w.heap.size w w' := by
  have F2 := hid (fun W => rint_any s W (by unfold maxLen; omega))
  by_cases ok : ∃ k, intOk s k
  · obtain ⟨k, hk⟩ := ok
    have F1 := hid (fun W (hb : Below w.heap.size w W) => int_yes s hs k hk W (hv.low hb))
    have HU := hid (fun e (h : rintQ s e) => show e = .returned (.tuple #[.int .i64 k, .bool true]) from by
      rcases h with ⟨m, hm, rfl⟩ | ⟨hn, _⟩
      · have := hm.1.symm.trans hk.1
        rw [show m = k by simpa using this]
      · exact absurd hk (hn k))
    clear hk hv
    go_enter Tryz.func27, Tryz.ntmps27
    go_wp2_with fail
    have B0 := hid (show Below w.heap.size w (w.alloc (.cells #[.int .i64 4, vL, vO, vD, .string s, .string ky, .string vl, .int .i64 n] 40)) from belowA _ _)
    have Z0 := hid (show w.heap.size < (w.alloc (.cells #[.int .i64 4, vL, vO, vD, .string s, .string ky, .string vl, .int .i64 n] 40)).heap.size by simp)
    have C0 := hid (eight_new w (.int .i64 4) vL vO vD (.string s) (.string ky) (.string vl) (.int .i64 n) 40).1
    generalize w.alloc (.cells #[.int .i64 4, vL, vO, vD, .string s, .string ky, .string vl, .int .i64 n] 40) = W0 at *
    refine (F1.out _ B0.out).mono ?_
    rintro e w1 ⟨rfl, hb1⟩
    have B1 := hid (B0.out.trans (hb1.mono B0.out.size))
    have c1 : w1.cell? ⟨w.heap.size, 4, none⟩ = some (.string s) := (hb1.cell (p := ⟨w.heap.size, 4, none⟩) Z0.out).trans C0.out
    have z1 : w.heap.size < w1.heap.size := Nat.lt_of_lt_of_le Z0.out hb1.size
    clear hb1
    go_wp2_with fail
    refine (F2.out _).mono ?_
    rintro e w2 ⟨hq, hww⟩
    subst hww
    obtain rfl := HU.out e hq
    clear hq
    go_wp2_with fail
    go_ret
    exact ⟨ret_bool (by simp), B1.out⟩
  · have F1 := hid (fun W (hb : Below w.heap.size w W) => int_no s hs (fun k hk => ok ⟨k, hk⟩) W (hv.low hb))
    have HU := hid (fun e (h : rintQ s e) => show e = .returned (.tuple #[.int .i64 0, .bool false]) from by
      rcases h with ⟨m, hm, rfl⟩ | ⟨hn, h⟩
      · exact absurd ⟨m, hm⟩ ok
      · exact h)
    clear hv ok
    go_enter Tryz.func27, Tryz.ntmps27
    go_wp2_with fail
    have B0 := hid (show Below w.heap.size w (w.alloc (.cells #[.int .i64 4, vL, vO, vD, .string s, .string ky, .string vl, .int .i64 n] 40)) from belowA _ _)
    have Z0 := hid (show w.heap.size < (w.alloc (.cells #[.int .i64 4, vL, vO, vD, .string s, .string ky, .string vl, .int .i64 n] 40)).heap.size by simp)
    have C0 := hid (eight_new w (.int .i64 4) vL vO vD (.string s) (.string ky) (.string vl) (.int .i64 n) 40).1
    generalize w.alloc (.cells #[.int .i64 4, vL, vO, vD, .string s, .string ky, .string vl, .int .i64 n] 40) = W0 at *
    refine (F1.out _ B0.out).mono ?_
    rintro e w1 ⟨rfl, hb1⟩
    have B1 := hid (B0.out.trans (hb1.mono B0.out.size))
    have c1 : w1.cell? ⟨w.heap.size, 4, none⟩ = some (.string s) := (hb1.cell (p := ⟨w.heap.size, 4, none⟩) Z0.out).trans C0.out
    have z1 : w.heap.size < w1.heap.size := Nat.lt_of_lt_of_le Z0.out hb1.size
    clear hb1
    go_wp2_with fail
    refine (F2.out _).mono ?_
    rintro e w2 ⟨hq, hww⟩
    subst hww
    obtain rfl := HU.out e hq
    clear hq
    go_wp2_with fail
    go_ret
    exact ⟨ret_bool (by simp), B1.out⟩
set_option maxHeartbeats 4000000 in
set_option maxRecDepth 100000 in
theorem texts_inttext (vL vO vD : Value) (s ky vl : ByteArray) (n : Int) (w : World) (h0 : -9223372036854775808 ≤ n) (h1 : n ≤ 9223372036854775807) (hv : Vars w) :
    Calls Tryz.prog 27 #[.agg #[.int .i64 5, vL, vO, vD, .string s, .string ky, .string vl, .int .i64 n]] w fun e w' => e = .returned (.bool true) ∧ Below w.heap.size w w' := by
  by_cases r : -999999999999999 ≤ n ∧ n ≤ 999999999999999
  · have F1 := hid (fun W (hb : Below w.heap.size w W) => inttext_in n r.1 r.2 W (hv.low hb))
    have F2 := hid (fun W => rinttext_in n r.1 r.2 W)
    generalize tx n = t at *
    clear hv r
    go_enter Tryz.func27, Tryz.ntmps27
    go_wp2_with fail
    have B0 := hid (show Below w.heap.size w (w.alloc (.cells #[.int .i64 5, vL, vO, vD, .string s, .string ky, .string vl, .int .i64 n] 40)) from belowA _ _)
    have Z0 := hid (show w.heap.size < (w.alloc (.cells #[.int .i64 5, vL, vO, vD, .string s, .string ky, .string vl, .int .i64 n] 40)).heap.size by simp)
    have C0 := hid (eight_new w (.int .i64 5) vL vO vD (.string s) (.string ky) (.string vl) (.int .i64 n) 40).2
    generalize w.alloc (.cells #[.int .i64 5, vL, vO, vD, .string s, .string ky, .string vl, .int .i64 n] 40) = W0 at *
    refine (F1.out _ B0.out).mono ?_
    rintro e w1 ⟨rfl, hb1⟩
    have B1 := hid (B0.out.trans (hb1.mono B0.out.size))
    have c1 : w1.cell? ⟨w.heap.size, 7, none⟩ = some (.int .i64 n) := (hb1.cell (p := ⟨w.heap.size, 7, none⟩) Z0.out).trans C0.out
    have z1 : w.heap.size < w1.heap.size := Nat.lt_of_lt_of_le Z0.out hb1.size
    clear hb1
    go_wp2_with fail
    refine (F2.out _).mono ?_
    rintro e w2 ⟨rfl, hb2⟩
    have B2 := hid (B1.out.trans (hb2.mono B1.out.size))
    clear hb2
    go_wp2_with fail
    go_ret
    exact ⟨ret_bool (by simp), B2.out⟩
  · have F1 := hid (fun W => inttext_out n h0 h1 W r)
    have F2 := hid (fun W => rinttext_out n h0 h1 W r)
    clear hv r
    go_enter Tryz.func27, Tryz.ntmps27
    go_wp2_with fail
    have B0 := hid (show Below w.heap.size w (w.alloc (.cells #[.int .i64 5, vL, vO, vD, .string s, .string ky, .string vl, .int .i64 n] 40)) from belowA _ _)
    refine (F1.out _).mono ?_
    rintro e w1 ⟨rfl, hww⟩
    subst hww
    go_wp2_with fail
    refine (F2.out _).mono ?_
    rintro e w1 ⟨rfl, hww⟩
    subst hww
    go_wp2_with fail
    go_ret
    exact ⟨ret_bool (by simp), B0.out⟩
end Go.Proofs.YtnldagpbmphdhaaGreatDoor.L
