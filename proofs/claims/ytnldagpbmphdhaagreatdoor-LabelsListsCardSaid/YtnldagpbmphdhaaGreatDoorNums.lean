import Derived.Test.YtnldagpbmphdhaaGreatDoorTxt
import Derived.Test.YtnldagpbmphdhaaGreatDoorDec
import Derived.Test.YtnldagpbmphdhaaGreatDoorLayN
namespace Go.Proofs.YtnldagpbmphdhaaGreatDoor.L
open Go.RowKit Go.Sort
set_option linter.unusedVariables false
/-- What the package-level variables on the road hold. -/
structure Vars (w : World) : Prop where
  tab : Lib.TabIs Tryz.prog w "internal/strconv.uint64pow10" .u64 Lib.pow10Tab
  syn : ∃ tp p, w.var? Tryz.prog "strconv.ErrSyntax" = some #[.iface tp p]
  rng : ∃ tp p, w.var? Tryz.prog "strconv.ErrRange" = some #[.iface tp p]
theorem var_low {w w' : World} {name : String} {x : Array Value} (h : w.var? Tryz.prog name = some x) (hb : Below w.heap.size w w') : w'.var? Tryz.prog name = some x := by
  unfold World.var? at h ⊢
  cases e : Tryz.prog.globalNamed name with
  | none => rw [e] at h; cases h
  | some g =>
    rw [e] at h
    simp only [Option.bind_some] at h ⊢
    have hlt : g < w.heap.size := by
      apply Classical.byContradiction
      intro n
      rw [Array.getElem?_eq_none (by omega)] at h
      cases h
    rw [hb.block g hlt]
    exact h
theorem Vars.low {w w' : World} (h : Vars w) (hb : Below w.heap.size w w') : Vars w' := by
  obtain ⟨a, ⟨t1, p1, b⟩, ⟨t2, p2, c⟩⟩ := h
  exact ⟨var_low a hb, ⟨t1, p1, var_low b hb⟩, ⟨t2, p2, var_low c hb⟩⟩
theorem below_grow (w : World) (k : Nat) (os : Array Obj) : Below w.heap.size w (grow (w.drewN k) os) := by
  refine ⟨rfl, rfl, rfl, ?_, fun j hj => ?_⟩
  · show w.heap.size ≤ (w.heap ++ os).size
    simp
  · show (w.heap ++ os)[j]? = _
    rw [Array.getElem?_append_left hj]
theorem below_bytes (w : World) (t : ByteArray) : Below w.heap.size w (Lib.bytesWorld w 5 t) := by
  have h := Lib.bytesWorld_below w 5 t
  exact h
def tx (n : Int) : ByteArray := ⟨(Lib.itoa n).toArray⟩
theorem itoa_any (n : Int) (h0 : -9223372036854775808 ≤ n) (h1 : n ≤ 9223372036854775807) (w : World) (hv : Vars w) : Calls Tryz.prog 82 #[.int .i64 n] w fun e w' => e = .returned (.string (tx n)) ∧ Below w.heap.size w w' := by
  refine (show Calls Tryz.prog 82 _ _ _ from Any.strconv_Itoa laysM171 n h0 h1 w hv.tab).mono ?_
  rintro e w' ⟨rfl, k, os, rfl⟩
  exact ⟨rfl, below_grow w k os⟩
theorem atoi_ok (s : ByteArray) (hs : s.size ≤ 281474976710656) (n : Int) (h : Lib.atoiAll s.data.toList = .ok n) (w : World) : Calls Tryz.prog 81 #[.string s] w fun e w' => e = .returned (.tuple #[.int .i64 n, .nilIface]) ∧ Below w.heap.size w w' := by
  refine (show Calls Tryz.prog 81 _ _ _ from Any.strconv_Atoi_ok laysC172 s (by omega) n h w).mono ?_
  rintro e w' ⟨rfl, rfl | ⟨t, rfl⟩⟩
  · exact ⟨rfl, Below.refl _ _⟩
  · exact ⟨rfl, below_bytes w t⟩
theorem atoi_bad (s : ByteArray) (hs : s.size ≤ 281474976710656) (h : ∀ n, Lib.atoiAll s.data.toList ≠ .ok n) (w : World) (hv : Vars w) : Calls Tryz.prog 81 #[.string s] w fun e w' => ∃ n t N, e = .returned (.tuple #[.int .i64 n, .iface t (.pointer (some ⟨N, 0, none⟩))]) ∧ Below w.heap.size w w' := by
  cases e : Lib.atoiAll s.data.toList with
  | ok n => exact absurd e (h n)
  | «syntax» =>
    obtain ⟨tp, p, hvar⟩ := hv.syn
    refine (show Calls Tryz.prog 81 _ _ _ from Any.strconv_Atoi_syntax_var laysC172 s hs e tp p w hvar).mono ?_
    rintro e w' ⟨N, rfl, _, _, hb⟩
    exact ⟨_, _, N, rfl, hb⟩
  | range =>
    obtain ⟨tp, p, hvar⟩ := hv.rng
    refine (show Calls Tryz.prog 81 _ _ _ from Any.strconv_Atoi_range_var laysC172 s hs e tp p w hvar).mono ?_
    rintro e w' ⟨N, rfl, _, _, hb⟩
    exact ⟨_, _, N, rfl, hb⟩
set_option maxHeartbeats 1000000 in
theorem inttext_out (n : Int) (h0 : -9223372036854775808 ≤ n) (h1 : n ≤ 9223372036854775807) (w : World) (h : ¬ (-999999999999999 ≤ n ∧ n ≤ 999999999999999)) : Calls Tryz.prog 45 #[.int .i64 n] w fun e w' => e = .returned (.tuple #[.string ByteArray.empty, .bool false]) ∧ w' = w := by
  by_cases a : n < -999999999999999
  · go_enter Tryz.func45, Tryz.ntmps45
    go_wp2
    go_ret2
    exact ⟨rfl, rfl⟩
  · have b : (999999999999999 : Int) < n := by omega
    go_enter Tryz.func45, Tryz.ntmps45
    go_wp2
    go_ret2
    exact ⟨rfl, rfl⟩
set_option maxHeartbeats 1000000 in
theorem inttext_in (n : Int) (h0 : -999999999999999 ≤ n) (h1 : n ≤ 999999999999999) (w : World) (hv : Vars w) : Calls Tryz.prog 45 #[.int .i64 n] w fun e w' => e = .returned (.tuple #[.string (tx n), .bool true]) ∧ Below w.heap.size w w' := by
  have HI := hid (itoa_any n (by omega) (by omega) w hv)
  have a : ¬ n < -999999999999999 := by omega
  have b : ¬ (999999999999999 : Int) < n := by omega
  generalize tx n = t at *
  go_enter Tryz.func45, Tryz.ntmps45
  go_wp2_with fail
  refine HI.out.mono ?_
  rintro e w1 ⟨rfl, hb⟩
  go_wp2_with fail
  go_ret2
  exact ⟨rfl, hb⟩
/-- The number that a text writes. -/
def intOk (s : ByteArray) (n : Int) : Prop := Lib.atoiAll s.data.toList = .ok n ∧ -999999999999999 ≤ n ∧ n ≤ 999999999999999 ∧ tx n = s
set_option maxHeartbeats 2000000 in
theorem int_yes (s : ByteArray) (hs : s.size ≤ 281474976710656) (n : Int) (h : intOk s n) (w : World) (hv : Vars w) : Calls Tryz.prog 43 #[.string s] w fun e w' => e = .returned (.tuple #[.int .i64 n, .bool true]) ∧ Below w.heap.size w w' := by
  obtain ⟨a, b, c, d⟩ := h
  have HA := hid (atoi_ok s hs n a w)
  have HI := hid (fun W (hb : Below w.heap.size w W) => inttext_in n b c W (hv.low hb))
  rw [d] at HI
  clear d
  go_enter Tryz.func43, Tryz.ntmps43
  go_wp2_with fail
  refine HA.out.mono ?_
  rintro e w1 ⟨rfl, hb1⟩
  have HB := hid hb1
  clear hb1
  go_wp2_with fail
  refine (HI.out _ HB.out).mono ?_
  rintro e w2 ⟨rfl, hb2⟩
  have HB2 := hid hb2
  clear hb2
  go_wp2_with fail
  go_ret2
  exact ⟨rfl, HB.out.trans (HB2.out.mono HB.out.size)⟩
set_option maxHeartbeats 2000000 in
theorem int_no (s : ByteArray) (hs : s.size ≤ 281474976710656) (h : ∀ n, ¬ intOk s n) (w : World) (hv : Vars w) : Calls Tryz.prog 43 #[.string s] w fun e w' => e = .returned (.tuple #[.int .i64 0, .bool false]) ∧ Below w.heap.size w w' := by
  by_cases ok : ∃ n, Lib.atoiAll s.data.toList = .ok n
  · obtain ⟨n, a⟩ := ok
    have HA := hid (atoi_ok s hs n a w)
    have hn : -9223372036854775808 ≤ n ∧ n ≤ 9223372036854775807 := atoi_range a
    by_cases r : -999999999999999 ≤ n ∧ n ≤ 999999999999999
    · have HI := hid (fun W (hb : Below w.heap.size w W) => inttext_in n r.1 r.2 W (hv.low hb))
      have ne : ((tx n).toList == s.toList) = false := by
        cases e : ((tx n).toList == s.toList)
        · rfl
        · exact absurd ⟨a, r.1, r.2, bytes_ext (by simpa using e)⟩ (h n)
      generalize tx n = t at *
      go_enter Tryz.func43, Tryz.ntmps43
      go_wp2_with fail
      refine HA.out.mono ?_
      rintro e w1 ⟨rfl, hb1⟩
      have HB := hid hb1
      clear hb1
      go_wp2_with fail
      refine (HI.out _ HB.out).mono ?_
      rintro e w2 ⟨rfl, hb2⟩
      have HB2 := hid hb2
      clear hb2
      go_wp2_with fail
      go_ret2
      exact ⟨rfl, HB.out.trans (HB2.out.mono HB.out.size)⟩
    · have HI := hid (fun W => inttext_out n hn.1 hn.2 W r)
      go_enter Tryz.func43, Tryz.ntmps43
      go_wp2_with fail
      refine HA.out.mono ?_
      rintro e w1 ⟨rfl, hb1⟩
      have HB := hid hb1
      clear hb1
      go_wp2_with fail
      refine (HI.out _).mono ?_
      rintro e w2 ⟨rfl, hb2⟩
      subst hb2
      go_wp2_with fail
      go_ret2
      exact ⟨rfl, HB.out⟩
  · have HA := hid (atoi_bad s hs (fun n hn => ok ⟨n, hn⟩) w hv)
    go_enter Tryz.func43, Tryz.ntmps43
    go_wp2_with fail
    refine HA.out.mono ?_
    rintro e w1 ⟨n, t, N, rfl, hb1⟩
    have HB := hid hb1
    clear hb1
    go_wp2_with fail
    go_ret2
    exact ⟨rfl, HB.out⟩
end Go.Proofs.YtnldagpbmphdhaaGreatDoor.L
