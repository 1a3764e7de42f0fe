import Derived.Test.YtbplmglddinkdabDoorXW
import Derived.Test.YtbplmglddinkdabDoorZE
namespace Go.Proofs.YtbplmglddinkdabDoor.L
open Go.RowKit Go.Shelf
set_option linter.unusedVariables false
theorem bt_app (a b : ByteArray) (j : Nat) : bt (a ++ b) j = if j < a.size then bt a j else bt b (j - a.size) := by
  unfold bt
  rw [ByteArray.data_append, Array.toList_append]
  have hz : a.data.toList.length = a.size := Array.length_toList
  simp only [List.getD_eq_getElem?_getD]
  split
  · rw [List.getElem?_append_left (by omega)]
  · rw [List.getElem?_append_right (by omega), hz]
theorem ext_app (a b : ByteArray) (i j : Nat) (h : j ≤ a.size) : (a ++ b).extract i j = a.extract i j := by
  apply ByteArray.ext
  rw [ByteArray.data_extract, ByteArray.data_extract, ByteArray.data_append]
  have hz : a.data.size = a.size := rfl
  apply Array.toList_inj.1
  simp only [Array.toList_extract, Array.toList_append, List.extract_eq_take_drop]
  rw [List.drop_append, List.take_append]
  simp
  omega
theorem ext_blank (s r : ByteArray) : Ext s (s ++ ⟨#[32]⟩ ++ r) := by
  have hb : (⟨#[32]⟩ : ByteArray).size = 1 := rfl
  refine ⟨by simp only [ByteArray.size_append]; omega, fun j hj => ?_, ?_, fun a b h => ?_⟩
  · rw [bt_app, if_pos (by simp only [ByteArray.size_append]; omega), bt_app, if_pos hj]
  · rw [bt_app, if_pos (by simp only [ByteArray.size_append]; omega), bt_app, if_neg (by omega), Nat.sub_self]
    rfl
  · rw [ext_app _ _ _ _ (by simp only [ByteArray.size_append]; omega), ext_app _ _ _ _ h]
theorem scan_code' (s : ByteArray) {c a : Nat} (h : (scanS s 0).2 = some (c, a)) : c ≠ 0 := scan_code s _ 0 rfl c a h
theorem run_assert_nil (w : World) : (Instr.typeAssert .nilIface 25 28 true).run Tryd.prog w = .ok (.tuple #[.pointer none, .bool false]) w := by
  kernel_rfl
set_option maxHeartbeats 8000000 in
set_option maxRecDepth 100000 in
theorem first_any (s r : ByteArray) (w : World) (hvar : Vars w) (h1 : s.size ≤ 140737488351232) (h2 : r.size ≤ 140737488351232) :
    Calls Tryd.prog 3 #[.string s, .string r] w fun e w' => e = .returned (.bool true) ∧ Below w.heap.size w w' := by
  have HF := hid (fixed_any w hvar)
  have HV := hid hvar
  cases hT : (scanT s).2 with
  | none =>
    have A1 := hid (fun W hv => scan_ok s (scanT s).1 W hv (by rw [← hT]))
    clear hT
    have RA := run_assert_nil
    go_enter Tryd.func3, Tryd.ntmps3
    go_wp2_with (first
      | (go_at_call 5; refine HF.out.mono ?_; rintro e w1 ⟨rfl, l1⟩; have L1 := hid l1; have HV1 := hid (HV.out.low l1); clear l1)
      | (go_at_call 6; refine (A1.out _ HV1.out).mono ?_; rintro e w2 ⟨v2, rfl, o2, l2⟩; have O2 := hid o2; have L2 := hid (L1.out.trans (l2.mono L1.out.size)); clear l2 o2))
    go_ret
    exact ⟨rfl, L2.out⟩
  | some p =>
    obtain ⟨c, a⟩ := p
    have A1 := hid (fun W hv => scan_bad' s c a W hv hT)
    have RA := run_assert
    have HT := hid hT
    clear hT
    go_enter Tryd.func3, Tryd.ntmps3
    go_upto_region 7 with (first
      | (go_at_call 5; refine HF.out.mono ?_; rintro e w1 ⟨rfl, l1⟩; have L1 := hid l1; have HV1 := hid (HV.out.low l1); clear l1)
      | (go_at_call 6; refine (A1.out _ HV1.out).mono ?_; rintro e w2 ⟨N, he, f2, n2, l2⟩; unfold fv at he; subst he; have F2 := hid f2; have c0 := f2.cells.1; have c1 := f2.cells.2.1; have L2 := hid (L1.out.trans (l2.mono L1.out.size)); clear l2 f2 n2))
    clear A1
    go_upto_region 8 with fail
    have E := hid (ext_blank s r)
    generalize s ++ ⟨#[32]⟩ ++ r = u at *
    by_cases z1 : c = 110
    · subst z1
      go_wp2_with fail
      go_ret
      exact ⟨rfl, L2.out⟩
    · have z1' : ((c : Int) == 110) = false := by simp; omega
      by_cases z2 : c = 112
      · subst z2
        go_wp2_with fail
        go_ret
        exact ⟨rfl, L2.out⟩
      · have z2' : ((c : Int) == 112) = false := by simp; omega
        by_cases z3 : 4096 < u.size
        · have z3' : (4096 : Int) < u.size := by omega
          go_wp2_with fail
          go_ret
          exact ⟨rfl, L2.out⟩
        · have z3' : ¬ (4096 : Int) < u.size := by omega
          have hz := E.out.sz
          have e1 : scanT s = scanS s 0 := if_pos (by omega)
          have e2 : scanT u = scanS u 0 := if_pos (by omega)
          have hT := HT.out
          rw [e1] at hT
          have ha := scan_at s _ 0 rfl c a hT
          have A2 := hid (fun W hv => scan_bad' u c a W hv (by rw [e2]; exact scan_ext E.out _ 0 rfl c a hT z2))
          have hc0 : c ≠ 0 := scan_code' s hT
          have IF := hid (fun N W (h : Flt W N c a) => isfault_yes N c a W h hc0)
          unfold fv at IF
          have HV2 := hid (HV.out.low L2.out)
          have k1 : ¬ (a : Int) < 0 := by omega
          have k2 : ¬ (s.size : Int) ≤ a := by omega
          clear hT e1 e2 hz
          go_upto_region 13 with (go_at_call 6; refine (A2.out _ HV2.out).mono ?_; rintro e w3 ⟨M, he, f3, n3, l3⟩; unfold fv at he; subst he; have F3 := hid f3; have F4 := hid (F2.out.low l3 F2.out.lt); have L3 := hid (L2.out.trans (l3.mono L2.out.size)); clear l3 f3 n3)
          clear c0 c1
          have c0 := F4.out.cells.1
          have c1 := F4.out.cells.2.1
          go_quiet ((go_at_call 7; exact Calls.quiet_of_same (IF.out _ _ (F3.out.low (below_drewN (Below.refl _ _) _) F3.out.lt))))
          go_wp2_with fail
          go_ret
          exact ⟨rfl, below_drewN L3.out _⟩
end Go.Proofs.YtbplmglddinkdabDoor.L
