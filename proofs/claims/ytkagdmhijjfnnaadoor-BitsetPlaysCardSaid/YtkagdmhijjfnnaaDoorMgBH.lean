import Derived.Test.YtkagdmhijjfnnaaDoorMgBD
import Derived.Test.YtkagdmhijjfnnaaDoorMgBE
import Derived.Test.YtkagdmhijjfnnaaDoorMgBF
import Derived.Test.YtkagdmhijjfnnaaDoorMgBG
import Derived.Test.YtkagdmhijjfnnaaDoorMgAF
import Derived.Test.YtkagdmhijjfnnaaDoorCards
import Derived.Test.YtkagdmhijjfnnaaDoorTie
import Derived.Test.YtkagdmhijjfnnaaDoorMgAG
import Derived.ProofKit
import Derived.OpenShut
import Derived.Deep.DeepHandedRow
import Derived.Lib.LaidTab
import Derived.Lib.SmallJoins
namespace Go.Proofs.YtkagdmhijjfnnaaDoor
open Go.RowKit Bs
set_option linter.unusedVariables false
theorem changing_all (k oa ob oc oi : Int) (vL vW : Value) (w0 W : World) (B : Nat) (st : Nat → RSt) (h : Rg w0 W B st) (ok : Ok st) (hk : 11 ≤ k ∧ k ≤ 16) :
    Calls Tryd.prog 50 #[.pointer (some ⟨B, 0, none⟩), .agg #[.int .i64 k, .int .i64 oa, .int .i64 ob, .int .i64 oc, .int .i64 oi, vL, vW]] W fun e w' => e = .returned (.bool true) ∧ ∃ st', Rg w0 w' B st' ∧ Ok st' := by
  rcases (show k = 11 ∨ k = 12 ∨ k = 13 ∨ k = 14 ∨ k = 15 ∨ k = 16 by omega) with rfl | rfl | rfl | rfl | rfl | rfl
  · exact chg_add oa ob oc oi vL vW w0 W B st h ok
  · exact chg_rem oa ob oc oi vL vW w0 W B st h ok
  · rcases (ok (oa % 4).toNat (by omega)).nl with ⟨a, b⟩ | ⟨a, p, b⟩
    · exact chg_grow_nil oa ob oc oi vL vW w0 W B st h ok b a
    · exact chg_grow oa ob oc oi vL vW w0 W B st h ok p b a
  · exact chg_andw oa ob oc oi vL vW w0 W B st h ok
  · exact chg_orw oa ob oc oi vL vW w0 W B st h ok
  · exact chg_andnw oa ob oc oi vL vW w0 W B st h ok
set_option maxRecDepth 100000 in
set_option maxHeartbeats 8000000 in
theorem step_nil (oa ob oc oi : Int) (vL vW : Value) (w0 W : World) (B : Nat) (st : Nat → RSt) (h : Rg w0 W B st) (ok : Ok st) :
    Calls Tryd.prog 10 #[.pointer (some ⟨B, 0, none⟩), .agg #[.int .i64 10, .int .i64 oa, .int .i64 ob, .int .i64 oc, .int .i64 oi, vL, vW]] W fun e w' => e = .returned (.bool true) ∧ ∃ st', Rg w0 w' B st' ∧ Ok st' := by
  obtain ⟨ka, ha, ea⟩ := reg_of oa
  have O1 := hid (Ob.new W 10 oa ob oc oi vL vW)
  have R1 := hid (h.low (lowAlloc W (.cells #[.int .i64 10, .int .i64 oa, .int .i64 ob, .int .i64 oc, .int .i64 oi, vL, vW] 37)))
  have OK := hid ok
  clear h ok
  have o0 := O1.out.o0
  have o1 := O1.out.o1
  have hia : (ka : Int) < 4 := by omega
  obtain ⟨m0, m1, m2, m3⟩ := R1.out.cells ha
  have z0 := R1.out.fz ka
  have z1 := R1.out.fz (4 + ka * 2)
  have z2 := R1.out.fz (4 + ka * 2 + 1)
  have z3 := R1.out.fz (12 + ka)
  have hBn : B ≠ W.heap.size := by
    obtain ⟨cur, hc, _⟩ := R1.out.bb
    exact kinds_ne hc (heap_alloc_new W _) (by decide)
  go_enter Tryd.func10, Tryd.ntmps10
  go_wp2_with fail
  generalize W.alloc _ = V at *
  go_region
  have FIN := hid ((R1.out.setA ha ⟨.pointer none, 0, 0, (fun _ => false), 0, .slice none 0 0, [], true⟩ (Or.inl ⟨rfl, rfl, fun _ => rfl⟩) (World.ownsRow_nil _ _ _ _) (fun p e => by cases e)).low (belowDr _))
  have KX := hid (show Ok1 ⟨.pointer none, 0, 0, (fun _ => false), 0, .slice none 0 0, [], true⟩ from ⟨rfl, ⟨rfl, fun t ht => by cases ht⟩, by decide, fun _ _ => rfl, Or.inl ⟨rfl, rfl⟩⟩)
  clear m0 m1 m2 m3 z0 z1 z2 z3
  go_wp2_with fail
  go_ret
  exact ⟨rfl, _, FIN.out, OK.out.upd KX.out⟩
end Go.Proofs.YtkagdmhijjfnnaaDoor
namespace Go.Proofs.YtkagdmhijjfnnaaDoor
open Go.RowKit Bs
set_option linter.unusedVariables false
abbrev StepQ (w0 : World) (B : Nat) : Ending → World → Prop := fun e w' => e = .returned (.bool true) ∧ ∃ st', Rg w0 w' B st' ∧ Ok st'
set_option maxRecDepth 100000 in
set_option maxHeartbeats 4000000 in
theorem step_all (k oa ob oc oi : Int) (vL vW : Value) (w0 W : World) (B : Nat) (st : Nat → RSt) (h : Rg w0 W B st) (ok : Ok st) (hi : In W vL vW)
    (ASK : ∀ V, Rg w0 V B st → 17 ≤ k ∧ k ≤ 26 → Calls Tryd.prog 51 #[.pointer (some ⟨B, 0, none⟩), .agg #[.int .i64 k, .int .i64 oa, .int .i64 ob, .int .i64 oc, .int .i64 oi, vL, vW]] V (StepQ w0 B)) :
    Calls Tryd.prog 10 #[.pointer (some ⟨B, 0, none⟩), .agg #[.int .i64 k, .int .i64 oa, .int .i64 ob, .int .i64 oc, .int .i64 oi, vL, vW]] W fun e w' => e = .returned (.bool true) ∧ ∃ st', Rg w0 w' B st' ∧ Ok st' := by
  by_cases h10 : k = 10
  · subst h10; exact step_nil oa ob oc oi vL vW w0 W B st h ok
  have bl := lowAlloc W (.cells #[.int .i64 k, .int .i64 oa, .int .i64 ob, .int .i64 oc, .int .i64 oi, vL, vW] 37)
  have O1 := hid (Ob.new W k oa ob oc oi vL vW)
  have R1 := hid (h.low bl)
  have I1 := hid (hi.low bl)
  have OK := hid ok
  have AS := hid ASK
  clear h ok hi bl ASK
  have o0 := O1.out.o0
  have o1 := O1.out.o1
  have o2 := O1.out.o2
  have o3 := O1.out.o3
  have o4 := O1.out.o4
  have o5 := O1.out.o5
  have o6 := O1.out.o6
  have e10 : (k == 10) = false := by simpa using h10
  by_cases c1 : 1 ≤ k
  · by_cases c2 : k ≤ 3
    · go_enter Tryd.func10, Tryd.ntmps10
      go_wp2_with fail
      refine (making_all k oa ob oc oi vL vW w0 _ B st R1.out OK.out I1.out ⟨c1, c2⟩).mono ?_
      rintro e w2 ⟨rfl, FIN⟩
      have F := hid FIN
      clear FIN o0 o1 o2 o3 o4 o5 o6
      go_wp2_with fail
      go_ret
      exact ⟨rfl, F.out⟩
    · have c4 : 4 ≤ k := by omega
      by_cases c5 : k ≤ 9
      · go_enter Tryd.func10, Tryd.ntmps10
        go_wp2_with fail
        refine (joining_all k oa ob oc oi vL vW w0 _ B st R1.out OK.out ⟨c4, c5⟩).mono ?_
        rintro e w2 ⟨rfl, FIN⟩
        have F := hid FIN
        clear FIN o0 o1 o2 o3 o4 o5 o6
        go_wp2_with fail
        go_ret
        exact ⟨rfl, F.out⟩
      · have c6 : 11 ≤ k := by omega
        by_cases c7 : k ≤ 16
        · go_enter Tryd.func10, Tryd.ntmps10
          go_wp2_with fail
          refine (changing_all k oa ob oc oi vL vW w0 _ B st R1.out OK.out ⟨c6, c7⟩).mono ?_
          rintro e w2 ⟨rfl, FIN⟩
          have F := hid FIN
          clear FIN o0 o1 o2 o3 o4 o5 o6
          go_wp2_with fail
          go_ret
          exact ⟨rfl, F.out⟩
        · have c8 : 17 ≤ k := by omega
          by_cases c9 : k ≤ 26
          · go_enter Tryd.func10, Tryd.ntmps10
            go_wp2_with fail
            refine (AS.out _ R1.out ⟨c8, c9⟩).mono ?_
            rintro e w2 ⟨rfl, FIN⟩
            have F := hid FIN
            clear FIN o0 o1 o2 o3 o4 o5 o6
            go_wp2_with fail
            go_ret
            exact ⟨rfl, F.out⟩
          · go_enter Tryd.func10, Tryd.ntmps10
            go_wp2_with fail
            go_ret
            exact ⟨rfl, _, R1.out, OK.out⟩
  · have c2 : ¬ 4 ≤ k := by omega
    have c3 : ¬ 11 ≤ k := by omega
    have c4 : ¬ 17 ≤ k := by omega
    go_enter Tryd.func10, Tryd.ntmps10
    go_wp2_with fail
    go_ret
    exact ⟨rfl, _, R1.out, OK.out⟩
end Go.Proofs.YtkagdmhijjfnnaaDoor
namespace Go.Proofs.YtkagdmhijjfnnaaDoor
open Go.RowKit Bs
set_option linter.unusedVariables false
/-- One call of the script. -/
def OpAt (W : World) (b p : Nat) : Prop := ∃ (k oa ob oc oi : Int) (vL vW : Value), (W.cell? ⟨b, p, none⟩ = some (.int .i64 k) ∧ W.cell? ⟨b, p + 1, none⟩ = some (.int .i64 oa) ∧ W.cell? ⟨b, p + 2, none⟩ = some (.int .i64 ob) ∧ W.cell? ⟨b, p + 3, none⟩ = some (.int .i64 oc) ∧ W.cell? ⟨b, p + 4, none⟩ = some (.int .i64 oi) ∧ W.cell? ⟨b, p + 5, none⟩ = some vL ∧ W.cell? ⟨b, p + 6, none⟩ = some vW) ∧ In W vL vW ∧ oi ≤ 9223372036854775807
theorem OpAt.low {W W' : World} {b p : Nat} (h : OpAt W b p) (hb : b < W.heap.size) (k : Below W.heap.size W W') : OpAt W' b p := by
  obtain ⟨kd, oa, ob, oc, oi, vL, vW, ⟨c0, c1, c2, c3, c4, c5, c6⟩, hi, ho⟩ := h
  exact ⟨kd, oa, ob, oc, oi, vL, vW, ⟨(k.cell (p := ⟨b, p, none⟩) hb).trans c0, (k.cell (p := ⟨b, p + 1, none⟩) hb).trans c1, (k.cell (p := ⟨b, p + 2, none⟩) hb).trans c2, (k.cell (p := ⟨b, p + 3, none⟩) hb).trans c3, (k.cell (p := ⟨b, p + 4, none⟩) hb).trans c4, (k.cell (p := ⟨b, p + 5, none⟩) hb).trans c5, (k.cell (p := ⟨b, p + 6, none⟩) hb).trans c6⟩, hi.low k, ho⟩
/-- The script that came in. -/
def List7 (W : World) (a : Option Addr) (len : Nat) : Prop := len ≤ maxLen ∧ (len = 0 ∨ ∃ b off, a = some ⟨b, off, none⟩ ∧ b < W.heap.size ∧ ∀ j, j < len → OpAt W b (off + j * 7))
def st0 : Nat → RSt := fun _ => ⟨.pointer none, 0, 0, (fun _ => false), 0, .slice none 0 0, [], true⟩
theorem ok0 : Ok st0 := fun i _ => ⟨rfl, ⟨rfl, fun t ht => by cases ht⟩, Nat.zero_le _, fun _ _ => rfl, Or.inl ⟨rfl, rfl⟩⟩
def regs0 : Array Value := #[.pointer none, .pointer none, .pointer none, .pointer none, .int .i64 0, .slice none 0 0, .int .i64 0, .slice none 0 0, .int .i64 0, .slice none 0 0, .int .i64 0, .slice none 0 0, .bool true, .bool true, .bool true, .bool true]
theorem rg0 {w0 W : World} (hb : Below w0.heap.size w0 W) (ht : Tab w0) : Rg w0 (W.alloc (.cells regs0 33)) W.heap.size st0 := by
  refine ⟨⟨regs0, heap_alloc_new W _, rfl, fun i hi => ?_⟩, fun i _ => Or.inl ⟨rfl, rfl, fun _ => rfl⟩, fun i _ => World.ownsRow_nil _ _ _ _, (fun i j _ _ _ p p' e => by cases e), (fun i _ p e => by cases e), hb.trans ((lowAlloc W _).mono hb.size), hb.size, ht⟩
  match i, hi with
  | 0, _ => exact ⟨rfl, rfl, rfl, rfl⟩
  | 1, _ => exact ⟨rfl, rfl, rfl, rfl⟩
  | 2, _ => exact ⟨rfl, rfl, rfl, rfl⟩
  | 3, _ => exact ⟨rfl, rfl, rfl, rfl⟩
set_option maxRecDepth 100000 in
set_option maxHeartbeats 4000000 in
theorem plays_law (a : Option Addr) (len cap : Nat) (w : World) (ht : Tab w) (hl : List7 w a len)
    (ASK : ∀ (B : Nat) (k oa ob oc oi : Int) (vL vW : Value) (V : World) (st : Nat → RSt), Rg w V B st → Ok st → oi ≤ 9223372036854775807 → 17 ≤ k ∧ k ≤ 26 → Calls Tryd.prog 51 #[.pointer (some ⟨B, 0, none⟩), .agg #[.int .i64 k, .int .i64 oa, .int .i64 ob, .int .i64 oc, .int .i64 oi, vL, vW]] V (StepQ w B)) :
    Calls Tryd.prog 3 #[.slice a len cap] w fun e w' => e = .returned (.bool true) ∧ Below w.heap.size w w' := by
  obtain ⟨hlm, hl⟩ := hl
  have AS := hid ASK
  have HT := hid ht
  have HL := hid hl
  clear ht hl ASK
  have hlm2 : len ≤ 9223372036854775807 := by unfold maxLen at hlm; exact hlm
  clear hlm
  go_enter Tryd.func3, Tryd.ntmps3
  go_wp2_with fail
  refine (awake_any _ HT.out).mono ?_
  rintro e w1 ⟨rfl, hb1⟩
  have R0 := hid (rg0 hb1 HT.out)
  have OK0 := hid ok0
  clear hb1
  go_wp2_with fail
  unfold regs0 at R0
  generalize w1.alloc _ = V at *
  generalize w1.heap.size = B at *
  go_loopw [4] (fun i wr => ∃ (k : Nat) (st : Nat → RSt), k ≤ len ∧ i = .int .i64 k ∧ Hid (Rg w wr B st) ∧ Hid (Ok st)) (fun i _ => len - (intOf i).toNat)
  case atStart => exact ⟨0, st0, Nat.zero_le _, rfl, R0, OK0⟩
  case round =>
    clear R0 OK0
    obtain ⟨k, st, hk, rfl, RG, OK⟩ := hrel
    by_cases hlt : k < len
    · rcases HL.out with h0 | ⟨b, off, rfl, hbl, hall⟩
      · omega
      obtain ⟨kd, oa, ob, oc, oi, vL, vW, ⟨c0, c1, c2, c3, c4, c5, c6⟩, hi, ho⟩ := (hall k hlt).low hbl RG.out.lo
      have ST := hid (step_all kd oa ob oc oi vL vW w wr B st RG.out OK.out hi (fun V hV hk => AS.out B kd oa ob oc oi vL vW V st hV OK.out ho hk))
      have hki : (k : Int) < (len : Int) := by omega
      clear hi ho hall
      go_wp2_with fail
      refine ST.out.mono ?_
      rintro e w2 ⟨rfl, st2, R2, O2⟩
      have R9 := hid R2
      have O9 := hid O2
      clear R2 O2 c0 c1 c2 c3 c4 c5 c6 ST
      go_wp2_with fail
      exact ⟨⟨k + 1, st2, by omega, by go_num, R9, O9⟩, by simp [intOf]; omega⟩
    · have hki : ¬ (k : Int) < (len : Int) := by omega
      go_wp2_with fail
      go_ret
      exact ⟨rfl, RG.out.lo⟩
end Go.Proofs.YtkagdmhijjfnnaaDoor
namespace Go.Proofs.YtkagdmhijjfnnaaDoor
open Go.ChangeShapes Go.WideShapes Go.ChangeAt Go.RowKit Go.Joins Bs

theorem own : ownKnob Tryd.prog.godebug = none := by kernel_rfl
theorem laidOut : laidOutB Tryd.prog = true := by kernel_rfl
theorem gTab : Tryd.prog.globalNamed "math/bits.deBruijn64tab" = some 0 := by kernel_rfl
theorem gTabType : (Tryd.prog.globals[0]?).map (·.type) = some 96 := by kernel_rfl
theorem cells96 : Tryd.prog.cellsOf 96 = 64 := by kernel_rfl
theorem cells5 : Tryd.prog.cellsOf 5 = 1 := by kernel_rfl
theorem cells3 : Tryd.prog.cellsOf 3 = 1 := by kernel_rfl
theorem cells40 : Tryd.prog.cellsOf 40 = 4 := by kernel_rfl
theorem bytes3 : Tryd.prog.bytesOf 3 = 8 := by kernel_rfl
theorem read40 : Tryd.prog.readableRec 40 = true := by kernel_rfl
theorem row40 : 40 < Tryd.prog.types.size := of_decide_eq_true (by kernel_rfl)

def tabInts : List Int := Lib.deBruijn64tab.map fun x : Nat => (x : Int)
/-- WHAT THE ROW's LIST GIVES: the table's cells hold its numbers. -/
theorem tab_of {W : World} (h : laidMetH Tryd.prog [("math/bits.deBruijn64tab", Rows.laid_math_bits_deBruijn64tab)] W) : Tab W := by
  have ht : Lib.TabIs Tryd.prog W "math/bits.deBruijn64tab" .u8 tabInts := Lib.tabIs_of_head (rest := []) gTab gTabType Tryd.underlying96 Tryd.underlying5 cells5 cells96 h
  intro k hk
  have e : tabInts.length = 64 := by decide
  rw [ht.cell gTab k (by omega)]
  simp [tabInts]
  cases Lib.deBruijn64tab[k]? <;> rfl
/-- A slice of numbers, opened. -/
theorem ints_open {H : Type} {enc : TypeId × Value → H} {W : World} {fuel : Nat} {v : Value} {y : DataW H × List MemPlace} (h : DataW.trod enc Tryd.prog W 0 (fun _ => true) true fuel 28 [v] = some y) :
    ∃ zs : List Int, Ints W v zs ∧ ((∃ el sp, y.1 = .slice el sp ∧ zs.length ≤ el.length + sp.length) ∨ zs = []) := by
  rcases open_ints Tryd.underlying28 Tryd.underlying3 cells3 h with ⟨hv, hx⟩ | ⟨a, len, cap, zs, hv, _, hl, hm, hz, hx, hc, hw⟩
  · simp at hv
    subst hv
    exact ⟨[], Or.inl ⟨_, _, rfl, rfl⟩, Or.inr rfl⟩
  · simp at hv
    subst hv
    simp at hz
    have hlen : (zs.take len).length = len := by rw [List.length_take]; omega
    refine ⟨zs.take len, ?_, Or.inl ⟨_, _, by rw [hx], ?_⟩⟩
    · by_cases h0 : len = 0
      · subst h0
        exact Or.inl ⟨_, _, rfl, by simp⟩
      · obtain ⟨b, off, rfl, hc'⟩ := ints_at hc (by omega)
        refine Or.inr ⟨b, off, cap, by rw [hlen], block_lt_of_cell (hc' 0 (by omega)), fun j hj => ?_⟩
        rw [hlen] at hj
        rw [hc' j (by omega)]
        simp [hj]
    · simp [lits]
theorem all_le {l : List Nat} {b : Nat} (h : l.all (fun x => decide (x ≤ b)) = true) {x : Nat} (hx : x ∈ l) : x ≤ b := by
  rw [List.all_eq_true] at h
  simpa using h x hx
theorem reach_num : reachBytes = 140737488351232 := by kernel_rfl
theorem reach_ints {H : Type} {d : DataW H} {zs : List Int} (h : ∀ x ∈ d.weights Tryd.prog 28, x ≤ reachBytes) (hz : (∃ el sp, d = .slice el sp ∧ zs.length ≤ el.length + sp.length) ∨ zs = []) : zs.length * 8 ≤ 140737488351232 := by
  rcases hz with ⟨el, sp, rfl, hl⟩ | rfl
  · have := h ((el.length + sp.length) * 8) (by simp [DataW.weights, Tryd.underlying28, bytes3])
    rw [reach_num] at this
    have : zs.length * 8 ≤ (el.length + sp.length) * 8 := Nat.mul_le_mul_right 8 hl
    omega
  · decide
/-- The law's argument, opened. -/
theorem three_open {H : Type} {enc : TypeId × Value → H} {W : World} {base : Nat} {v : Value} {d : DataW H} {p : List MemPlace} (hv : Value.okWide Tryd.prog W .any base 40 v) (h : DataW.Trod enc Tryd.prog W 0 (fun _ => true) true 40 v d p)
    (hsz : (DataW.weightsEach Tryd.prog [40] [d]).all (fun x => decide (x ≤ reachBytes)) = true) :
    ∃ (N : Int) (vA vB vC : Value) (zA zB zC : List Int), v = .agg #[.int .i64 N, vA, vB, vC] ∧ -9223372036854775808 ≤ N ∧ N ≤ 9223372036854775807 ∧ Ints W vA zA ∧ Ints W vB zB ∧ Ints W vC zC ∧
      zA.length * 8 ≤ 140737488351232 ∧ zB.length * 8 ≤ 140737488351232 ∧ zC.length * 8 ≤ 140737488351232 := by
  obtain ⟨v0, v1, v2, v3, y0, y1, y2, y3, n, rfl, rfl, rfl, h0, h1, h2, h3⟩ := open_agg4 Tryd.underlying40 (by kernel_rfl) cells40 hv h
  obtain ⟨N, e0, _, wN⟩ := DataW.trod_int Tryd.underlying3 h0
  simp at e0
  subst e0
  obtain ⟨zA, iA, lA⟩ := ints_open h1
  obtain ⟨zB, iB, lB⟩ := ints_open h2
  obtain ⟨zC, iC, lC⟩ := ints_open h3
  have hw : DataW.weightsEach Tryd.prog [40] [.agg [y0.1, y1.1, y2.1, y3.1]] = y0.1.weights Tryd.prog 3 ++ (y1.1.weights Tryd.prog 28 ++ (y2.1.weights Tryd.prog 28 ++ y3.1.weights Tryd.prog 28)) := by
    simp [DataW.weightsEach, DataW.weights, Tryd.underlying40]
  rw [hw] at hsz
  have hb := bounds_i64 wN
  refine ⟨N, v1, v2, v3, zA, zB, zC, rfl, ?_, ?_, iA, iB, iC, reach_ints (fun x hx => all_le hsz (by simp [hx])) lA, reach_ints (fun x hx => all_le hsz (by simp [hx])) lB, reach_ints (fun x hx => all_le hsz (by simp [hx])) lC⟩
  · exact hb.1
  · exact hb.2
/-- A WORLD FOR THE WITNESS: the settled one, the table (block 0) holding what its initialiser lays. -/
theorem reads_stay {H : Type} {enc : TypeId × Value → H} {W W' : World} {v : Value} {d : DataW H} {p : List MemPlace} (h : DataW.Trod enc Tryd.prog W 0 (fun _ => true) true 40 v d p) (hb : Below W.heap.size W W') (hlt : ∀ x ∈ p, x.block < W.heap.size) :
    DataW.Trod enc Tryd.prog W' 0 (fun b => decide (b < W.heap.size)) true 40 v d p := Below.trod laidOut read40 row40 h hb hlt
end Go.Proofs.YtkagdmhijjfnnaaDoor
