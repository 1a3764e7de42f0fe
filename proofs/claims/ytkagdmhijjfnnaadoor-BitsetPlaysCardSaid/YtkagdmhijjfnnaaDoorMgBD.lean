import Derived.Test.YtkagdmhijjfnnaaDoorMgBB
import Derived.Test.YtkagdmhijjfnnaaDoorMgAX
import Derived.Test.YtkagdmhijjfnnaaDoorMgAY
import Derived.Test.YtkagdmhijjfnnaaDoorMgAZ
import Derived.Test.YtkagdmhijjfnnaaDoorMgBA
import Derived.Test.YtkagdmhijjfnnaaDoorMgBC
namespace Go.Proofs.YtkagdmhijjfnnaaDoor
open Go.RowKit Bs
set_option linter.unusedVariables false
set_option maxRecDepth 100000 in
set_option maxHeartbeats 8000000 in
theorem mk_words_len (oa ob oc : Int) (n : Nat) (vL vW : Value) (w0 W : World) (B : Nat) (st : Nat → RSt) (h : Rg w0 W B st) (ok : Ok st) (hn : n ≤ 65536) (us : List Nat) (hH : HoldsWG W vW us) (wd : Wd us) (hlen : us.length ≤ 17592186043904) (hl : us.length ≠ nw n) :
    Calls Tryd.prog 48 #[.pointer (some ⟨B, 0, none⟩), .agg #[.int .i64 3, .int .i64 oa, .int .i64 ob, .int .i64 oc, .int .i64 (n : Int), vL, vW]] W fun e w' => e = .returned (.bool true) ∧ ∃ st', Rg w0 w' B st' ∧ Ok st' := by
  obtain ⟨ka, ha, ea⟩ := reg_of oa
  have O1 := hid (Ob.new W 3 oa ob oc (n : Int) vL vW)
  have BL1 := hid (lowAlloc W (.cells #[.int .i64 3, .int .i64 oa, .int .i64 ob, .int .i64 oc, .int .i64 (n : Int), vL, vW] 37))
  have R1 := hid (h.low BL1.out)
  have OK := hid ok
  obtain ⟨aL, cL, hvL, rdL⟩ := hH.rd
  subst hvL
  have HO := hid (fun V (hV : Below (W.alloc (.cells #[.int .i64 3, .int .i64 oa, .int .i64 ob, .int .i64 oc, .int .i64 (n : Int), vL, .slice aL us.length cL] 37)).heap.size (W.alloc (.cells #[.int .i64 3, .int .i64 oa, .int .i64 ob, .int .i64 oc, .int .i64 (n : Int), vL, .slice aL us.length cL] 37)) V) => hH.low (belowT BL1.out hV))
  have RL := hid (fun V (hV : Below (W.alloc (.cells #[.int .i64 3, .int .i64 oa, .int .i64 ob, .int .i64 oc, .int .i64 (n : Int), vL, .slice aL us.length cL] 37)).heap.size (W.alloc (.cells #[.int .i64 3, .int .i64 oa, .int .i64 ob, .int .i64 oc, .int .i64 (n : Int), vL, .slice aL us.length cL] 37)) V) => rdL.low (belowT BL1.out hV) (Nat.le_refl _))
  clear hH rdL
  clear h ok
  have o0 := O1.out.o0
  have o1 := O1.out.o1
  have o4 := O1.out.o4
  have o5 := O1.out.o5
  have o6 := O1.out.o6
  go_enter Tryd.func48, Tryd.ntmps48
  go_wp2_with fail
  generalize W.alloc _ = X at *
  clear ea
  go_region_held3 (fun Y => Y.cell? ⟨W.heap.size, 4, none⟩ = some (.int .i64 (n : Int)) ∧ Y.cell? ⟨W.heap.size, 6, none⟩ = some (.slice aL us.length cL))
    (first | exact ⟨o4, o6⟩ | exact T1 | exact T2 | go_keep)
    (first
      | (go_at_call 36; refine (words_ownG _ us _ (HO.out _ (belowDr X)) hlen).mono ?_; rintro e w1 ⟨g1, c1, rfl, ws1, hg1, hb1⟩
         have L1 := hid (belowT (belowDr X) hb1)
         have T1 := And.intro ((L1.out.cell (p := ⟨W.heap.size, 4, none⟩) O1.out.lt).trans o4) ((L1.out.cell (p := ⟨W.heap.size, 6, none⟩) O1.out.lt).trans o6)
         have WS1 := hid ws1
         clear ws1
         clear hb1)
      | (go_at_call 34; refine (fromw_long n c1 g1 us _ _ hn WS1.out hl).mono ?_; rintro e w2 ⟨rfl, hb2⟩
         have L2 := hid (belowT L1.out hb2)
         have T2 := And.intro ((L2.out.cell (p := ⟨W.heap.size, 4, none⟩) O1.out.lt).trans o4) ((L2.out.cell (p := ⟨W.heap.size, 6, none⟩) O1.out.lt).trans o6)
         clear hb2))
  clear T1 T2
  have O2 := hid (O1.out.on L2.out)
  have R2 := hid (R1.out.low L2.out)
  clear o0 o1 o4 o5 o6
  have o4 := O2.out.o4
  have o5 := O2.out.o5
  have o6 := O2.out.o6
  go_wp2_with fail
  refine (dfw_len n aL us.length cL _ hn hl).mono ?_
  rintro e w3 ⟨rfl, hb3⟩
  have R4 := hid ((R2.out.low hb3).low (lowAlloc w3 (.cells #[.int .i64 0, .slice none 0 0] 30)))
  have rb4 := heap_alloc_new w3 (.cells #[.int .i64 0, .slice none 0 0] 30)
  have g0 : (w3.alloc (.cells #[.int .i64 0, .slice none 0 0] 30)).cell? ⟨w3.heap.size, 0, none⟩ = some (.int .i64 0) := by rw [cell_of_row _ _ 0 _ _ _ rb4]; rfl
  have g1 : (w3.alloc (.cells #[.int .i64 0, .slice none 0 0] 30)).cell? ⟨w3.heap.size, 1, none⟩ = some (.slice none 0 0) := by rw [cell_of_row _ _ 1 _ _ _ rb4]; rfl
  clear rb4 o4 o5 o6
  go_wp2_with fail
  refine (made_no ka 14 0 none 0 0 w0 _ B st R4.out (by decide)).mono ?_
  rintro e w5 ⟨rfl, R5⟩
  have FIN := hid R5
  clear R5 g0 g1
  go_wp2_with fail
  go_ret
  exact ⟨rfl, _, FIN.out, OK.out⟩
end Go.Proofs.YtkagdmhijjfnnaaDoor
namespace Go.Proofs.YtkagdmhijjfnnaaDoor
open Go.RowKit Bs
set_option linter.unusedVariables false
set_option maxRecDepth 100000 in
set_option maxHeartbeats 8000000 in
theorem mk_words_no (oa ob oc : Int) (oi : Int) (vL vW : Value) (w0 W : World) (B : Nat) (st : Nat → RSt) (h : Rg w0 W B st) (ok : Ok st) (hn : ¬ (0 ≤ oi ∧ oi ≤ 65536)) (us : List Nat) (hH : HoldsWG W vW us) (wd : Wd us) (hlen : us.length ≤ 17592186043904) :
    Calls Tryd.prog 48 #[.pointer (some ⟨B, 0, none⟩), .agg #[.int .i64 3, .int .i64 oa, .int .i64 ob, .int .i64 oc, .int .i64 oi, vL, vW]] W fun e w' => e = .returned (.bool true) ∧ ∃ st', Rg w0 w' B st' ∧ Ok st' := by
  obtain ⟨ka, ha, ea⟩ := reg_of oa
  have O1 := hid (Ob.new W 3 oa ob oc oi vL vW)
  have BL1 := hid (lowAlloc W (.cells #[.int .i64 3, .int .i64 oa, .int .i64 ob, .int .i64 oc, .int .i64 oi, vL, vW] 37))
  have R1 := hid (h.low BL1.out)
  have OK := hid ok
  obtain ⟨aL, cL, hvL, rdL⟩ := hH.rd
  subst hvL
  have HO := hid (fun V (hV : Below (W.alloc (.cells #[.int .i64 3, .int .i64 oa, .int .i64 ob, .int .i64 oc, .int .i64 oi, vL, .slice aL us.length cL] 37)).heap.size (W.alloc (.cells #[.int .i64 3, .int .i64 oa, .int .i64 ob, .int .i64 oc, .int .i64 oi, vL, .slice aL us.length cL] 37)) V) => hH.low (belowT BL1.out hV))
  have RL := hid (fun V (hV : Below (W.alloc (.cells #[.int .i64 3, .int .i64 oa, .int .i64 ob, .int .i64 oc, .int .i64 oi, vL, .slice aL us.length cL] 37)).heap.size (W.alloc (.cells #[.int .i64 3, .int .i64 oa, .int .i64 ob, .int .i64 oc, .int .i64 oi, vL, .slice aL us.length cL] 37)) V) => rdL.low (belowT BL1.out hV) (Nat.le_refl _))
  clear hH rdL
  clear h ok
  have o0 := O1.out.o0
  have o1 := O1.out.o1
  have o4 := O1.out.o4
  have o5 := O1.out.o5
  have o6 := O1.out.o6
  go_enter Tryd.func48, Tryd.ntmps48
  go_wp2_with fail
  generalize W.alloc _ = X at *
  clear ea
  go_region_held3 (fun Y => Y.cell? ⟨W.heap.size, 4, none⟩ = some (.int .i64 oi) ∧ Y.cell? ⟨W.heap.size, 6, none⟩ = some (.slice aL us.length cL))
    (first | exact ⟨o4, o6⟩ | exact T1 | exact T2 | go_keep)
    (first
      | (go_at_call 36; refine (words_ownG _ us _ (HO.out _ (belowDr X)) hlen).mono ?_; rintro e w1 ⟨g1, c1, rfl, ws1, hg1, hb1⟩
         have L1 := hid (belowT (belowDr X) hb1)
         have T1 := And.intro ((L1.out.cell (p := ⟨W.heap.size, 4, none⟩) O1.out.lt).trans o4) ((L1.out.cell (p := ⟨W.heap.size, 6, none⟩) O1.out.lt).trans o6)
         have WS1 := hid ws1
         clear ws1
         clear hb1)
      | (go_at_call 34; refine (fromw_no oi _ _ hn).mono ?_; rintro e w2 ⟨rfl, hww⟩; have hb2 : Below w1.heap.size w1 w2 := (by rw [hww]; exact Below.refl _ _)
         have L2 := hid (belowT L1.out hb2)
         have T2 := And.intro ((L2.out.cell (p := ⟨W.heap.size, 4, none⟩) O1.out.lt).trans o4) ((L2.out.cell (p := ⟨W.heap.size, 6, none⟩) O1.out.lt).trans o6)
         clear hww
         clear hb2))
  clear T1 T2
  have O2 := hid (O1.out.on L2.out)
  have R2 := hid (R1.out.low L2.out)
  clear o0 o1 o4 o5 o6
  have o4 := O2.out.o4
  have o5 := O2.out.o5
  have o6 := O2.out.o6
  go_wp2_with fail
  refine (dfw_no oi aL us.length cL _ hn).mono ?_
  rintro e w3 ⟨rfl, hb3⟩
  have R4 := hid ((R2.out.low hb3).low (lowAlloc w3 (.cells #[.int .i64 0, .slice none 0 0] 30)))
  have rb4 := heap_alloc_new w3 (.cells #[.int .i64 0, .slice none 0 0] 30)
  have g0 : (w3.alloc (.cells #[.int .i64 0, .slice none 0 0] 30)).cell? ⟨w3.heap.size, 0, none⟩ = some (.int .i64 0) := by rw [cell_of_row _ _ 0 _ _ _ rb4]; rfl
  have g1 : (w3.alloc (.cells #[.int .i64 0, .slice none 0 0] 30)).cell? ⟨w3.heap.size, 1, none⟩ = some (.slice none 0 0) := by rw [cell_of_row _ _ 1 _ _ _ rb4]; rfl
  clear rb4 o4 o5 o6
  go_wp2_with fail
  refine (made_no ka 11 0 none 0 0 w0 _ B st R4.out (by decide)).mono ?_
  rintro e w5 ⟨rfl, R5⟩
  have FIN := hid R5
  clear R5 g0 g1
  go_wp2_with fail
  go_ret
  exact ⟨rfl, _, FIN.out, OK.out⟩
end Go.Proofs.YtkagdmhijjfnnaaDoor
namespace Go.Proofs.YtkagdmhijjfnnaaDoor
open Go.RowKit Bs
set_option linter.unusedVariables false
/-- What comes in with an operation: its lists. -/
structure In (W : World) (vL vW : Value) : Prop where
  l : ∃ zs : List Int, HoldsG W vL zs ∧ zs.length ≤ 17592186043904
  w : ∃ us : List Nat, HoldsWG W vW us ∧ Wd us ∧ us.length ≤ 17592186043904
theorem In.low {W W' : World} {vL vW : Value} (h : In W vL vW) (k : Below W.heap.size W W') : In W' vL vW := by
  obtain ⟨zs, a, b⟩ := h.l
  obtain ⟨us, c, d, e⟩ := h.w
  exact ⟨⟨zs, a.low k, b⟩, ⟨us, c.low k, d, e⟩⟩
theorem cut_same {n : Nat} {us : List Nat} (hl : us.length = nw n) (wd : Wd us) : cutW n us = us ↔ ∀ i, n ≤ i → mem us i = false := by
  constructor
  · intro e i hi
    have := mem_cutW n us hl i
    rw [e] at this
    have c : ¬ i < n := by omega
    simp [c] at this
    exact this
  · intro h
    refine words_ext (length_cutW _ _) (wd.cutW n) wd fun i => ?_
    rw [mem_cutW n us hl i]
    by_cases c : i < n
    · simp [c]
    · rw [h i (by omega)]; rfl
theorem making_all (k oa ob oc oi : Int) (vL vW : Value) (w0 W : World) (B : Nat) (st : Nat → RSt) (h : Rg w0 W B st) (ok : Ok st) (hi : In W vL vW) (hk : 1 ≤ k ∧ k ≤ 3) :
    Calls Tryd.prog 48 #[.pointer (some ⟨B, 0, none⟩), .agg #[.int .i64 k, .int .i64 oa, .int .i64 ob, .int .i64 oc, .int .i64 oi, vL, vW]] W fun e w' => e = .returned (.bool true) ∧ ∃ st', Rg w0 w' B st' ∧ Ok st' := by
  obtain ⟨zs, hz, hzl⟩ := hi.l
  obtain ⟨us, hu, wd, hul⟩ := hi.w
  by_cases hv : 0 ≤ oi ∧ oi ≤ 65536
  · obtain ⟨n, rfl⟩ : ∃ n : Nat, oi = n := ⟨oi.toNat, by omega⟩
    have hn : n ≤ 65536 := by omega
    rcases (show k = 1 ∨ k = 2 ∨ k = 3 by omega) with rfl | rfl | rfl
    · exact mk_new oa ob oc n vL vW w0 W B st h ok hn
    · by_cases hb : ∀ z ∈ zs, 0 ≤ z ∧ z < (n : Int)
      · exact mk_from oa ob oc n vL vW w0 W B st h ok hn zs hz hzl hb
      · refine mk_from_bad oa ob oc n vL vW w0 W B st h ok hn zs hz hzl ?_
        apply Classical.byContradiction
        intro c
        exact hb fun z hz' => Classical.byContradiction fun d => c ⟨z, hz', d⟩
    · by_cases hl : us.length = nw n
      · by_cases hc : cutW n us = us
        · exact mk_words oa ob oc n vL vW w0 W B st h ok hn us hu wd hul hl hc ((cut_same hl wd).1 hc)
        · refine mk_words_bad oa ob oc n vL vW w0 W B st h ok hn us hu wd hul hl hc ?_
          apply Classical.byContradiction
          intro c
          refine hc ((cut_same hl wd).2 fun i hi => ?_)
          cases e : mem us i
          · rfl
          · exact absurd ⟨i, hi, e⟩ c
      · exact mk_words_len oa ob oc n vL vW w0 W B st h ok hn us hu wd hul hl
  · rcases (show k = 1 ∨ k = 2 ∨ k = 3 by omega) with rfl | rfl | rfl
    · exact mk_new_no oa ob oc oi vL vW w0 W B st h ok hv
    · exact mk_from_no oa ob oc oi vL vW w0 W B st h ok hv zs hz hzl
    · exact mk_words_no oa ob oc oi vL vW w0 W B st h ok hv us hu wd hul
theorem joining_all (k oa ob oc oi : Int) (vL vW : Value) (w0 W : World) (B : Nat) (st : Nat → RSt) (h : Rg w0 W B st) (ok : Ok st) (hk : 4 ≤ k ∧ k ≤ 9) :
    Calls Tryd.prog 49 #[.pointer (some ⟨B, 0, none⟩), .agg #[.int .i64 k, .int .i64 oa, .int .i64 ob, .int .i64 oc, .int .i64 oi, vL, vW]] W fun e w' => e = .returned (.bool true) ∧ ∃ st', Rg w0 w' B st' ∧ Ok st' := by
  rcases (show k = 4 ∨ k = 5 ∨ k = 6 ∨ k = 7 ∨ k = 8 ∨ k = 9 by omega) with rfl | rfl | rfl | rfl | rfl | rfl
  · exact join_and oa ob oc oi vL vW w0 W B st h ok
  · exact join_or oa ob oc oi vL vW w0 W B st h ok
  · exact join_andnot oa ob oc oi vL vW w0 W B st h ok
  · exact join_xor oa ob oc oi vL vW w0 W B st h ok
  · exact join_not oa ob oc oi vL vW w0 W B st h ok
  · exact join_clone 9 oa ob oc oi (by decide) (by decide) (by decide) (by decide) (by decide) vL vW w0 W B st h ok
end Go.Proofs.YtkagdmhijjfnnaaDoor
