import Derived.Test.YtkagdmhijjfnnaaDoorMgBB
namespace Go.Proofs.YtkagdmhijjfnnaaDoor
open Go.RowKit Bs
set_option linter.unusedVariables false
set_option maxRecDepth 100000 in
set_option maxHeartbeats 8000000 in
theorem mk_from_bad (oa ob oc : Int) (n : Nat) (vL vW : Value) (w0 W : World) (B : Nat) (st : Nat → RSt) (h : Rg w0 W B st) (ok : Ok st) (hn : n ≤ 65536) (zs : List Int) (hH : HoldsG W vL zs) (hlen : zs.length ≤ 17592186043904) (hz : ∃ z ∈ zs, ¬ (0 ≤ z ∧ z < n)) :
    Calls Tryd.prog 48 #[.pointer (some ⟨B, 0, none⟩), .agg #[.int .i64 2, .int .i64 oa, .int .i64 ob, .int .i64 oc, .int .i64 (n : Int), vL, vW]] W fun e w' => e = .returned (.bool true) ∧ ∃ st', Rg w0 w' B st' ∧ Ok st' := by
  obtain ⟨ka, ha, ea⟩ := reg_of oa
  have O1 := hid (Ob.new W 2 oa ob oc (n : Int) vL vW)
  have BL1 := hid (lowAlloc W (.cells #[.int .i64 2, .int .i64 oa, .int .i64 ob, .int .i64 oc, .int .i64 (n : Int), vL, vW] 37))
  have R1 := hid (h.low BL1.out)
  have OK := hid ok
  obtain ⟨aL, cL, hvL, rdL⟩ := hH.rd
  subst hvL
  have HO := hid (fun V (hV : Below (W.alloc (.cells #[.int .i64 2, .int .i64 oa, .int .i64 ob, .int .i64 oc, .int .i64 (n : Int), .slice aL zs.length cL, vW] 37)).heap.size (W.alloc (.cells #[.int .i64 2, .int .i64 oa, .int .i64 ob, .int .i64 oc, .int .i64 (n : Int), .slice aL zs.length cL, vW] 37)) V) => hH.low (belowT BL1.out hV))
  have RL := hid (fun V (hV : Below (W.alloc (.cells #[.int .i64 2, .int .i64 oa, .int .i64 ob, .int .i64 oc, .int .i64 (n : Int), .slice aL zs.length cL, vW] 37)).heap.size (W.alloc (.cells #[.int .i64 2, .int .i64 oa, .int .i64 ob, .int .i64 oc, .int .i64 (n : Int), .slice aL zs.length cL, vW] 37)) V) => rdL.low (belowT BL1.out hV) (Nat.le_refl _))
  clear hH rdL
  clear h ok
  have o0 := O1.out.o0
  have o1 := O1.out.o1
  have o4 := O1.out.o4
  have o5 := O1.out.o5
  have o6 := O1.out.o6
  go_enter Tryd.func48, Tryd.ntmps48
  go_wp2_with fail
  generalize W.alloc _ = X at *
  clear ea
  go_region_held3 (fun Y => Y.cell? ⟨W.heap.size, 4, none⟩ = some (.int .i64 (n : Int)) ∧ Y.cell? ⟨W.heap.size, 5, none⟩ = some (.slice aL zs.length cL))
    (first | exact ⟨o4, o5⟩ | exact T1 | exact T2 | go_keep)
    (first
      | (go_at_call 67; refine (ints_ownG _ zs _ (HO.out _ (belowDr X)) hlen).mono ?_; rintro e w1 ⟨v1, rfl, ow1, hb1⟩
         have L1 := hid (belowT (belowDr X) hb1)
         have T1 := And.intro ((L1.out.cell (p := ⟨W.heap.size, 4, none⟩) O1.out.lt).trans o4) ((L1.out.cell (p := ⟨W.heap.size, 5, none⟩) O1.out.lt).trans o5)
         have OW1 := hid ow1
         clear ow1
         clear hb1)
      | (go_at_call 47; refine (from_pad n v1 zs _ hn (by omega) OW1.out hz).mono ?_; rintro e w2 ⟨rfl, hb2⟩
         have L2 := hid (belowT L1.out hb2)
         have T2 := And.intro ((L2.out.cell (p := ⟨W.heap.size, 4, none⟩) O1.out.lt).trans o4) ((L2.out.cell (p := ⟨W.heap.size, 5, none⟩) O1.out.lt).trans o5)
         clear hb2))
  clear T1 T2
  have O2 := hid (O1.out.on L2.out)
  have R2 := hid (R1.out.low L2.out)
  clear o0 o1 o4 o5 o6
  have o4 := O2.out.o4
  have o5 := O2.out.o5
  have o6 := O2.out.o6
  go_wp2_with fail
  refine (dfrom_bad n aL cL zs _ hn (RL.out _ L2.out) (by omega) hz).mono ?_
  rintro e w3 ⟨rfl, hb3⟩
  have R4 := hid ((R2.out.low hb3).low (lowAlloc w3 (.cells #[.int .i64 0, .slice none 0 0] 30)))
  have rb4 := heap_alloc_new w3 (.cells #[.int .i64 0, .slice none 0 0] 30)
  have g0 : (w3.alloc (.cells #[.int .i64 0, .slice none 0 0] 30)).cell? ⟨w3.heap.size, 0, none⟩ = some (.int .i64 0) := by rw [cell_of_row _ _ 0 _ _ _ rb4]; rfl
  have g1 : (w3.alloc (.cells #[.int .i64 0, .slice none 0 0] 30)).cell? ⟨w3.heap.size, 1, none⟩ = some (.slice none 0 0) := by rw [cell_of_row _ _ 1 _ _ _ rb4]; rfl
  clear rb4 o4 o5 o6
  go_wp2_with fail
  refine (made_no ka 12 0 none 0 0 w0 _ B st R4.out (by decide)).mono ?_
  rintro e w5 ⟨rfl, R5⟩
  have FIN := hid R5
  clear R5 g0 g1
  go_wp2_with fail
  go_ret
  exact ⟨rfl, _, FIN.out, OK.out⟩
end Go.Proofs.YtkagdmhijjfnnaaDoor
namespace Go.Proofs.YtkagdmhijjfnnaaDoor
open Go.RowKit Bs
set_option linter.unusedVariables false
set_option maxRecDepth 100000 in
set_option maxHeartbeats 8000000 in
theorem mk_from_no (oa ob oc : Int) (oi : Int) (vL vW : Value) (w0 W : World) (B : Nat) (st : Nat → RSt) (h : Rg w0 W B st) (ok : Ok st) (hn : ¬ (0 ≤ oi ∧ oi ≤ 65536)) (zs : List Int) (hH : HoldsG W vL zs) (hlen : zs.length ≤ 17592186043904) :
    Calls Tryd.prog 48 #[.pointer (some ⟨B, 0, none⟩), .agg #[.int .i64 2, .int .i64 oa, .int .i64 ob, .int .i64 oc, .int .i64 oi, vL, vW]] W fun e w' => e = .returned (.bool true) ∧ ∃ st', Rg w0 w' B st' ∧ Ok st' := by
  obtain ⟨ka, ha, ea⟩ := reg_of oa
  have O1 := hid (Ob.new W 2 oa ob oc oi vL vW)
  have BL1 := hid (lowAlloc W (.cells #[.int .i64 2, .int .i64 oa, .int .i64 ob, .int .i64 oc, .int .i64 oi, vL, vW] 37))
  have R1 := hid (h.low BL1.out)
  have OK := hid ok
  obtain ⟨aL, cL, hvL, rdL⟩ := hH.rd
  subst hvL
  have HO := hid (fun V (hV : Below (W.alloc (.cells #[.int .i64 2, .int .i64 oa, .int .i64 ob, .int .i64 oc, .int .i64 oi, .slice aL zs.length cL, vW] 37)).heap.size (W.alloc (.cells #[.int .i64 2, .int .i64 oa, .int .i64 ob, .int .i64 oc, .int .i64 oi, .slice aL zs.length cL, vW] 37)) V) => hH.low (belowT BL1.out hV))
  have RL := hid (fun V (hV : Below (W.alloc (.cells #[.int .i64 2, .int .i64 oa, .int .i64 ob, .int .i64 oc, .int .i64 oi, .slice aL zs.length cL, vW] 37)).heap.size (W.alloc (.cells #[.int .i64 2, .int .i64 oa, .int .i64 ob, .int .i64 oc, .int .i64 oi, .slice aL zs.length cL, vW] 37)) V) => rdL.low (belowT BL1.out hV) (Nat.le_refl _))
  clear hH rdL
  clear h ok
  have o0 := O1.out.o0
  have o1 := O1.out.o1
  have o4 := O1.out.o4
  have o5 := O1.out.o5
  have o6 := O1.out.o6
  go_enter Tryd.func48, Tryd.ntmps48
  go_wp2_with fail
  generalize W.alloc _ = X at *
  clear ea
  go_region_held3 (fun Y => Y.cell? ⟨W.heap.size, 4, none⟩ = some (.int .i64 oi) ∧ Y.cell? ⟨W.heap.size, 5, none⟩ = some (.slice aL zs.length cL))
    (first | exact ⟨o4, o5⟩ | exact T1 | exact T2 | go_keep)
    (first
      | (go_at_call 67; refine (ints_ownG _ zs _ (HO.out _ (belowDr X)) hlen).mono ?_; rintro e w1 ⟨v1, rfl, ow1, hb1⟩
         have L1 := hid (belowT (belowDr X) hb1)
         have T1 := And.intro ((L1.out.cell (p := ⟨W.heap.size, 4, none⟩) O1.out.lt).trans o4) ((L1.out.cell (p := ⟨W.heap.size, 5, none⟩) O1.out.lt).trans o5)
         have OW1 := hid ow1
         clear ow1
         clear hb1)
      | (go_at_call 47; refine (from_no oi v1 _ hn).mono ?_; rintro e w2 ⟨rfl, hww⟩; have hb2 : Below w1.heap.size w1 w2 := (by rw [hww]; exact Below.refl _ _)
         have L2 := hid (belowT L1.out hb2)
         have T2 := And.intro ((L2.out.cell (p := ⟨W.heap.size, 4, none⟩) O1.out.lt).trans o4) ((L2.out.cell (p := ⟨W.heap.size, 5, none⟩) O1.out.lt).trans o5)
         clear hww
         clear hb2))
  clear T1 T2
  have O2 := hid (O1.out.on L2.out)
  have R2 := hid (R1.out.low L2.out)
  clear o0 o1 o4 o5 o6
  have o4 := O2.out.o4
  have o5 := O2.out.o5
  have o6 := O2.out.o6
  go_wp2_with fail
  refine (dfrom_no oi aL zs.length cL _ hn).mono ?_
  rintro e w3 ⟨rfl, hb3⟩
  have R4 := hid ((R2.out.low hb3).low (lowAlloc w3 (.cells #[.int .i64 0, .slice none 0 0] 30)))
  have rb4 := heap_alloc_new w3 (.cells #[.int .i64 0, .slice none 0 0] 30)
  have g0 : (w3.alloc (.cells #[.int .i64 0, .slice none 0 0] 30)).cell? ⟨w3.heap.size, 0, none⟩ = some (.int .i64 0) := by rw [cell_of_row _ _ 0 _ _ _ rb4]; rfl
  have g1 : (w3.alloc (.cells #[.int .i64 0, .slice none 0 0] 30)).cell? ⟨w3.heap.size, 1, none⟩ = some (.slice none 0 0) := by rw [cell_of_row _ _ 1 _ _ _ rb4]; rfl
  clear rb4 o4 o5 o6
  go_wp2_with fail
  refine (made_no ka 11 0 none 0 0 w0 _ B st R4.out (by decide)).mono ?_
  rintro e w5 ⟨rfl, R5⟩
  have FIN := hid R5
  clear R5 g0 g1
  go_wp2_with fail
  go_ret
  exact ⟨rfl, _, FIN.out, OK.out⟩
end Go.Proofs.YtkagdmhijjfnnaaDoor
namespace Go.Proofs.YtkagdmhijjfnnaaDoor
open Go.RowKit Bs
set_option linter.unusedVariables false
set_option maxRecDepth 100000 in
set_option maxHeartbeats 8000000 in
theorem mk_words (oa ob oc : Int) (n : Nat) (vL vW : Value) (w0 W : World) (B : Nat) (st : Nat → RSt) (h : Rg w0 W B st) (ok : Ok st) (hn : n ≤ 65536) (us : List Nat) (hH : HoldsWG W vW us) (wd : Wd us) (hlen : us.length ≤ 17592186043904) (hl : us.length = nw n) (hc : cutW n us = us) (hok : ∀ i, n ≤ i → mem us i = false) :
    Calls Tryd.prog 48 #[.pointer (some ⟨B, 0, none⟩), .agg #[.int .i64 3, .int .i64 oa, .int .i64 ob, .int .i64 oc, .int .i64 (n : Int), vL, vW]] W fun e w' => e = .returned (.bool true) ∧ ∃ st', Rg w0 w' B st' ∧ Ok st' := by
  obtain ⟨ka, ha, ea⟩ := reg_of oa
  have O1 := hid (Ob.new W 3 oa ob oc (n : Int) vL vW)
  have BL1 := hid (lowAlloc W (.cells #[.int .i64 3, .int .i64 oa, .int .i64 ob, .int .i64 oc, .int .i64 (n : Int), vL, vW] 37))
  have R1 := hid (h.low BL1.out)
  have OK := hid ok
  obtain ⟨aL, cL, hvL, rdL⟩ := hH.rd
  subst hvL
  have HO := hid (fun V (hV : Below (W.alloc (.cells #[.int .i64 3, .int .i64 oa, .int .i64 ob, .int .i64 oc, .int .i64 (n : Int), vL, .slice aL us.length cL] 37)).heap.size (W.alloc (.cells #[.int .i64 3, .int .i64 oa, .int .i64 ob, .int .i64 oc, .int .i64 (n : Int), vL, .slice aL us.length cL] 37)) V) => hH.low (belowT BL1.out hV))
  have RL := hid (fun V (hV : Below (W.alloc (.cells #[.int .i64 3, .int .i64 oa, .int .i64 ob, .int .i64 oc, .int .i64 (n : Int), vL, .slice aL us.length cL] 37)).heap.size (W.alloc (.cells #[.int .i64 3, .int .i64 oa, .int .i64 ob, .int .i64 oc, .int .i64 (n : Int), vL, .slice aL us.length cL] 37)) V) => rdL.low (belowT BL1.out hV) (Nat.le_refl _))
  clear hH rdL
  have HLN := hid hl
  have HCC := hid hc
  clear hl hc
  clear h ok
  have o0 := O1.out.o0
  have o1 := O1.out.o1
  have o4 := O1.out.o4
  have o5 := O1.out.o5
  have o6 := O1.out.o6
  go_enter Tryd.func48, Tryd.ntmps48
  go_wp2_with fail
  generalize W.alloc _ = X at *
  clear ea
  go_region_held3 (fun Y => Y.cell? ⟨W.heap.size, 4, none⟩ = some (.int .i64 (n : Int)) ∧ Y.cell? ⟨W.heap.size, 6, none⟩ = some (.slice aL us.length cL))
    (first | exact ⟨o4, o6⟩ | exact T1 | exact T2 | go_keep)
    (first
      | (go_at_call 36; refine (words_ownG _ us _ (HO.out _ (belowDr X)) hlen).mono ?_; rintro e w1 ⟨g1, c1, rfl, ws1, hg1, hb1⟩
         have L1 := hid (belowT (belowDr X) hb1)
         have T1 := And.intro ((L1.out.cell (p := ⟨W.heap.size, 4, none⟩) O1.out.lt).trans o4) ((L1.out.cell (p := ⟨W.heap.size, 6, none⟩) O1.out.lt).trans o6)
         have WS1 := hid ws1
         clear ws1
         clear hb1)
      | (go_at_call 34; refine (fromw_ok n c1 g1 us _ _ hn WS1.out HLN.out wd HCC.out).mono ?_; rintro e w2 ⟨rfl, xs, hb2⟩
         have L2 := hid (belowT L1.out hb2)
         have T2 := And.intro ((L2.out.cell (p := ⟨W.heap.size, 4, none⟩) O1.out.lt).trans o4) ((L2.out.cell (p := ⟨W.heap.size, 6, none⟩) O1.out.lt).trans o6)
         have SF := hid (show SetAt w2 (w1.heap.size + 1) w1.heap.size n (mem us) from ⟨us, xs, fun _ => rfl⟩)
         have HP := hid (show X.heap.size ≤ w1.heap.size + 1 from Nat.le_succ_of_le L1.out.size)
         have HQ := hid (show X.heap.size ≤ w1.heap.size from L1.out.size)
         clear xs
         clear hb2))
  clear T1 T2
  have O2 := hid (O1.out.on L2.out)
  have R2 := hid (R1.out.low L2.out)
  clear o0 o1 o4 o5 o6
  have o4 := O2.out.o4
  have o5 := O2.out.o5
  have o6 := O2.out.o6
  go_wp2_with fail
  refine (dfw n aL cL us _ hn (RL.out _ L2.out) HLN.out wd).mono ?_
  rintro e w3 ⟨hor, hb3⟩
  obtain ⟨v3, he3, ow3, _⟩ := (show ∃ v, e = .returned (.tuple #[.agg #[.int .i64 (n : Int), v], .int .i64 0]) ∧ OwnI w3 w2.heap.size v (msR n (mem us)) ∧ True from by
    rcases hor with ⟨v, a, b, _⟩ | ⟨_, i, hi, hm⟩
    · exact ⟨v, a, b, trivial⟩
    · rw [hok i hi] at hm; cases hm)
  subst he3
  obtain ⟨av, lv, cv, hv⟩ := own_form9 ow3
  subst hv
  have OW3 := hid (own_mono ow3 (Nat.zero_le _))
  clear ow3 hor
  have R4 := hid ((R2.out.low hb3).low (lowAlloc w3 (.cells #[.int .i64 (n : Int), .slice av lv cv] 30)))
  have rb4 := heap_alloc_new w3 (.cells #[.int .i64 (n : Int), .slice av lv cv] 30)
  have g0 : (w3.alloc (.cells #[.int .i64 (n : Int), .slice av lv cv] 30)).cell? ⟨w3.heap.size, 0, none⟩ = some (.int .i64 (n : Int)) := by rw [cell_of_row _ _ 0 _ _ _ rb4]; rfl
  have g1 : (w3.alloc (.cells #[.int .i64 (n : Int), .slice av lv cv] 30)).cell? ⟨w3.heap.size, 1, none⟩ = some (.slice av lv cv) := by rw [cell_of_row _ _ 1 _ _ _ rb4]; rfl
  clear rb4 o4 o5 o6
  go_wp2_with fail
  have S4 := hid ((SF.out.low hb3).low (lowAlloc w3 (.cells #[.int .i64 (n : Int), .slice av lv cv] 30)))
  have W4 := hid (own_low OW3.out (lowAlloc w3 (.cells #[.int .i64 (n : Int), .slice av lv cv] 30)))
  refine (made_ok ka ha (w1.heap.size + 1) w1.heap.size n (mem us) (.slice av lv cv) (msR n (mem us)) w0 _ B st R4.out S4.out W4.out ⟨Nat.le_trans R1.out.lo.size HP.out, Nat.le_trans R1.out.lo.size HQ.out, fun i hi p' e' => by
    have := R1.out.lts hi e'
    have h1 := HP.out
    have h2 := HQ.out
    exact ⟨by omega, by omega⟩⟩).mono ?_
  rintro e w5 ⟨rfl, R5⟩
  have FIN := hid R5
  have KX := hid (show Ok1 ⟨.pointer (some ⟨(w1.heap.size + 1), 0, none⟩), w1.heap.size, n, (mem us), n, .slice av lv cv, (msR n (mem us)), false⟩ from ⟨rfl, msR_is _ _, hn, (fun t ht => SF.out.cl t ht), Or.inr ⟨rfl, (w1.heap.size + 1), rfl⟩⟩)
  clear R5 g0 g1
  go_wp2_with fail
  go_ret
  exact ⟨rfl, _, FIN.out, OK.out.upd KX.out⟩
end Go.Proofs.YtkagdmhijjfnnaaDoor
namespace Go.Proofs.YtkagdmhijjfnnaaDoor
open Go.RowKit Bs
set_option linter.unusedVariables false
set_option maxRecDepth 100000 in
set_option maxHeartbeats 8000000 in
theorem mk_words_bad (oa ob oc : Int) (n : Nat) (vL vW : Value) (w0 W : World) (B : Nat) (st : Nat → RSt) (h : Rg w0 W B st) (ok : Ok st) (hn : n ≤ 65536) (us : List Nat) (hH : HoldsWG W vW us) (wd : Wd us) (hlen : us.length ≤ 17592186043904) (hl : us.length = nw n) (hc : cutW n us ≠ us) (hbad : ∃ i, n ≤ i ∧ mem us i = true) :
    Calls Tryd.prog 48 #[.pointer (some ⟨B, 0, none⟩), .agg #[.int .i64 3, .int .i64 oa, .int .i64 ob, .int .i64 oc, .int .i64 (n : Int), vL, vW]] W fun e w' => e = .returned (.bool true) ∧ ∃ st', Rg w0 w' B st' ∧ Ok st' := by
  obtain ⟨ka, ha, ea⟩ := reg_of oa
  have O1 := hid (Ob.new W 3 oa ob oc (n : Int) vL vW)
  have BL1 := hid (lowAlloc W (.cells #[.int .i64 3, .int .i64 oa, .int .i64 ob, .int .i64 oc, .int .i64 (n : Int), vL, vW] 37))
  have R1 := hid (h.low BL1.out)
  have OK := hid ok
  obtain ⟨aL, cL, hvL, rdL⟩ := hH.rd
  subst hvL
  have HO := hid (fun V (hV : Below (W.alloc (.cells #[.int .i64 3, .int .i64 oa, .int .i64 ob, .int .i64 oc, .int .i64 (n : Int), vL, .slice aL us.length cL] 37)).heap.size (W.alloc (.cells #[.int .i64 3, .int .i64 oa, .int .i64 ob, .int .i64 oc, .int .i64 (n : Int), vL, .slice aL us.length cL] 37)) V) => hH.low (belowT BL1.out hV))
  have RL := hid (fun V (hV : Below (W.alloc (.cells #[.int .i64 3, .int .i64 oa, .int .i64 ob, .int .i64 oc, .int .i64 (n : Int), vL, .slice aL us.length cL] 37)).heap.size (W.alloc (.cells #[.int .i64 3, .int .i64 oa, .int .i64 ob, .int .i64 oc, .int .i64 (n : Int), vL, .slice aL us.length cL] 37)) V) => rdL.low (belowT BL1.out hV) (Nat.le_refl _))
  clear hH rdL
  have HLN := hid hl
  have HCC := hid hc
  clear hl hc
  clear h ok
  have o0 := O1.out.o0
  have o1 := O1.out.o1
  have o4 := O1.out.o4
  have o5 := O1.out.o5
  have o6 := O1.out.o6
  go_enter Tryd.func48, Tryd.ntmps48
  go_wp2_with fail
  generalize W.alloc _ = X at *
  clear ea
  go_region_held3 (fun Y => Y.cell? ⟨W.heap.size, 4, none⟩ = some (.int .i64 (n : Int)) ∧ Y.cell? ⟨W.heap.size, 6, none⟩ = some (.slice aL us.length cL))
    (first | exact ⟨o4, o6⟩ | exact T1 | exact T2 | go_keep)
    (first
      | (go_at_call 36; refine (words_ownG _ us _ (HO.out _ (belowDr X)) hlen).mono ?_; rintro e w1 ⟨g1, c1, rfl, ws1, hg1, hb1⟩
         have L1 := hid (belowT (belowDr X) hb1)
         have T1 := And.intro ((L1.out.cell (p := ⟨W.heap.size, 4, none⟩) O1.out.lt).trans o4) ((L1.out.cell (p := ⟨W.heap.size, 6, none⟩) O1.out.lt).trans o6)
         have WS1 := hid ws1
         clear ws1
         clear hb1)
      | (go_at_call 34; refine (fromw_place n c1 g1 us _ _ hn WS1.out HLN.out wd HCC.out).mono ?_; rintro e w2 ⟨rfl, hb2⟩
         have L2 := hid (belowT L1.out hb2)
         have T2 := And.intro ((L2.out.cell (p := ⟨W.heap.size, 4, none⟩) O1.out.lt).trans o4) ((L2.out.cell (p := ⟨W.heap.size, 6, none⟩) O1.out.lt).trans o6)
         clear hb2))
  clear T1 T2
  have O2 := hid (O1.out.on L2.out)
  have R2 := hid (R1.out.low L2.out)
  clear o0 o1 o4 o5 o6
  have o4 := O2.out.o4
  have o5 := O2.out.o5
  have o6 := O2.out.o6
  go_wp2_with fail
  refine (dfw n aL cL us _ hn (RL.out _ L2.out) HLN.out wd).mono ?_
  rintro e w3 ⟨hor, hb3⟩
  have he3 : e = .returned (.tuple #[.agg #[.int .i64 0, .slice none 0 0], .int .i64 12]) := by
    rcases hor with ⟨v, _, _, hall⟩ | ⟨a, _⟩
    · obtain ⟨i, hi, hm⟩ := hbad
      rw [hall i hi] at hm; cases hm
    · exact a
  subst he3
  clear hor
  have R4 := hid ((R2.out.low hb3).low (lowAlloc w3 (.cells #[.int .i64 0, .slice none 0 0] 30)))
  have rb4 := heap_alloc_new w3 (.cells #[.int .i64 0, .slice none 0 0] 30)
  have g0 : (w3.alloc (.cells #[.int .i64 0, .slice none 0 0] 30)).cell? ⟨w3.heap.size, 0, none⟩ = some (.int .i64 0) := by rw [cell_of_row _ _ 0 _ _ _ rb4]; rfl
  have g1 : (w3.alloc (.cells #[.int .i64 0, .slice none 0 0] 30)).cell? ⟨w3.heap.size, 1, none⟩ = some (.slice none 0 0) := by rw [cell_of_row _ _ 1 _ _ _ rb4]; rfl
  clear rb4 o4 o5 o6
  go_wp2_with fail
  refine (made_no ka 12 0 none 0 0 w0 _ B st R4.out (by decide)).mono ?_
  rintro e w5 ⟨rfl, R5⟩
  have FIN := hid R5
  clear R5 g0 g1
  go_wp2_with fail
  go_ret
  exact ⟨rfl, _, FIN.out, OK.out⟩
end Go.Proofs.YtkagdmhijjfnnaaDoor
