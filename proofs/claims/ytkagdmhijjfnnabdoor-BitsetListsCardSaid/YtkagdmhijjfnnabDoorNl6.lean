import Derived.Test.YtkagdmhijjfnnabDoorNl5
namespace Go.Proofs.YtkagdmhijjfnnabDoor
open Go.RowKit Bs
set_option linter.unusedVariables false
set_option maxRecDepth 100000 in
set_option maxHeartbeats 1000000 in
theorem subset_nilr (p q n : Nat) (ws : List Nat) (w : World) (h : IsSet w p q n ws) :
    Calls Tryd.prog 34 #[.pointer (some ⟨p, 0, none⟩), .pointer none] w fun e w' => e = .returned (.bool (subW ws [])) ∧ w' = w := by
  have hc1 := h.c1
  have HI := hid h
  have hle := h.len
  clear h
  obtain ⟨r, hr⟩ : ∃ r, r = subW ws [] := ⟨_, rfl⟩
  have HR := hid hr
  rw [← hr]
  clear hr
  obtain ⟨L, hL⟩ : ∃ L, L = ws.length := ⟨_, rfl⟩
  have HL := hid hL
  rw [← hL] at hc1 hle
  clear hL
  go_enter Tryd.func34, Tryd.ntmps34
  go_wp2_with (first | (go_at_call_of 51 p; refine (list_cell p _ _ _ _ hc1).mono ?_; rintro e w' ⟨rfl, rfl⟩) | (go_at_call 51; refine (list_nil _).mono ?_; rintro e w' ⟨rfl, rfl⟩))
  go_loop [13] (fun i => ∃ k : Nat, k ≤ L ∧ i = .int .i64 k ∧ ∀ j, j < k → anot (ws.getD j 0) (([] : List Nat).getD j 0) = 0) (fun i => L - (intOf i).toNat)
  case atStart => exact ⟨0, Nat.zero_le _, rfl, fun j hj => by omega⟩
  case round =>
    obtain ⟨k, hk, rfl, hall⟩ := hrel
    have HA := hid hall
    clear hall
    by_cases hlt : k < L
    · have hi1 : k < ws.length := by rw [← HL.out]; exact hlt
      have hx := HI.out.cw k hi1
      obtain ⟨x, hxe⟩ : ∃ x, x = ws.getD k 0 := ⟨_, rfl⟩
      rw [← hxe] at hx
      have HX := hid hxe
      have HXB := hid (HI.out.wd.getD k)
      have hk0 : ¬ ((k : Int) < 0) := by omega
      have HY := hid (show ([] : List Nat).getD k 0 = 0 by simp)
      cases hb : (x != 0)
      · have hnum := nat_num x false hb
        have HZ := hid hb
        clear hxe hb hi1
        go_wp2
        go_round
        case rel =>
          refine ⟨k + 1, by omega, by go_num, fun j hj => ?_⟩
          rcases Nat.lt_succ_iff_lt_or_eq.1 hj with c | c
          · exact HA.out j c
          · subst c
            rw [HY.out, anot_zero _ HXB.out, ← HX.out]; simpa using HZ.out
        case measure => simp [intOf]; omega
      · have hnum := nat_num x true hb
        have HZ := hid hb
        have hi := hid hi1
        clear hxe hb hi1
        go_wp2
        go_ret
        refine ⟨ret_bool ?_, rfl⟩
        rw [HR.out, subW_no ws [] k hi.out (by rw [HY.out, anot_zero _ HXB.out, ← HX.out]; simpa using HZ.out)]
    · have e : k = L := by omega
      go_wp2
      go_ret
      refine ⟨ret_bool ?_, rfl⟩
      rw [HR.out, subW_yes ws [] (by rw [← HL.out, ← e]; exact HA.out)]
theorem list_o {v : Value} {q n : Nat} {S : Nat → Bool} (w : World) (h : SO w v q n S) : ∃ a l, Calls Tryd.prog 51 #[v] w fun e w' => e = .returned (.slice a l l) ∧ w' = w := by
  rcases h with ⟨rfl, _, _⟩ | ⟨p, rfl, ws, x, _⟩
  · exact ⟨_, _, list_nil w⟩
  · exact ⟨_, _, list_cell p w _ _ _ x.c1⟩
set_option maxHeartbeats 1000000 in
theorem subset_nill {v : Value} {q n : Nat} {S : Nat → Bool} (w : World) (h : SO w v q n S) :
    Calls Tryd.prog 34 #[.pointer none, v] w fun e w' => e = .returned (.bool true) ∧ w' = w := by
  obtain ⟨a, l, hl⟩ := list_o w h
  have HL := hid hl
  clear hl h
  go_enter Tryd.func34, Tryd.ntmps34
  go_wp2_with fail
  refine HL.out.mono ?_
  rintro e w1 ⟨rfl, hww⟩
  subst hww
  go_wp2_with fail
  refine (list_nil _).mono ?_
  rintro e w2 ⟨rfl, hww⟩
  subst hww
  go_wp2_with fail
  go_loopw [13] (fun i wr => i = .int .i64 0 ∧ wr = w2) (fun _ _ => 0)
  case atStart => exact ⟨rfl, rfl⟩
  case round =>
    obtain ⟨rfl, rfl⟩ := hrel
    go_wp2
    go_ret
    exact ⟨rfl, rfl⟩
theorem subset_o {v v' : Value} {q n q' n' : Nat} {S T : Nat → Bool} (b : Bool) (w : World) (h : SO w v q n S) (h' : SO w v' q' n' T) (hb : b = true ↔ ∀ i, S i = true → T i = true) :
    Calls Tryd.prog 34 #[v, v'] w fun e w' => e = .returned (.bool b) ∧ w' = w := by
  rcases h with ⟨rfl, rfl, hS⟩ | ⟨p, rfl, h⟩
  · obtain rfl : b = true := hb.2 (fun i hi => by rw [hS] at hi; cases hi)
    exact subset_nill w h'
  · rcases h' with ⟨rfl, rfl, hT⟩ | ⟨p', rfl, h'⟩
    · obtain ⟨ws, x, hx⟩ := h
      refine (subset_nilr p q n ws w x).mono ?_
      rintro e w' ⟨rfl, rfl⟩
      refine ⟨ret_bool ?_, rfl⟩
      rw [Bool.eq_iff_iff, subW_iff ws [] x.wd (fun a ha => by cases ha), hb]
      constructor
      · intro k i hi
        have := k i (by rw [hx]; exact hi)
        simp [mem] at this
      · intro k i hi
        have := k i (by rw [← hx]; exact hi)
        rw [hT] at this; cases this
    · exact subset_is b w h h' hb
set_option maxHeartbeats 1000000 in
theorem equal_o {v v' : Value} {q n q' n' : Nat} {S T : Nat → Bool} (b : Bool) (w : World) (h : SO w v q n S) (h' : SO w v' q' n' T) (hb : b = true ↔ ∀ i, S i = T i) :
    Calls Tryd.prog 33 #[v, v'] w fun e w' => e = .returned (.bool b) ∧ w' = w := by
  obtain ⟨b1, e1⟩ : ∃ b1 : Bool, b1 = true ↔ ∀ i, S i = true → T i = true := by
    by_cases c : ∀ i, S i = true → T i = true
    · exact ⟨true, by simpa using c⟩
    · exact ⟨false, by simpa using c⟩
  obtain ⟨b2, e2⟩ : ∃ b2 : Bool, b2 = true ↔ ∀ i, T i = true → S i = true := by
    by_cases c : ∀ i, T i = true → S i = true
    · exact ⟨true, by simpa using c⟩
    · exact ⟨false, by simpa using c⟩
  have c1 := subset_o b1 w h h' e1
  have c2 := subset_o b2 w h' h e2
  have hbb : b = (b1 && b2) := by
    rw [Bool.eq_iff_iff, Bool.and_eq_true, e1, e2, hb]
    constructor
    · intro k
      exact ⟨fun i hi => by rw [← k]; exact hi, fun i hi => by rw [k]; exact hi⟩
    · rintro ⟨k1, k2⟩ i
      rw [Bool.eq_iff_iff]
      exact ⟨k1 i, k2 i⟩
  clear h h' hb e1 e2
  cases b1
  · have C1 := hid c1
    have HBB := hid hbb
    clear c1 c2 hbb
    go_enter Tryd.func33, Tryd.ntmps33
    go_wp2_with fail
    refine C1.out.mono ?_
    rintro e w1 ⟨rfl, rfl⟩
    go_wp2_with fail
    go_ret
    exact ⟨by rw [HBB.out]; simp, rfl⟩
  · have C1 := hid c1
    have C2 := hid c2
    have HBB := hid hbb
    clear c1 c2 hbb
    go_enter Tryd.func33, Tryd.ntmps33
    go_wp2_with fail
    refine C1.out.mono ?_
    rintro e w1 ⟨rfl, rfl⟩
    go_wp2_with fail
    refine C2.out.mono ?_
    rintro e w1 ⟨rfl, rfl⟩
    go_wp2_with fail
    go_ret
    exact ⟨by rw [HBB.out]; simp, rfl⟩
theorem count_o {v : Value} {q n : Nat} {S : Nat → Bool} (w : World) (h : SO w v q n S) : Calls Tryd.prog 22 #[v] w fun e w' => e = .returned (.int .i64 ((card n S : Nat) : Int)) ∧ w' = w := by
  rcases h with ⟨rfl, rfl, _⟩ | ⟨p, rfl, h⟩
  · exact count_nil w
  · exact count_set w h
end Go.Proofs.YtkagdmhijjfnnabDoor
