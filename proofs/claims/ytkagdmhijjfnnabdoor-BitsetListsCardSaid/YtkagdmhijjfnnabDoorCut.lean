import Derived.Test.YtkagdmhijjfnnabDoorAndW
namespace Go.Proofs.YtkagdmhijjfnnabDoor
open Go.RowKit Bs
set_option maxHeartbeats 1000000 in
theorem cut_zero (p n : Nat) (w : World) (hc0 : w.cell? ⟨p, 0, none⟩ = some (.int .i64 n)) (e : (n : Int).tmod 64 = 0) :
    Calls Tryd.prog 54 #[.pointer (some ⟨p, 0, none⟩)] w fun e w' => e = .returned (.bool false) ∧ w' = w := by
  go_enter Tryd.func54, Tryd.ntmps54
  go_wp2
  go_ret
  exact ⟨rfl, rfl⟩
set_option maxRecDepth 100000 in
set_option maxHeartbeats 1000000 in
theorem cut_core (p q n L l u x : Nat) (w : World) (hc0 : w.cell? ⟨p, 0, none⟩ = some (.int .i64 n)) (hc1 : w.cell? ⟨p, 1, none⟩ = some (.slice (some ⟨q, 0, none⟩) L L))
    (hx : w.cell? ⟨q, l, none⟩ = some (.int .u64 x)) (hf : w.frozen? ⟨q, l, none⟩ = false) (e : (n : Int).tmod 64 = u) (hu : ((u : Int) == 0) = false) (hu2 : u < 64) (hl : (L : Int) - 1 = (l : Int)) (hlL : (l : Int) < L) (hL : (L : Int) ≤ 1024) :
    Calls Tryd.prog 54 #[.pointer (some ⟨p, 0, none⟩)] w fun e w' => (∃ b, e = .returned (.bool b) ∧ b = (bits .and .u64 (x : Int) ((2 ^ u - 1 : Nat) : Int) != (x : Int))) ∧ Chg q w w' ∧ w'.heap[q]? = (w.setCell ⟨q, l, none⟩ (.int .u64 (bits .and .u64 (x : Int) ((2 ^ u - 1 : Nat) : Int)))).heap[q]? := by
  obtain ⟨m, hm⟩ : ∃ m, m = 2 ^ u - 1 := ⟨_, rfl⟩
  have HB := hid (fun w => below_any u w hu2)
  rw [← hm] at HB ⊢
  clear hm
  go_enter Tryd.func54, Tryd.ntmps54
  go_wp2
  go_region
  go_wp2
  go_region_with (go_at_call 50; refine (HB.out _).mono ?_; rintro e w' ⟨rfl, rfl⟩)
  all_goals go_wp2
  all_goals go_ret
  all_goals exact ⟨⟨_, rfl, rfl⟩, Chg.drewSet 2 _ _, rfl⟩
/-- cutTail, at the words. -/
theorem cut_any (p q n : Nat) (ws : List Nat) (w : World) (hc0 : w.cell? ⟨p, 0, none⟩ = some (.int .i64 n)) (hc1 : w.cell? ⟨p, 1, none⟩ = some (.slice (some ⟨q, 0, none⟩) ws.length ws.length))
    (hrow : w.heap[q]? = some (.cells (row ws) 56 (0, 0))) (hn : n ≤ 65536) (hl : ws.length = nw n) (wd : Wd ws) :
    Calls Tryd.prog 54 #[.pointer (some ⟨p, 0, none⟩)] w fun e w' => e = .returned (.bool (decide (cutW n ws ≠ ws))) ∧ Chg q w w' ∧ w'.heap[q]? = some (.cells (row (cutW n ws)) 56 (0, 0)) := by
  by_cases h0 : n % 64 = 0
  · refine (cut_zero p n w hc0 (by rw [idx_mod]; omega)).mono ?_
    rintro e w' ⟨rfl, rfl⟩
    have e : cutW n ws = ws := by unfold cutW; rw [if_pos h0]
    rw [e]
    exact ⟨by simp, Chg.refl _ _, hrow⟩
  · unfold nw at hl
    have hi : ws.length - 1 < ws.length := by omega
    have hp := pow_lt64 (n % 64) (by omega)
    refine (cut_core p q n ws.length (ws.length - 1) (n % 64) (ws.getD (ws.length - 1) 0) w hc0 hc1 (by rw [cell_of_row w q _ _ _ _ hrow, row_get _ _ hi]) (frozen_of_row w q _ _ _ hrow) (idx_mod n) (beq_eq_false_iff_ne.2 (by omega)) (by omega) (by omega) (by omega) (by omega)).mono ?_
    rintro e w' ⟨⟨b, rfl, hb⟩, hg, hh⟩
    rw [u64_and_nat _ _ (wd.getD _) (by omega)] at hb hh
    rw [heap_setCell_same w q _ _ _ _ hrow, row_set] at hh
    have e : cutW n ws = ws.set (ws.length - 1) (ws.getD (ws.length - 1) 0 &&& (2 ^ (n % 64) - 1)) := by unfold cutW; rw [if_neg h0]
    rw [← e] at hh
    refine ⟨ret_bool ?_, hg, hh⟩
    rw [hb, Bool.eq_iff_iff, bne_iff_ne, decide_eq_true_iff, e]
    constructor
    · intro h c
      apply h
      have := congrArg (fun l => l.getD (ws.length - 1) 0) c
      simp only [List.getD_eq_getElem?_getD, List.getElem?_set_self hi] at this
      simpa using congrArg (fun x : Nat => (x : Int)) this
    · intro h c
      apply h
      have c' : ws.getD (ws.length - 1) 0 &&& (2 ^ (n % 64) - 1) = ws.getD (ws.length - 1) 0 := by omega
      rw [c']
      apply list_ext_getD
      · simp
      · intro i hi'
        rw [List.getD_eq_getElem?_getD, List.getD_eq_getElem?_getD, List.getElem?_set]
        split
        · rename_i e1; subst e1; simp [hi]
        · rfl
end Go.Proofs.YtkagdmhijjfnnabDoor
