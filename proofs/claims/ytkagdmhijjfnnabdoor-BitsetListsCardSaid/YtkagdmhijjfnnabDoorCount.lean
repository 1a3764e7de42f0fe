import Derived.Test.YtkagdmhijjfnnabDoorBits
namespace Go.Proofs.YtkagdmhijjfnnabDoor
open Go.RowKit Bs
def cnt (k : Nat) (ws : List Nat) : Nat := ((ws.take k).map ones).sum
theorem cnt_zero (ws : List Nat) : cnt 0 ws = 0 := by simp [cnt]
theorem cnt_succ (k : Nat) (ws : List Nat) (hk : k < ws.length) : cnt (k + 1) ws = cnt k ws + ones (ws.getD k 0) := by
  unfold cnt
  rw [List.take_succ_eq_append_getElem hk, List.map_append, List.sum_append]
  simp [List.getElem?_eq_getElem hk]
theorem cnt_le (k : Nat) (ws : List Nat) : k ≤ ws.length → cnt k ws ≤ 128 * k := by
  induction k with
  | zero => intro _; rw [cnt_zero]; omega
  | succ k ih =>
    intro h
    rw [cnt_succ k ws (by omega)]
    have := ih (by omega)
    have := ones_lt (ws.getD k 0)
    omega
set_option maxHeartbeats 1000000 in
theorem countBits_any (q : Nat) (ws : List Nat) (w : World) (hrow : w.heap[q]? = some (.cells (row ws) 56 (0, 0))) (hle : ws.length ≤ 1024) (wd : Wd ws) :
    Calls Tryd.prog 48 #[.slice (some ⟨q, 0, none⟩) ws.length ws.length] w fun e w' => e = .returned (.int .i64 ((cnt ws.length ws : Nat) : Int)) ∧ w' = w := by
  have HR := hid hrow
  have HW := hid wd
  clear hrow wd
  obtain ⟨L, hL⟩ : ∃ L, L = ws.length := ⟨_, rfl⟩
  have HL := hid hL
  rw [← hL] at hle ⊢
  clear hL
  go_enter Tryd.func48, Tryd.ntmps48
  go_wp2
  go_loop [3, 8] (fun n i => ∃ k : Nat, k ≤ L ∧ i = .int .i64 k ∧ n = .int .i64 ((cnt k ws : Nat) : Int)) (fun _ i => L - (intOf i).toNat)
  case atStart => exact ⟨0, Nat.zero_le _, rfl, rfl⟩
  case round =>
    obtain ⟨k, hk, rfl, rfl⟩ := hrel
    have hb := cnt_le k ws (by rw [← HL.out]; exact hk)
    obtain ⟨c, hc⟩ : ∃ c, c = cnt k ws := ⟨_, rfl⟩
    rw [← hc] at hb ⊢
    have HCC := hid hc
    clear hc
    by_cases hlt : k < L
    · have hi : k < ws.length := by rw [← HL.out]; exact hlt
      have hx := row_get ws k hi
      rw [← cell_of_row w q k _ _ _ HR.out] at hx
      obtain ⟨x, hxe⟩ : ∃ x, x = ws.getD k 0 := ⟨_, rfl⟩
      have HO := hid (ones_any x)
      have hxb := HW.out.getD k
      rw [← hxe] at hx hxb
      have hol := ones_lt x
      have HX := hid hxe
      have HXB := hid hxb
      have HI := hid hi
      obtain ⟨o, ho⟩ : ∃ o, o = ones x := ⟨_, rfl⟩
      rw [← ho] at HO hol
      have HOO := hid ho
      clear hxe hxb hi ho
      go_wp2_with (go_at_call 49; refine (HO.out _ HXB.out).mono ?_; rintro e w' ⟨rfl, rfl⟩)
      go_round
      case rel => exact ⟨k + 1, by omega, by go_num, by rw [cnt_succ k ws HI.out, ← HCC.out, ← HX.out, ← HOO.out]; go_num⟩
      case measure => simp [intOf]; omega
    · have e : k = L := by omega
      subst e
      go_wp2
      go_ret
      exact ⟨ret_int (by rw [HCC.out]), rfl⟩
set_option maxHeartbeats 1000000 in
theorem count_words (p q n : Nat) (ws : List Nat) (w : World) (h : IsSet w p q n ws) :
    Calls Tryd.prog 22 #[.pointer (some ⟨p, 0, none⟩)] w fun e w' => e = .returned (.int .i64 ((cnt ws.length ws : Nat) : Int)) ∧ w' = w := by
  have hc1 := h.c1
  have HI := hid h
  clear h
  go_enter Tryd.func22, Tryd.ntmps22
  go_wp2_with fail
  refine (list_cell p _ _ _ _ hc1).mono ?_
  rintro e w1 ⟨rfl, rfl⟩
  go_wp2_with fail
  refine (countBits_any q ws _ HI.out.hq HI.out.len HI.out.wd).mono ?_
  rintro e w1 ⟨rfl, rfl⟩
  go_wp2_with fail
  go_ret
  exact ⟨rfl, rfl⟩
theorem cnt_none (k : Nat) (ws : List Nat) (h : ∀ i, i < k → ws.getD i 0 = 0) (hk : k ≤ ws.length) : cnt k ws = 0 := by
  induction k with
  | zero => exact cnt_zero ws
  | succ k ih =>
    rw [cnt_succ k ws (by omega), ih (fun i hi => h i (by omega)) (by omega), h k (by omega)]
    decide
theorem count_none {p q n : Nat} {S : Nat → Bool} (w : World) (h : SetAt w p q n S) (he : ∀ i, S i = false) :
    Calls Tryd.prog 22 #[.pointer (some ⟨p, 0, none⟩)] w fun e w' => e = .returned (.int .i64 0) ∧ w' = w := by
  obtain ⟨ws, x, hx⟩ := h
  refine (count_words p q n ws w x).mono ?_
  rintro e w' ⟨rfl, rfl⟩
  refine ⟨ret_int ?_, rfl⟩
  rw [cnt_none ws.length ws (fun i hi => ?_) (Nat.le_refl _)]
  · rfl
  · rw [word_zero_iff _ (x.wd.getD i)]
    intro b hb
    rw [← mem_at ws i b hb, hx, he]
end Go.Proofs.YtkagdmhijjfnnabDoor
