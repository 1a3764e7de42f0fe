import Derived.Test.YtkagdmhijjfnnabDoorNl1
import Derived.Test.YtkagdmhijjfnnabDoorOnes
namespace Go.Proofs.YtkagdmhijjfnnabDoor
open Go.RowKit Bs
set_option linter.unusedVariables false
set_option maxHeartbeats 1000000 in
theorem andnotwith_nilr (p q n : Nat) (ws : List Nat) (w : World) (h : IsSet w p q n ws) :
    Calls Tryd.prog 20 #[.pointer (some ⟨p, 0, none⟩), .pointer none] w fun e w' => e = .returned (.tuple #[]) ∧ w' = w := by
  have hc1 := h.c1
  have hle := h.len
  obtain ⟨M, hM⟩ : ∃ M, M = 0 := ⟨_, rfl⟩
  have hmin : min (ws.length : Int) 0 = (M : Int) := by omega
  have HM := hid hM
  clear h hM
  go_enter Tryd.func20, Tryd.ntmps20
  go_wp2_with (first | (go_at_call_of 51 p; refine (list_cell p _ _ _ _ hc1).mono ?_; rintro e w' ⟨rfl, rfl⟩) | (go_at_call 51; refine (list_nil _).mono ?_; rintro e w' ⟨rfl, rfl⟩))
  go_loopw [16] (fun i wr => i = .int .i64 0 ∧ wr = w') (fun _ _ => 0)
  case atStart => exact ⟨rfl, rfl⟩
  case round =>
    obtain ⟨rfl, rfl⟩ := hrel
    have := HM.out
    subst this
    go_wp2
    go_end0
    exact ⟨rfl, rfl⟩
set_option maxHeartbeats 1000000 in
theorem orwith_nilr (p q n : Nat) (ws : List Nat) (w : World) (h : IsSet w p q n ws) :
    Calls Tryd.prog 19 #[.pointer (some ⟨p, 0, none⟩), .pointer none] w fun e w' => e = .returned (.tuple #[]) ∧ Chg q w w' ∧ w'.heap[q]? = some (.cells (row (cutW n ws)) 56 (0, 0)) := by
  have hc1 := h.c1
  have hle := h.len
  obtain ⟨M, hM⟩ : ∃ M, M = 0 := ⟨_, rfl⟩
  have hmin : min (ws.length : Int) 0 = (M : Int) := by omega
  have HM := hid hM
  have HI := hid h
  clear h hM
  go_enter Tryd.func19, Tryd.ntmps19
  go_wp2_with (first | (go_at_call_of 51 p; refine (list_cell p _ _ _ _ hc1).mono ?_; rintro e w' ⟨rfl, rfl⟩) | (go_at_call 51; refine (list_nil _).mono ?_; rintro e w' ⟨rfl, rfl⟩))
  go_loopw [16] (fun i wr => i = .int .i64 0 ∧ wr = w') (fun _ _ => 0)
  case atStart => exact ⟨rfl, rfl⟩
  case round =>
    obtain ⟨rfl, rfl⟩ := hrel
    have := HM.out
    subst this
    have HCUT := hid (cut_any p q n ws wr HI.out.c0 HI.out.c1 HI.out.hq HI.out.hn HI.out.hl HI.out.wd)
    go_wp2_with (go_at_call 54; refine HCUT.out.mono ?_; rintro e w2 ⟨rfl, hg2, hr2⟩)
    go_end0
    exact ⟨rfl, hg2, hr2⟩
set_option maxRecDepth 100000 in
set_option maxHeartbeats 1000000 in
theorem andwith_nilr (p q n : Nat) (ws : List Nat) (w : World) (h : IsSet w p q n ws) :
    Calls Tryd.prog 18 #[.pointer (some ⟨p, 0, none⟩), .pointer none] w fun e w' => e = .returned (.tuple #[]) ∧ Chg q w w' ∧ w'.heap[q]? = some (.cells (row (opW (· &&& ·) ws [])) 56 (0, 0)) := by
  have hc1 := h.c1
  have hle := h.len
  obtain ⟨M, hM⟩ : ∃ M, M = 0 := ⟨_, rfl⟩
  have hmin : min (ws.length : Int) 0 = (M : Int) := by omega
  have HM := hid hM
  have HI := hid h
  clear h hM
  go_enter Tryd.func18, Tryd.ntmps18
  go_wp2_with (first | (go_at_call_of 51 p; refine (list_cell p _ _ _ _ hc1).mono ?_; rintro e w' ⟨rfl, rfl⟩) | (go_at_call 51; refine (list_nil _).mono ?_; rintro e w' ⟨rfl, rfl⟩))
  go_loopw [18] (fun i wr => i = .int .i64 0 ∧ wr = w') (fun _ _ => 0)
  case atStart => exact ⟨rfl, rfl⟩
  case round =>
    obtain ⟨rfl, rfl⟩ := hrel
    have := HM.out
    subst this
    have hr0 : wr.heap[q]? = some (.cells (row (part (· &&& ·) 0 ws [])) 56 (0, 0)) := by rw [part_zero]; exact HI.out.hq
    by_cases hfull : 0 < ws.length
    · have hcl := clear_row hr0 (k := 0) (by rw [length_part]; omega)
      rw [length_part, Nat.sub_zero] at hcl
      have HR := hid hr0
      clear hr0
      go_wp2_with fail
      go_end0
      obtain ⟨a, b⟩ := clr_heap (ws.length - 0) 0 _ q _ HR.out
      rw [clr_and 0 ws [] (by simp)] at a
      exact ⟨rfl, b, a⟩
    · have e : ws = [] := List.eq_nil_of_length_eq_zero (by omega)
      subst e
      have HR := hid hr0
      have hcl := clear_none q 0 rfl
      simp only [List.length_nil] at hc1 hle
      clear hr0 hmin hfull
      go_wp2_with fail
      all_goals go_end0
      all_goals exact ⟨rfl, Chg.refl _ _, HR.out⟩
set_option maxHeartbeats 1000000 in
theorem andnotwith_nill (p q n : Nat) (ws : List Nat) (w : World) (h : IsSet w p q n ws) :
    Calls Tryd.prog 20 #[.pointer none, .pointer (some ⟨p, 0, none⟩)] w fun e w' => e = .returned (.tuple #[]) ∧ w' = w := by
  have hc1 := h.c1
  have hle := h.len
  obtain ⟨M, hM⟩ : ∃ M, M = 0 := ⟨_, rfl⟩
  have hmin : min 0 (ws.length : Int) = (M : Int) := by omega
  have HM := hid hM
  clear h hM
  go_enter Tryd.func20, Tryd.ntmps20
  go_wp2_with (first | (go_at_call_of 51 p; refine (list_cell p _ _ _ _ hc1).mono ?_; rintro e w' ⟨rfl, rfl⟩) | (go_at_call 51; refine (list_nil _).mono ?_; rintro e w' ⟨rfl, rfl⟩))
  go_loopw [16] (fun i wr => i = .int .i64 0 ∧ wr = w') (fun _ _ => 0)
  case atStart => exact ⟨rfl, rfl⟩
  case round =>
    obtain ⟨rfl, rfl⟩ := hrel
    have := HM.out
    subst this
    go_wp2
    go_end0
    exact ⟨rfl, rfl⟩
set_option maxHeartbeats 1000000 in
theorem orwith_nill (p q n : Nat) (ws : List Nat) (w : World) (h : IsSet w p q n ws) :
    Calls Tryd.prog 19 #[.pointer none, .pointer (some ⟨p, 0, none⟩)] w fun e w' => e = .returned (.tuple #[]) ∧ w' = w := by
  have hc1 := h.c1
  have hle := h.len
  obtain ⟨M, hM⟩ : ∃ M, M = 0 := ⟨_, rfl⟩
  have hmin : min 0 (ws.length : Int) = (M : Int) := by omega
  have HM := hid hM
  clear h hM
  go_enter Tryd.func19, Tryd.ntmps19
  go_wp2_with (first | (go_at_call_of 51 p; refine (list_cell p _ _ _ _ hc1).mono ?_; rintro e w' ⟨rfl, rfl⟩) | (go_at_call 51; refine (list_nil _).mono ?_; rintro e w' ⟨rfl, rfl⟩))
  go_loopw [16] (fun i wr => i = .int .i64 0 ∧ wr = w') (fun _ _ => 0)
  case atStart => exact ⟨rfl, rfl⟩
  case round =>
    obtain ⟨rfl, rfl⟩ := hrel
    have := HM.out
    subst this
    go_wp2
    go_end0
    exact ⟨rfl, rfl⟩
theorem clear_nil (w : World) : (Builtin.clear_ #[36] 0 #[.slice none 0 0]).run Tryd.prog w = .ok (.tuple #[]) w := by
  kernel_rfl
set_option maxRecDepth 100000 in
set_option maxHeartbeats 1000000 in
theorem andwith_nill (p q n : Nat) (ws : List Nat) (w : World) (h : IsSet w p q n ws) :
    Calls Tryd.prog 18 #[.pointer none, .pointer (some ⟨p, 0, none⟩)] w fun e w' => e = .returned (.tuple #[]) ∧ w' = w := by
  have hc1 := h.c1
  have hle := h.len
  obtain ⟨M, hM⟩ : ∃ M, M = 0 := ⟨_, rfl⟩
  have hmin : min 0 (ws.length : Int) = (M : Int) := by omega
  have HM := hid hM
  clear h hM
  go_enter Tryd.func18, Tryd.ntmps18
  go_wp2_with (first | (go_at_call_of 51 p; refine (list_cell p _ _ _ _ hc1).mono ?_; rintro e w' ⟨rfl, rfl⟩) | (go_at_call 51; refine (list_nil _).mono ?_; rintro e w' ⟨rfl, rfl⟩))
  go_loopw [18] (fun i wr => i = .int .i64 0 ∧ wr = w') (fun _ _ => 0)
  case atStart => exact ⟨rfl, rfl⟩
  case round =>
    obtain ⟨rfl, rfl⟩ := hrel
    have := HM.out
    subst this
    have hcl := clear_nil wr
    go_wp2_with fail
    go_end0
    exact ⟨rfl, rfl⟩
set_option maxHeartbeats 1000000 in
set_option maxRecDepth 100000 in
theorem widened_nil (m : Nat) (w : World) (hm : m ≤ 65536) :
    Calls Tryd.prog 53 #[.pointer none, .int .i64 m] w fun e w' => e = .returned (.pointer (some ⟨w.heap.size + 1, 0, none⟩)) ∧
      IsSet w' (w.heap.size + 1) w.heap.size m (List.replicate (nw m) 0) ∧ Below w.heap.size w w' := by
  have hN : max 0 (m : Int) = (m : Int) := by omega
  go_enter Tryd.func53, Tryd.ntmps53
  go_wp2_with (first | (go_at_call 21; refine (size_nil _).mono ?_; rintro e w' ⟨rfl, rfl⟩) | (go_at_call 64; refine (blank_any m _ hm).mono ?_; rintro e w1 ⟨rfl, hs, hb⟩))
  have hc1 := hs.c1
  have HS : Hid (IsSet w1 (w'.heap.size + 1) w'.heap.size m (List.replicate (nw m) 0)) := hs
  have HB : Hid (Below w'.heap.size w' w1) := hb
  rw [List.length_replicate] at hc1
  clear hs hb
  go_region_held3 (fun W => W.cell? ⟨w'.heap.size + 1, 1, none⟩ = some (.slice (some ⟨w'.heap.size, 0, none⟩) (nw m) (nw m)))
    (first | exact hc1 | exact (hb4.out.cell (p := ⟨w'.heap.size + 1, 1, none⟩) (by simp) HS.out.plt).trans hc1)
    (first
      | (refine step_copy_chg rfl (.tmp 14) (.tmp 16) 36 36 rfl 56 Tryd.underlying36 (by kernel_rfl) (some ⟨w'.heap.size, 0, none⟩) none (nw m) (nw m) 0 0 rfl rfl w'.heap.size 0 (vals (List.replicate (nw m) 0)) 56 HS.out.hq [] (by simp) (fun h => by cases h) (by simp) (by intro v hv; cases hv) ?_; intro w4 hg4 hb4)
      | (go_at_call 51; refine (list_nil _).mono ?_; rintro e w5 ⟨rfl, rfl⟩))
  go_wp2
  go_ret
  have hk : Chg w'.heap.size w1 w4 := Chg.drew.trans hb4.out
  have e4 := hg4.out
  refine ⟨rfl, HS.out.put hk (by simpa [splice, row_vals] using e4) rfl HS.out.wd HS.out.cl, Chg.below HB.out hk (Nat.le_refl _) HB.out.size⟩
end Go.Proofs.YtkagdmhijjfnnabDoor
