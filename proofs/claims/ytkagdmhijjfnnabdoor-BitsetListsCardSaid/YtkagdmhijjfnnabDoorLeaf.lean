import Derived.Test.YtkagdmhijjfnnabDoorProg
import Derived.Test.YtkagdmhijjfnnabDoorHeap
import Derived.Deep.QuietTactic
import Derived.BigQuiet
import Derived.Laws.CopyOwn
namespace Go.Proofs.YtkagdmhijjfnnabDoor
open Go.RowKit Bs

theorem ret_int {k : IntKind} {a b : Int} (h : a = b) : Ending.returned (.int k a) = .returned (.int k b) := by rw [h]
theorem ret_bool {a b : Bool} (h : a = b) : Ending.returned (.bool a) = .returned (.bool b) := by rw [h]
theorem pow_cast (b : Nat) : (2 : Int) ^ b = ((2 ^ b : Nat) : Int) := by simp
theorem pow_lt64 (b : Nat) (hb : b < 64) : 2 ^ b ≤ 9223372036854775808 ∧ 0 < 2 ^ b := by
  have := Nat.pow_le_pow_right (n := 2) (by decide) (show b ≤ 63 by omega)
  exact ⟨this, Nat.two_pow_pos b⟩
theorem below_num (b : Nat) (hb : b < 64) : IntKind.u64.wrap (IntKind.u64.wrap (2 ^ b) - 1) = ((2 ^ b - 1 : Nat) : Int) := by
  have h := pow_lt64 b hb
  rw [IntKind.wrap_u64, IntKind.wrap_u64, pow_cast]
  omega

set_option maxHeartbeats 400000 in
theorem valid_any (n : Int) (w : World) : Calls Tryd.prog 52 #[.int .i64 n] w fun e w' => e = .returned (.bool (decide (0 ≤ n ∧ n ≤ 65536))) ∧ w' = w := by
  by_cases h0 : 0 ≤ n <;> by_cases h1 : n ≤ 65536
  all_goals
    go_enter Tryd.func52, Tryd.ntmps52
    go_wp2
    go_ret
    exact ⟨by simp [h0, h1], rfl⟩
theorem valid_yes (n : Int) (w : World) (h0 : 0 ≤ n) (h1 : n ≤ 65536) : Calls Tryd.prog 52 #[.int .i64 n] w fun e w' => e = .returned (.bool true) ∧ w' = w := by
  refine (valid_any n w).mono ?_
  rintro e w' ⟨rfl, rfl⟩
  exact ⟨by simp [h0, h1], rfl⟩
theorem valid_no (n : Int) (w : World) (h : ¬ (0 ≤ n ∧ n ≤ 65536)) : Calls Tryd.prog 52 #[.int .i64 n] w fun e w' => e = .returned (.bool false) ∧ w' = w := by
  refine (valid_any n w).mono ?_
  rintro e w' ⟨rfl, rfl⟩
  exact ⟨by rw [decide_eq_false h], rfl⟩
set_option maxHeartbeats 400000 in
theorem sized_any (n : Int) (w : World) : Calls Tryd.prog 7 #[.int .i64 n] w fun e w' => e = .returned (.bool (decide (0 ≤ n ∧ n ≤ 65536))) ∧ w' = w := by
  by_cases h0 : 0 ≤ n <;> by_cases h1 : n ≤ 65536
  all_goals
    go_enter Tryd.func7, Tryd.ntmps7
    go_wp2
    go_ret
    exact ⟨by simp [h0, h1], rfl⟩
set_option maxHeartbeats 400000 in
theorem num_any (n : Int) (w : World) : Calls Tryd.prog 16 #[.int .i64 n] w fun e w' => e = .returned (.int .i64 n) ∧ w' = w := by
  go_enter Tryd.func16, Tryd.ntmps16
  go_wp2
  go_ret
  exact ⟨rfl, rfl⟩

set_option maxHeartbeats 400000 in
theorem below_any (b : Nat) (w : World) (hb : b < 64) : Calls Tryd.prog 50 #[.int .i64 b] w fun e w' => e = .returned (.int .u64 ((2 ^ b - 1 : Nat) : Int)) ∧ w' = w := by
  have H := below_num b hb
  have HH : Hid (IntKind.u64.wrap (IntKind.u64.wrap (2 ^ b) - 1) = ((2 ^ b - 1 : Nat) : Int)) := H
  clear H
  go_enter Tryd.func50, Tryd.ntmps50
  go_wp2
  go_ret
  exact ⟨ret_int HH.out, rfl⟩

set_option maxHeartbeats 400000 in
theorem size_nil (w : World) : Calls Tryd.prog 21 #[.pointer none] w fun e w' => e = .returned (.int .i64 0) ∧ w' = w := by
  go_enter Tryd.func21, Tryd.ntmps21
  go_wp2
  go_ret
  exact ⟨rfl, rfl⟩
set_option maxHeartbeats 400000 in
theorem size_cell (p n : Nat) (w : World) (hc : w.cell? ⟨p, 0, none⟩ = some (.int .i64 n)) : Calls Tryd.prog 21 #[.pointer (some ⟨p, 0, none⟩)] w fun e w' => e = .returned (.int .i64 n) ∧ w' = w := by
  go_enter Tryd.func21, Tryd.ntmps21
  go_wp2
  go_ret
  exact ⟨rfl, rfl⟩
set_option maxHeartbeats 400000 in
theorem list_cell (p : Nat) (w : World) (q : Addr) (l c : Nat) (hc : w.cell? ⟨p, 1, none⟩ = some (.slice (some q) l c)) : Calls Tryd.prog 51 #[.pointer (some ⟨p, 0, none⟩)] w fun e w' => e = .returned (.slice (some q) l c) ∧ w' = w := by
  go_enter Tryd.func51, Tryd.ntmps51
  go_wp2
  go_ret
  exact ⟨rfl, rfl⟩
set_option maxHeartbeats 400000 in
theorem list_nil (w : World) : Calls Tryd.prog 51 #[.pointer none] w fun e w' => e = .returned (.slice none 0 0) ∧ w' = w := by
  go_enter Tryd.func51, Tryd.ntmps51
  go_wp2
  go_ret
  exact ⟨rfl, rfl⟩

theorem info59 : ∃ i : TypeInfo, Tryd.prog.info? 56 = some i ∧ i.zero = some (.int .u64 0) ∧ i.size = 1 ∧ i.bytes = 8 := by
  refine ⟨(Tryd.prog.info? 56).getD default, ?_, ?_, ?_, ?_⟩ <;> kernel_rfl
theorem made_row (k : Nat) : madeCells (Value.int .u64 0).cells k = row (List.replicate k 0) := by
  rw [row_zero]
  apply Array.ext
  · simp [madeCells]
  · intro i h1 h2
    simp [madeCells, Value.cells, Nat.mod_one]
theorem make_words (n : Nat) (hn : n ≤ 65536) (w : World) : Sem.run Tryd.prog (Instr.makeSlice 36 (.int .i64 (((n : Int) + 64 - 1) / 64)) (.int .i64 (((n : Int) + 64 - 1) / 64))) w =
    .ok (.slice (some ⟨w.heap.size, 0, none⟩) (nw n) (nw n)) (w.alloc (.cells (row (List.replicate (nw n) 0)) 56)) := by
  obtain ⟨i, h1, h2, h3, h4⟩ := info59
  have h := run_make (P := Tryd.prog) (w := w) 36 56 i _ Tryd.underlying36 h1 h2 .i64 .i64 (((n : Int) + 64 - 1) / 64) (((n : Int) + 64 - 1) / 64) (by omega) (by omega) (by rw [h4]; omega) (by omega)
  have e : (((n : Int) + 64 - 1) / 64).toNat = nw n := by unfold nw; omega
  rw [h3, e, Nat.mul_one, made_row] at h
  exact h

set_option maxRecDepth 100000 in
set_option maxHeartbeats 400000 in
theorem blank_mem (n : Nat) (w : World) (hn : n ≤ 65536) : Calls Tryd.prog 64 #[.int .i64 n] w fun e w' => e = .returned (.pointer (some ⟨w.heap.size + 1, 0, none⟩)) ∧
    w' = (w.alloc (.cells (row (List.replicate (nw n) 0)) 56)).alloc (.cells #[.int .i64 n, .slice (some ⟨w.heap.size, 0, none⟩) (nw n) (nw n)] 58) := by
  have hmk := make_words n hn
  go_enter Tryd.func64, Tryd.ntmps64
  go_wp2
  go_ret
  exact ⟨rfl, rfl⟩
theorem tidy_zero (k n : Nat) : Tidy n (List.replicate k 0) := by
  intro i _
  unfold mem
  rw [List.getD_eq_getElem?_getD, List.getElem?_replicate]
  split <;> simp
theorem wd_zero (k : Nat) : Wd (List.replicate k 0) := by
  intro x hx; obtain ⟨_, rfl⟩ := List.mem_replicate.1 hx; decide
theorem isSet_blank (w : World) (n : Nat) (hn : n ≤ 65536) : IsSet ((w.alloc (.cells (row (List.replicate (nw n) 0)) 56)).alloc (.cells #[.int .i64 n, .slice (some ⟨w.heap.size, 0, none⟩) (nw n) (nw n)] 58)) (w.heap.size + 1) w.heap.size n (List.replicate (nw n) 0) := by
  refine ⟨?_, ?_, by omega, hn, by simp, wd_zero _, tidy_zero _ _⟩
  · rw [heap_alloc2_new]; simp
  · rw [heap_alloc2_old]
/-- blank: a new set without members. -/
theorem blank_any (n : Nat) (w : World) (hn : n ≤ 65536) : Calls Tryd.prog 64 #[.int .i64 n] w fun e w' => e = .returned (.pointer (some ⟨w.heap.size + 1, 0, none⟩)) ∧
    IsSet w' (w.heap.size + 1) w.heap.size n (List.replicate (nw n) 0) ∧ Below w.heap.size w w' := by
  refine (blank_mem n w hn).mono ?_
  rintro e w' ⟨rfl, rfl⟩
  exact ⟨rfl, isSet_blank w n hn, ((Below.refl _ _).alloc (Nat.le_refl _) _).alloc (by simp) _⟩
set_option maxHeartbeats 400000 in
/-- New. -/
theorem new_ok (n : Nat) (w : World) (hn : n ≤ 65536) : Calls Tryd.prog 56 #[.int .i64 n] w fun e w' => e = .returned (.tuple #[.pointer (some ⟨w.heap.size + 1, 0, none⟩), .int .i64 0]) ∧
    IsSet w' (w.heap.size + 1) w.heap.size n (List.replicate (nw n) 0) ∧ Below w.heap.size w w' := by
  have h1 : (n : Int) ≤ 65536 := by omega
  go_enter Tryd.func56, Tryd.ntmps56
  go_wp2_with (first | (go_at_call 52; refine (valid_yes _ _ (by omega) h1).mono ?_; rintro e w' ⟨rfl, rfl⟩) | (go_at_call 64; refine (blank_any n _ hn).mono ?_; rintro e w' ⟨rfl, hs, hb⟩))
  go_ret2
  exact ⟨rfl, hs, hb⟩
set_option maxHeartbeats 400000 in
theorem new_no (n : Int) (w : World) (hn : ¬ (0 ≤ n ∧ n ≤ 65536)) : Calls Tryd.prog 56 #[.int .i64 n] w fun e w' => e = .returned (.tuple #[.pointer none, .int .i64 11]) ∧ w' = w := by
  have H : Hid (¬ (0 ≤ n ∧ n ≤ 65536)) := hn
  clear hn
  go_enter Tryd.func56, Tryd.ntmps56
  go_wp2_with (first | (go_at_call 52; refine (valid_no _ _ H.out).mono ?_; rintro e w' ⟨rfl, rfl⟩))
  go_ret2
  exact ⟨rfl, rfl⟩
set_option maxHeartbeats 400000 in
/-- inside. -/
theorem inside_any (p n : Nat) (i : Int) (w : World) (hc : w.cell? ⟨p, 0, none⟩ = some (.int .i64 n)) : Calls Tryd.prog 44 #[.pointer (some ⟨p, 0, none⟩), .int .i64 i] w fun e w' => e = .returned (.bool (decide (0 ≤ i ∧ i < n))) ∧ w' = w := by
  by_cases h0 : 0 ≤ i <;> by_cases h1 : i < n
  all_goals
    go_enter Tryd.func44, Tryd.ntmps44
    go_wp2_with (first | (go_at_call 21; refine (size_cell p n _ hc).mono ?_; rintro e w' ⟨rfl, rfl⟩))
    go_ret
    exact ⟨by simp [h0, h1], rfl⟩
theorem inside_yes (p n : Nat) (i : Int) (w : World) (hc : w.cell? ⟨p, 0, none⟩ = some (.int .i64 n)) (h0 : 0 ≤ i) (h1 : i < n) : Calls Tryd.prog 44 #[.pointer (some ⟨p, 0, none⟩), .int .i64 i] w fun e w' => e = .returned (.bool true) ∧ w' = w := by
  refine (inside_any p n i w hc).mono ?_
  rintro e w' ⟨rfl, rfl⟩
  exact ⟨by simp [h0, h1], rfl⟩
theorem inside_no (p n : Nat) (i : Int) (w : World) (hc : w.cell? ⟨p, 0, none⟩ = some (.int .i64 n)) (h : ¬ (0 ≤ i ∧ i < n)) : Calls Tryd.prog 44 #[.pointer (some ⟨p, 0, none⟩), .int .i64 i] w fun e w' => e = .returned (.bool false) ∧ w' = w := by
  refine (inside_any p n i w hc).mono ?_
  rintro e w' ⟨rfl, rfl⟩
  exact ⟨by rw [decide_eq_false h], rfl⟩
end Go.Proofs.YtkagdmhijjfnnabDoor
