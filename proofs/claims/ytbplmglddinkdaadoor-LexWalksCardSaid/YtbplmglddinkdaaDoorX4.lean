import Derived.Test.YtbplmglddinkdaaDoorX2
namespace Go.Proofs.YtbplmglddinkdaaDoor.L
open Go.RowKit Go.Shelf
set_option linter.unusedVariables false
/-- A fault lies in a block: its code and its place, no name, no cause. -/
def Flt (W : World) (N : Nat) (c a : Nat) : Prop := W.heap[N]? = some (.cells #[.int .i64 c, .int .i64 a, .string ⟨#[]⟩, .nilIface] 49 (0, 0))
theorem Flt.low {W W' : World} {N c a B : Nat} (h : Flt W N c a) (hb : Below B W W') (hN : N < B) : Flt W' N c a := by
  unfold Flt at h ⊢
  rw [hb.block N hN]
  exact h
theorem Flt.lt {W : World} {N c a : Nat} (h : Flt W N c a) : N < W.heap.size := by
  apply Classical.byContradiction
  intro n
  unfold Flt at h
  rw [Array.getElem?_eq_none (by omega)] at h
  cases h
theorem Flt.cells {W : World} {N c a : Nat} (h : Flt W N c a) : W.cell? ⟨N, 0, none⟩ = some (.int .i64 c) ∧ W.cell? ⟨N, 1, none⟩ = some (.int .i64 a) ∧ W.cell? ⟨N, 2, none⟩ = some (.string ⟨#[]⟩) ∧ W.cell? ⟨N, 3, none⟩ = some .nilIface := by
  unfold Flt at h
  refine ⟨?_, ?_, ?_, ?_⟩ <;> (unfold World.cell?; rw [h]; rfl)
def fv (N : Nat) : Value := .iface 45 (.pointer (some ⟨N, 0, none⟩))
set_option maxHeartbeats 1000000 in
theorem fault_any (c a : Nat) (w : World) : Calls Tryd.prog 28 #[.int .i64 (c : Int), .int .i64 (a : Int)] w fun e w' => e = .returned (fv w.heap.size) ∧ Flt w' w.heap.size c a ∧ Below w.heap.size w w' := by
  unfold fv
  go_enter Tryd.func28, Tryd.ntmps28
  go_wp2
  go_ret
  exact ⟨rfl, heap_alloc_new w _, belowA w _⟩
theorem run_assert (x : Value) (w : World) : (Instr.typeAssert (.iface 45 x) 26 45 true).run Tryd.prog w = .ok (.tuple #[x, .bool true]) w := by
  simp [Instr.typeAssert, run_underlying Tryd.underlying45, go_sem, Result.andThen]
set_option maxHeartbeats 1000000 in
theorem isfault_yes (N c a : Nat) (w : World) (h : Flt w N c a) (h0 : c ≠ 0) : Calls Tryd.prog 12 #[fv N, .int .i64 (c : Int), .int .i64 (a : Int)] w fun e w' => e = .returned (.bool true) ∧ w' = w := by
  unfold fv
  have ra := run_assert
  obtain ⟨c0, c1, c2, c3⟩ := h.cells
  have h0' : ¬ (c : Int) = 0 := by omega
  have h0'' : ((c : Int) == 0) = false := by simpa using h0
  have hl := h.lt
  go_enter Tryd.func12, Tryd.ntmps12
  go_wp2
  go_ret
  exact ⟨rfl, rfl⟩
set_option maxHeartbeats 1000000 in
theorem isfault_ok (a : Int) (w : World) : Calls Tryd.prog 12 #[.nilIface, .int .i64 0, .int .i64 a] w fun e w' => e = .returned (.bool true) ∧ w' = w := by
  go_enter Tryd.func12, Tryd.ntmps12
  go_wp2
  go_ret
  exact ⟨rfl, rfl⟩
set_option maxHeartbeats 1000000 in
theorem toolong_no (s : ByteArray) (w : World) (h : s.size ≤ 4096) : Calls Tryd.prog 23 #[.string s] w fun e w' => e = .returned .nilIface ∧ w' = w := by
  have h' : ¬ (4096 : Int) < (s.size : Int) := by omega
  go_enter Tryd.func23, Tryd.ntmps23
  go_wp2
  go_ret
  exact ⟨rfl, rfl⟩
set_option maxHeartbeats 1000000 in
theorem toolong_yes (s : ByteArray) (w : World) (h : 4096 < s.size) : Calls Tryd.prog 23 #[.string s] w fun e w' => e = .returned (fv w.heap.size) ∧ Flt w' w.heap.size 110 4096 ∧ Below w.heap.size w w' := by
  have h' : (4096 : Int) < (s.size : Int) := by omega
  have HF := hid (fault_any 110 4096 w)
  unfold fv at *
  go_enter Tryd.func23, Tryd.ntmps23
  go_wp2_with (go_at_call 28; refine HF.out.mono ?_; rintro e w1 ⟨rfl, f1, l1⟩; have F1 := hid f1; have L1 := hid l1; clear f1 l1)
  go_ret
  exact ⟨rfl, F1.out, L1.out⟩
/-- What reading a text comes to. -/
inductive TR where
  | ok (l : List UInt8) (e : Nat)
  | bad (c a : Nat)
def esc3 (s : ByteArray) (k : Nat) : UInt8 × Nat := escV (bt s (k + 1)) (bt s (k + 2)) (bt s (k + 3))
/-- The text whose first quote stands at f, read from k on, where l has been read. -/
def txS (s : ByteArray) (f k : Nat) (l : List UInt8) : TR :=
  if h : k < s.size then
    if bt s k = 34 then (if 127 < l.length then .bad 115 f else .ok l (k + 1))
    else if bt s k = 92 then
      if h2 : (esc3 s k).2 = 0 then .bad 113 k else txS s f (k + (esc3 s k).2) (l ++ [(esc3 s k).1])
    else if iv (bt s k) < 32 then .bad 111 k
    else txS s f (k + 1) (l ++ [bt s k])
  else .bad 112 f
termination_by s.size - k
decreasing_by all_goals omega
theorem txS_end (s : ByteArray) (f k : Nat) (l : List UInt8) (h : ¬ k < s.size) : txS s f k l = .bad 112 f := by
  rw [txS, dif_neg h]
theorem txS_q (s : ByteArray) (f k : Nat) (l : List UInt8) (h : k < s.size) (c : bt s k = 34) : txS s f k l = if 127 < l.length then .bad 115 f else .ok l (k + 1) := by
  rw [txS, dif_pos h, if_pos c]
theorem txS_e0 (s : ByteArray) (f k : Nat) (l : List UInt8) (h : k < s.size) (c : bt s k = 92) (e : (esc3 s k).2 = 0) : txS s f k l = .bad 113 k := by
  rw [txS, dif_pos h, if_neg (by rw [c]; decide), if_pos c, dif_pos e]
theorem txS_e (s : ByteArray) (f k : Nat) (l : List UInt8) (h : k < s.size) (c : bt s k = 92) (e : (esc3 s k).2 ≠ 0) : txS s f k l = txS s f (k + (esc3 s k).2) (l ++ [(esc3 s k).1]) := by
  rw [txS, dif_pos h, if_neg (by rw [c]; decide), if_pos c, dif_neg e]
theorem txS_low (s : ByteArray) (f k : Nat) (l : List UInt8) (h : k < s.size) (c : bt s k ≠ 34) (d : bt s k ≠ 92) (e : iv (bt s k) < 32) : txS s f k l = .bad 111 k := by
  rw [txS, dif_pos h, if_neg c, if_neg d, if_pos e]
theorem txS_go (s : ByteArray) (f k : Nat) (l : List UInt8) (h : k < s.size) (c : bt s k ≠ 34) (d : bt s k ≠ 92) (e : ¬ iv (bt s k) < 32) : txS s f k l = txS s f (k + 1) (l ++ [bt s k]) := by
  rw [txS, dif_pos h, if_neg c, if_neg d, if_neg e]
theorem esc_inv {a b c : UInt8} (h : (escV a b c).2 ≠ 0) : a ≠ 0 ∧ ((escV a b c).2 = 2 ∨ ((escV a b c).2 = 4 ∧ b ≠ 0 ∧ c ≠ 0)) := by
  unfold escV at h ⊢
  repeat' split
  all_goals first
    | (rename_i g; subst g; simp; done)
    | skip
  · rename_i g
    refine ⟨by rw [g.1]; decide, Or.inr ⟨rfl, ?_, ?_⟩⟩
    · intro z; subst z; exact absurd g.2.1 (by decide)
    · intro z; subst z; exact absurd g.2.2 (by decide)
  · simp_all
theorem bt_nz {s : ByteArray} {k : Nat} (h : bt s k ≠ 0) : k < s.size := by
  apply Classical.byContradiction
  intro n
  exact h (bt_out s k (by omega))
/-- An escape lies in the source. -/
theorem esc_in {s : ByteArray} {k : Nat} (h : (esc3 s k).2 ≠ 0) : k + (esc3 s k).2 ≤ s.size ∧ ((esc3 s k).2 = 2 ∨ (esc3 s k).2 = 4) := by
  unfold esc3 at h ⊢
  obtain ⟨ha, h2 | ⟨h4, hb, hc⟩⟩ := esc_inv h
  · have := bt_nz ha
    exact ⟨by omega, Or.inl h2⟩
  · have := bt_nz hc
    exact ⟨by omega, Or.inr h4⟩
theorem u8_iv {c : UInt8} {n : Nat} (h : iv c = n) (hn : n < 256) : c = UInt8.ofNat n := by
  apply UInt8.toNat_inj.1
  unfold iv at h
  simp
  omega
end Go.Proofs.YtbplmglddinkdaaDoor.L
