import Derived.Test.YtimmjikpcekffaaGreatDoorS4
namespace Go.Proofs.YtimmjikpcekffaaGreatDoor.L
open Go.RowKit
set_option linter.unusedVariables false
def siO (k nu j : Int) : Int := if k = 8 ∨ k = 9 ∨ k = 20 ∨ k = 10 then 2 else if k = 14 ∨ k = 15 ∨ k = 16 ∨ k = 17 ∨ k = 18 then nu else j
def srO (k : Int) (m : Nat) (s0 : Int) : Int := if k = 11 ∨ k = 14 ∨ k = 15 then 2 else if k = 12 ∨ k = 18 ∨ k = 19 ∨ k = 20 then 3 else if k = 16 ∨ k = 17 then 4 else if k = 13 then (if m = 0 then 6 else setO s0) else 1
set_option maxHeartbeats 4000000 in
set_option maxRecDepth 100000 in
theorem sd_8 (pa : Option Addr) (pn pc gt n : Nat) (tx : ByteArray) (nu : Int) (ka : Option Addr) (m kc : Nat) (w : World) : Calls Tryz.prog 102 #[.agg #[.slice pa pn pc, .slice (some ⟨gt, 0, none⟩) n n], .agg #[.int .i64 8, .string tx, .int .i64 nu, .slice ka m kc]] w fun e w' => e = .returned (.int .i64 (2)) ∧ Below w.heap.size w w' := by
  have HB0 := hid (belowA w (.cells #[.slice pa pn pc, .slice (some ⟨gt, 0, none⟩) n n] 125))
  have HX0 := hid (heap_alloc_new w (.cells #[.slice pa pn pc, .slice (some ⟨gt, 0, none⟩) n n] 125))
  go_enter Tryz.func102, Tryz.ntmps102
  go_upto_region 1 with (fail)
  generalize hY : w.alloc (.cells #[.slice pa pn pc, .slice (some ⟨gt, 0, none⟩) n n] 125) = Y at *
  have HS0 := hid (show Y.heap.size = w.heap.size + 1 by rw [← hY]; simp)
  clear hY
  have HB1 := hid (belowA Y (.cells #[.int .i64 8, .string tx, .int .i64 nu, .slice ka m kc] 31))
  have HX1 := hid (heap_alloc_new Y (.cells #[.int .i64 8, .string tx, .int .i64 nu, .slice ka m kc] 31))
  have HXW := hid ((HB1.out.block _ (lt_blk HX0.out)).trans HX0.out)
  generalize Y.alloc (.cells #[.int .i64 8, .string tx, .int .i64 nu, .slice ka m kc] 31) = V at *
  rw [HS0.out] at HX1
  have HB := hid (show Below w.heap.size w V from bchS HB0.out HB1.out)
  generalize hpb : w.heap.size + 1 = pb at *
  clear hpb
  have ⟨x0, x1, x2, x3⟩ := cells4 HX1.out
  have ⟨y0, y1⟩ := cellsW HXW.out
  go_wp2_with fail
  go_ret
  exact ⟨rfl, HB.out⟩
set_option maxHeartbeats 4000000 in
set_option maxRecDepth 100000 in
theorem sd_9 (pa : Option Addr) (pn pc gt n : Nat) (tx : ByteArray) (nu : Int) (ka : Option Addr) (m kc : Nat) (w : World) : Calls Tryz.prog 102 #[.agg #[.slice pa pn pc, .slice (some ⟨gt, 0, none⟩) n n], .agg #[.int .i64 9, .string tx, .int .i64 nu, .slice ka m kc]] w fun e w' => e = .returned (.int .i64 (2)) ∧ Below w.heap.size w w' := by
  have HB0 := hid (belowA w (.cells #[.slice pa pn pc, .slice (some ⟨gt, 0, none⟩) n n] 125))
  have HX0 := hid (heap_alloc_new w (.cells #[.slice pa pn pc, .slice (some ⟨gt, 0, none⟩) n n] 125))
  go_enter Tryz.func102, Tryz.ntmps102
  go_upto_region 1 with (fail)
  generalize hY : w.alloc (.cells #[.slice pa pn pc, .slice (some ⟨gt, 0, none⟩) n n] 125) = Y at *
  have HS0 := hid (show Y.heap.size = w.heap.size + 1 by rw [← hY]; simp)
  clear hY
  have HB1 := hid (belowA Y (.cells #[.int .i64 9, .string tx, .int .i64 nu, .slice ka m kc] 31))
  have HX1 := hid (heap_alloc_new Y (.cells #[.int .i64 9, .string tx, .int .i64 nu, .slice ka m kc] 31))
  have HXW := hid ((HB1.out.block _ (lt_blk HX0.out)).trans HX0.out)
  generalize Y.alloc (.cells #[.int .i64 9, .string tx, .int .i64 nu, .slice ka m kc] 31) = V at *
  rw [HS0.out] at HX1
  have HB := hid (show Below w.heap.size w V from bchS HB0.out HB1.out)
  generalize hpb : w.heap.size + 1 = pb at *
  clear hpb
  have ⟨x0, x1, x2, x3⟩ := cells4 HX1.out
  have ⟨y0, y1⟩ := cellsW HXW.out
  go_wp2_with fail
  go_ret
  exact ⟨rfl, HB.out⟩
set_option maxHeartbeats 4000000 in
set_option maxRecDepth 100000 in
theorem sd_20 (pa : Option Addr) (pn pc gt n : Nat) (tx : ByteArray) (nu : Int) (ka : Option Addr) (m kc : Nat) (w : World) : Calls Tryz.prog 102 #[.agg #[.slice pa pn pc, .slice (some ⟨gt, 0, none⟩) n n], .agg #[.int .i64 20, .string tx, .int .i64 nu, .slice ka m kc]] w fun e w' => e = .returned (.int .i64 (2)) ∧ Below w.heap.size w w' := by
  have HB0 := hid (belowA w (.cells #[.slice pa pn pc, .slice (some ⟨gt, 0, none⟩) n n] 125))
  have HX0 := hid (heap_alloc_new w (.cells #[.slice pa pn pc, .slice (some ⟨gt, 0, none⟩) n n] 125))
  go_enter Tryz.func102, Tryz.ntmps102
  go_upto_region 1 with (fail)
  generalize hY : w.alloc (.cells #[.slice pa pn pc, .slice (some ⟨gt, 0, none⟩) n n] 125) = Y at *
  have HS0 := hid (show Y.heap.size = w.heap.size + 1 by rw [← hY]; simp)
  clear hY
  have HB1 := hid (belowA Y (.cells #[.int .i64 20, .string tx, .int .i64 nu, .slice ka m kc] 31))
  have HX1 := hid (heap_alloc_new Y (.cells #[.int .i64 20, .string tx, .int .i64 nu, .slice ka m kc] 31))
  have HXW := hid ((HB1.out.block _ (lt_blk HX0.out)).trans HX0.out)
  generalize Y.alloc (.cells #[.int .i64 20, .string tx, .int .i64 nu, .slice ka m kc] 31) = V at *
  rw [HS0.out] at HX1
  have HB := hid (show Below w.heap.size w V from bchS HB0.out HB1.out)
  generalize hpb : w.heap.size + 1 = pb at *
  clear hpb
  have ⟨x0, x1, x2, x3⟩ := cells4 HX1.out
  have ⟨y0, y1⟩ := cellsW HXW.out
  go_wp2_with fail
  go_ret
  exact ⟨rfl, HB.out⟩
set_option maxHeartbeats 4000000 in
set_option maxRecDepth 100000 in
theorem sd_10 (pa : Option Addr) (pn pc gt n : Nat) (tx : ByteArray) (nu : Int) (ka : Option Addr) (m kc : Nat) (w : World) : Calls Tryz.prog 102 #[.agg #[.slice pa pn pc, .slice (some ⟨gt, 0, none⟩) n n], .agg #[.int .i64 10, .string tx, .int .i64 nu, .slice ka m kc]] w fun e w' => e = .returned (.int .i64 (2)) ∧ Below w.heap.size w w' := by
  have HB0 := hid (belowA w (.cells #[.slice pa pn pc, .slice (some ⟨gt, 0, none⟩) n n] 125))
  have HX0 := hid (heap_alloc_new w (.cells #[.slice pa pn pc, .slice (some ⟨gt, 0, none⟩) n n] 125))
  go_enter Tryz.func102, Tryz.ntmps102
  go_upto_region 1 with (fail)
  generalize hY : w.alloc (.cells #[.slice pa pn pc, .slice (some ⟨gt, 0, none⟩) n n] 125) = Y at *
  have HS0 := hid (show Y.heap.size = w.heap.size + 1 by rw [← hY]; simp)
  clear hY
  have HB1 := hid (belowA Y (.cells #[.int .i64 10, .string tx, .int .i64 nu, .slice ka m kc] 31))
  have HX1 := hid (heap_alloc_new Y (.cells #[.int .i64 10, .string tx, .int .i64 nu, .slice ka m kc] 31))
  have HXW := hid ((HB1.out.block _ (lt_blk HX0.out)).trans HX0.out)
  generalize Y.alloc (.cells #[.int .i64 10, .string tx, .int .i64 nu, .slice ka m kc] 31) = V at *
  rw [HS0.out] at HX1
  have HB := hid (show Below w.heap.size w V from bchS HB0.out HB1.out)
  generalize hpb : w.heap.size + 1 = pb at *
  clear hpb
  have ⟨x0, x1, x2, x3⟩ := cells4 HX1.out
  have ⟨y0, y1⟩ := cellsW HXW.out
  go_wp2_with fail
  go_ret
  exact ⟨rfl, HB.out⟩
set_option maxHeartbeats 4000000 in
set_option maxRecDepth 100000 in
theorem sd_14 (pa : Option Addr) (pn pc gt n : Nat) (tx : ByteArray) (nu : Int) (ka : Option Addr) (m kc : Nat) (w : World) : Calls Tryz.prog 102 #[.agg #[.slice pa pn pc, .slice (some ⟨gt, 0, none⟩) n n], .agg #[.int .i64 14, .string tx, .int .i64 nu, .slice ka m kc]] w fun e w' => e = .returned (.int .i64 (nu)) ∧ Below w.heap.size w w' := by
  have HB0 := hid (belowA w (.cells #[.slice pa pn pc, .slice (some ⟨gt, 0, none⟩) n n] 125))
  have HX0 := hid (heap_alloc_new w (.cells #[.slice pa pn pc, .slice (some ⟨gt, 0, none⟩) n n] 125))
  go_enter Tryz.func102, Tryz.ntmps102
  go_upto_region 1 with (fail)
  generalize hY : w.alloc (.cells #[.slice pa pn pc, .slice (some ⟨gt, 0, none⟩) n n] 125) = Y at *
  have HS0 := hid (show Y.heap.size = w.heap.size + 1 by rw [← hY]; simp)
  clear hY
  have HB1 := hid (belowA Y (.cells #[.int .i64 14, .string tx, .int .i64 nu, .slice ka m kc] 31))
  have HX1 := hid (heap_alloc_new Y (.cells #[.int .i64 14, .string tx, .int .i64 nu, .slice ka m kc] 31))
  have HXW := hid ((HB1.out.block _ (lt_blk HX0.out)).trans HX0.out)
  generalize Y.alloc (.cells #[.int .i64 14, .string tx, .int .i64 nu, .slice ka m kc] 31) = V at *
  rw [HS0.out] at HX1
  have HB := hid (show Below w.heap.size w V from bchS HB0.out HB1.out)
  generalize hpb : w.heap.size + 1 = pb at *
  clear hpb
  have ⟨x0, x1, x2, x3⟩ := cells4 HX1.out
  have ⟨y0, y1⟩ := cellsW HXW.out
  go_wp2_with fail
  go_ret
  exact ⟨rfl, HB.out⟩
set_option maxHeartbeats 4000000 in
set_option maxRecDepth 100000 in
theorem sd_15 (pa : Option Addr) (pn pc gt n : Nat) (tx : ByteArray) (nu : Int) (ka : Option Addr) (m kc : Nat) (w : World) : Calls Tryz.prog 102 #[.agg #[.slice pa pn pc, .slice (some ⟨gt, 0, none⟩) n n], .agg #[.int .i64 15, .string tx, .int .i64 nu, .slice ka m kc]] w fun e w' => e = .returned (.int .i64 (nu)) ∧ Below w.heap.size w w' := by
  have HB0 := hid (belowA w (.cells #[.slice pa pn pc, .slice (some ⟨gt, 0, none⟩) n n] 125))
  have HX0 := hid (heap_alloc_new w (.cells #[.slice pa pn pc, .slice (some ⟨gt, 0, none⟩) n n] 125))
  go_enter Tryz.func102, Tryz.ntmps102
  go_upto_region 1 with (fail)
  generalize hY : w.alloc (.cells #[.slice pa pn pc, .slice (some ⟨gt, 0, none⟩) n n] 125) = Y at *
  have HS0 := hid (show Y.heap.size = w.heap.size + 1 by rw [← hY]; simp)
  clear hY
  have HB1 := hid (belowA Y (.cells #[.int .i64 15, .string tx, .int .i64 nu, .slice ka m kc] 31))
  have HX1 := hid (heap_alloc_new Y (.cells #[.int .i64 15, .string tx, .int .i64 nu, .slice ka m kc] 31))
  have HXW := hid ((HB1.out.block _ (lt_blk HX0.out)).trans HX0.out)
  generalize Y.alloc (.cells #[.int .i64 15, .string tx, .int .i64 nu, .slice ka m kc] 31) = V at *
  rw [HS0.out] at HX1
  have HB := hid (show Below w.heap.size w V from bchS HB0.out HB1.out)
  generalize hpb : w.heap.size + 1 = pb at *
  clear hpb
  have ⟨x0, x1, x2, x3⟩ := cells4 HX1.out
  have ⟨y0, y1⟩ := cellsW HXW.out
  go_wp2_with fail
  go_ret
  exact ⟨rfl, HB.out⟩
set_option maxHeartbeats 4000000 in
set_option maxRecDepth 100000 in
theorem sd_16 (pa : Option Addr) (pn pc gt n : Nat) (tx : ByteArray) (nu : Int) (ka : Option Addr) (m kc : Nat) (w : World) : Calls Tryz.prog 102 #[.agg #[.slice pa pn pc, .slice (some ⟨gt, 0, none⟩) n n], .agg #[.int .i64 16, .string tx, .int .i64 nu, .slice ka m kc]] w fun e w' => e = .returned (.int .i64 (nu)) ∧ Below w.heap.size w w' := by
  have HB0 := hid (belowA w (.cells #[.slice pa pn pc, .slice (some ⟨gt, 0, none⟩) n n] 125))
  have HX0 := hid (heap_alloc_new w (.cells #[.slice pa pn pc, .slice (some ⟨gt, 0, none⟩) n n] 125))
  go_enter Tryz.func102, Tryz.ntmps102
  go_upto_region 1 with (fail)
  generalize hY : w.alloc (.cells #[.slice pa pn pc, .slice (some ⟨gt, 0, none⟩) n n] 125) = Y at *
  have HS0 := hid (show Y.heap.size = w.heap.size + 1 by rw [← hY]; simp)
  clear hY
  have HB1 := hid (belowA Y (.cells #[.int .i64 16, .string tx, .int .i64 nu, .slice ka m kc] 31))
  have HX1 := hid (heap_alloc_new Y (.cells #[.int .i64 16, .string tx, .int .i64 nu, .slice ka m kc] 31))
  have HXW := hid ((HB1.out.block _ (lt_blk HX0.out)).trans HX0.out)
  generalize Y.alloc (.cells #[.int .i64 16, .string tx, .int .i64 nu, .slice ka m kc] 31) = V at *
  rw [HS0.out] at HX1
  have HB := hid (show Below w.heap.size w V from bchS HB0.out HB1.out)
  generalize hpb : w.heap.size + 1 = pb at *
  clear hpb
  have ⟨x0, x1, x2, x3⟩ := cells4 HX1.out
  have ⟨y0, y1⟩ := cellsW HXW.out
  go_wp2_with fail
  go_ret
  exact ⟨rfl, HB.out⟩
set_option maxHeartbeats 4000000 in
set_option maxRecDepth 100000 in
theorem sd_17 (pa : Option Addr) (pn pc gt n : Nat) (tx : ByteArray) (nu : Int) (ka : Option Addr) (m kc : Nat) (w : World) : Calls Tryz.prog 102 #[.agg #[.slice pa pn pc, .slice (some ⟨gt, 0, none⟩) n n], .agg #[.int .i64 17, .string tx, .int .i64 nu, .slice ka m kc]] w fun e w' => e = .returned (.int .i64 (nu)) ∧ Below w.heap.size w w' := by
  have HB0 := hid (belowA w (.cells #[.slice pa pn pc, .slice (some ⟨gt, 0, none⟩) n n] 125))
  have HX0 := hid (heap_alloc_new w (.cells #[.slice pa pn pc, .slice (some ⟨gt, 0, none⟩) n n] 125))
  go_enter Tryz.func102, Tryz.ntmps102
  go_upto_region 1 with (fail)
  generalize hY : w.alloc (.cells #[.slice pa pn pc, .slice (some ⟨gt, 0, none⟩) n n] 125) = Y at *
  have HS0 := hid (show Y.heap.size = w.heap.size + 1 by rw [← hY]; simp)
  clear hY
  have HB1 := hid (belowA Y (.cells #[.int .i64 17, .string tx, .int .i64 nu, .slice ka m kc] 31))
  have HX1 := hid (heap_alloc_new Y (.cells #[.int .i64 17, .string tx, .int .i64 nu, .slice ka m kc] 31))
  have HXW := hid ((HB1.out.block _ (lt_blk HX0.out)).trans HX0.out)
  generalize Y.alloc (.cells #[.int .i64 17, .string tx, .int .i64 nu, .slice ka m kc] 31) = V at *
  rw [HS0.out] at HX1
  have HB := hid (show Below w.heap.size w V from bchS HB0.out HB1.out)
  generalize hpb : w.heap.size + 1 = pb at *
  clear hpb
  have ⟨x0, x1, x2, x3⟩ := cells4 HX1.out
  have ⟨y0, y1⟩ := cellsW HXW.out
  go_wp2_with fail
  go_ret
  exact ⟨rfl, HB.out⟩
set_option maxHeartbeats 4000000 in
set_option maxRecDepth 100000 in
theorem sd_18 (pa : Option Addr) (pn pc gt n : Nat) (tx : ByteArray) (nu : Int) (ka : Option Addr) (m kc : Nat) (w : World) : Calls Tryz.prog 102 #[.agg #[.slice pa pn pc, .slice (some ⟨gt, 0, none⟩) n n], .agg #[.int .i64 18, .string tx, .int .i64 nu, .slice ka m kc]] w fun e w' => e = .returned (.int .i64 (nu)) ∧ Below w.heap.size w w' := by
  have HB0 := hid (belowA w (.cells #[.slice pa pn pc, .slice (some ⟨gt, 0, none⟩) n n] 125))
  have HX0 := hid (heap_alloc_new w (.cells #[.slice pa pn pc, .slice (some ⟨gt, 0, none⟩) n n] 125))
  go_enter Tryz.func102, Tryz.ntmps102
  go_upto_region 1 with (fail)
  generalize hY : w.alloc (.cells #[.slice pa pn pc, .slice (some ⟨gt, 0, none⟩) n n] 125) = Y at *
  have HS0 := hid (show Y.heap.size = w.heap.size + 1 by rw [← hY]; simp)
  clear hY
  have HB1 := hid (belowA Y (.cells #[.int .i64 18, .string tx, .int .i64 nu, .slice ka m kc] 31))
  have HX1 := hid (heap_alloc_new Y (.cells #[.int .i64 18, .string tx, .int .i64 nu, .slice ka m kc] 31))
  have HXW := hid ((HB1.out.block _ (lt_blk HX0.out)).trans HX0.out)
  generalize Y.alloc (.cells #[.int .i64 18, .string tx, .int .i64 nu, .slice ka m kc] 31) = V at *
  rw [HS0.out] at HX1
  have HB := hid (show Below w.heap.size w V from bchS HB0.out HB1.out)
  generalize hpb : w.heap.size + 1 = pb at *
  clear hpb
  have ⟨x0, x1, x2, x3⟩ := cells4 HX1.out
  have ⟨y0, y1⟩ := cellsW HXW.out
  go_wp2_with fail
  go_ret
  exact ⟨rfl, HB.out⟩
set_option maxHeartbeats 4000000 in
set_option maxRecDepth 100000 in
theorem sd_else (pa : Option Addr) (pn pc gt n : Nat) (tx : ByteArray) (nu : Int) (ka : Option Addr) (m kc : Nat) (w : World) (k : Int) (hk : k ≠ 8 ∧ k ≠ 9 ∧ k ≠ 20 ∧ k ≠ 10 ∧ k ≠ 14 ∧ k ≠ 15 ∧ k ≠ 16 ∧ k ≠ 17 ∧ k ≠ 18) (j : Int) (hj : ∀ W, Below w.heap.size w W → Calls Tryz.prog 129 #[.agg #[.slice pa pn pc, .slice (some ⟨gt, 0, none⟩) n n], .slice ka m kc] W fun e w' => e = .returned (.int .i64 j) ∧ Below W.heap.size W w') : Calls Tryz.prog 102 #[.agg #[.slice pa pn pc, .slice (some ⟨gt, 0, none⟩) n n], .agg #[.int .i64 k, .string tx, .int .i64 nu, .slice ka m kc]] w fun e w' => e = .returned (.int .i64 (j)) ∧ Below w.heap.size w w' := by
  obtain ⟨h0, h1, h2, h3, h4, h5, h6, h7, h8⟩ := hk
  have e0 : (k == 8) = false := by simp; omega
  have e1 : (k == 9) = false := by simp; omega
  have e2 : (k == 20) = false := by simp; omega
  have e3 : (k == 10) = false := by simp; omega
  have e4 : (k == 14) = false := by simp; omega
  have e5 : (k == 15) = false := by simp; omega
  have e6 : (k == 16) = false := by simp; omega
  have e7 : (k == 17) = false := by simp; omega
  have e8 : (k == 18) = false := by simp; omega
  clear h0 h1 h2 h3 h4 h5 h6 h7 h8
  have HJ := hid hj
  clear hj
  have HB0 := hid (belowA w (.cells #[.slice pa pn pc, .slice (some ⟨gt, 0, none⟩) n n] 125))
  have HX0 := hid (heap_alloc_new w (.cells #[.slice pa pn pc, .slice (some ⟨gt, 0, none⟩) n n] 125))
  go_enter Tryz.func102, Tryz.ntmps102
  go_upto_region 1 with (fail)
  generalize hY : w.alloc (.cells #[.slice pa pn pc, .slice (some ⟨gt, 0, none⟩) n n] 125) = Y at *
  have HS0 := hid (show Y.heap.size = w.heap.size + 1 by rw [← hY]; simp)
  clear hY
  have HB1 := hid (belowA Y (.cells #[.int .i64 k, .string tx, .int .i64 nu, .slice ka m kc] 31))
  have HX1 := hid (heap_alloc_new Y (.cells #[.int .i64 k, .string tx, .int .i64 nu, .slice ka m kc] 31))
  have HXW := hid ((HB1.out.block _ (lt_blk HX0.out)).trans HX0.out)
  generalize Y.alloc (.cells #[.int .i64 k, .string tx, .int .i64 nu, .slice ka m kc] 31) = V at *
  rw [HS0.out] at HX1
  have HB := hid (show Below w.heap.size w V from bchS HB0.out HB1.out)
  generalize hpb : w.heap.size + 1 = pb at *
  clear hpb
  have ⟨x0, x1, x2, x3⟩ := cells4 HX1.out
  have ⟨y0, y1⟩ := cellsW HXW.out
  have HJV := hid (HJ.out V HB.out)
  go_wp2_with (go_at_call 129; refine HJV.out.mono ?_; rintro e w1 ⟨rfl, l1⟩; have L1 := hid l1; clear l1)
  go_ret
  exact ⟨rfl, bchS HB.out L1.out⟩
theorem sideof_any (pa : Option Addr) (pn pc gt n : Nat) (k : Int) (tx : ByteArray) (nu : Int) (ka : Option Addr) (m kc : Nat) (w : World) (j : Int) (hj : ∀ W, Below w.heap.size w W → Calls Tryz.prog 129 #[.agg #[.slice pa pn pc, .slice (some ⟨gt, 0, none⟩) n n], .slice ka m kc] W fun e w' => e = .returned (.int .i64 j) ∧ Below W.heap.size W w') :
    Calls Tryz.prog 102 #[.agg #[.slice pa pn pc, .slice (some ⟨gt, 0, none⟩) n n], .agg #[.int .i64 k, .string tx, .int .i64 nu, .slice ka m kc]] w fun e w' => e = .returned (.int .i64 (siO k nu j)) ∧ Below w.heap.size w w' := by
  by_cases h : k ≠ 8 ∧ k ≠ 9 ∧ k ≠ 20 ∧ k ≠ 10 ∧ k ≠ 14 ∧ k ≠ 15 ∧ k ≠ 16 ∧ k ≠ 17 ∧ k ≠ 18
  · rw [show siO k nu j = j by unfold siO; rw [if_neg (by omega), if_neg (by omega)]]
    exact sd_else pa pn pc gt n tx nu ka m kc w k h j hj
  · have hc : k = 8 ∨ k = 9 ∨ k = 20 ∨ k = 10 ∨ k = 14 ∨ k = 15 ∨ k = 16 ∨ k = 17 ∨ k = 18 := by omega
    rcases hc with rfl | rfl | rfl | rfl | rfl | rfl | rfl | rfl | rfl
    · exact sd_8 pa pn pc gt n tx nu ka m kc w
    · exact sd_9 pa pn pc gt n tx nu ka m kc w
    · exact sd_20 pa pn pc gt n tx nu ka m kc w
    · exact sd_10 pa pn pc gt n tx nu ka m kc w
    · exact sd_14 pa pn pc gt n tx nu ka m kc w
    · exact sd_15 pa pn pc gt n tx nu ka m kc w
    · exact sd_16 pa pn pc gt n tx nu ka m kc w
    · exact sd_17 pa pn pc gt n tx nu ka m kc w
    · exact sd_18 pa pn pc gt n tx nu ka m kc w
set_option maxHeartbeats 4000000 in
set_option maxRecDepth 100000 in
theorem so_11 (pa : Option Addr) (pn pc gt n : Nat) (tx : ByteArray) (nu : Int) (ka : Option Addr) (m kc : Nat) (w : World) : Calls Tryz.prog 101 #[.agg #[.slice pa pn pc, .slice (some ⟨gt, 0, none⟩) n n], .agg #[.int .i64 11, .string tx, .int .i64 nu, .slice ka m kc]] w fun e w' => e = .returned (.int .i64 (2)) ∧ Below w.heap.size w w' := by
  have HB0 := hid (belowA w (.cells #[.slice pa pn pc, .slice (some ⟨gt, 0, none⟩) n n] 125))
  have HX0 := hid (heap_alloc_new w (.cells #[.slice pa pn pc, .slice (some ⟨gt, 0, none⟩) n n] 125))
  go_enter Tryz.func101, Tryz.ntmps101
  go_upto_region 1 with (fail)
  generalize hY : w.alloc (.cells #[.slice pa pn pc, .slice (some ⟨gt, 0, none⟩) n n] 125) = Y at *
  have HS0 := hid (show Y.heap.size = w.heap.size + 1 by rw [← hY]; simp)
  clear hY
  have HB1 := hid (belowA Y (.cells #[.int .i64 11, .string tx, .int .i64 nu, .slice ka m kc] 31))
  have HX1 := hid (heap_alloc_new Y (.cells #[.int .i64 11, .string tx, .int .i64 nu, .slice ka m kc] 31))
  have HXW := hid ((HB1.out.block _ (lt_blk HX0.out)).trans HX0.out)
  generalize Y.alloc (.cells #[.int .i64 11, .string tx, .int .i64 nu, .slice ka m kc] 31) = V at *
  rw [HS0.out] at HX1
  have HB := hid (show Below w.heap.size w V from bchS HB0.out HB1.out)
  generalize hpb : w.heap.size + 1 = pb at *
  clear hpb
  have ⟨x0, x1, x2, x3⟩ := cells4 HX1.out
  have ⟨y0, y1⟩ := cellsW HXW.out
  go_wp2_with fail
  go_ret
  exact ⟨rfl, HB.out⟩
set_option maxHeartbeats 4000000 in
set_option maxRecDepth 100000 in
theorem so_14 (pa : Option Addr) (pn pc gt n : Nat) (tx : ByteArray) (nu : Int) (ka : Option Addr) (m kc : Nat) (w : World) : Calls Tryz.prog 101 #[.agg #[.slice pa pn pc, .slice (some ⟨gt, 0, none⟩) n n], .agg #[.int .i64 14, .string tx, .int .i64 nu, .slice ka m kc]] w fun e w' => e = .returned (.int .i64 (2)) ∧ Below w.heap.size w w' := by
  have HB0 := hid (belowA w (.cells #[.slice pa pn pc, .slice (some ⟨gt, 0, none⟩) n n] 125))
  have HX0 := hid (heap_alloc_new w (.cells #[.slice pa pn pc, .slice (some ⟨gt, 0, none⟩) n n] 125))
  go_enter Tryz.func101, Tryz.ntmps101
  go_upto_region 1 with (fail)
  generalize hY : w.alloc (.cells #[.slice pa pn pc, .slice (some ⟨gt, 0, none⟩) n n] 125) = Y at *
  have HS0 := hid (show Y.heap.size = w.heap.size + 1 by rw [← hY]; simp)
  clear hY
  have HB1 := hid (belowA Y (.cells #[.int .i64 14, .string tx, .int .i64 nu, .slice ka m kc] 31))
  have HX1 := hid (heap_alloc_new Y (.cells #[.int .i64 14, .string tx, .int .i64 nu, .slice ka m kc] 31))
  have HXW := hid ((HB1.out.block _ (lt_blk HX0.out)).trans HX0.out)
  generalize Y.alloc (.cells #[.int .i64 14, .string tx, .int .i64 nu, .slice ka m kc] 31) = V at *
  rw [HS0.out] at HX1
  have HB := hid (show Below w.heap.size w V from bchS HB0.out HB1.out)
  generalize hpb : w.heap.size + 1 = pb at *
  clear hpb
  have ⟨x0, x1, x2, x3⟩ := cells4 HX1.out
  have ⟨y0, y1⟩ := cellsW HXW.out
  go_wp2_with fail
  go_ret
  exact ⟨rfl, HB.out⟩
set_option maxHeartbeats 4000000 in
set_option maxRecDepth 100000 in
theorem so_15 (pa : Option Addr) (pn pc gt n : Nat) (tx : ByteArray) (nu : Int) (ka : Option Addr) (m kc : Nat) (w : World) : Calls Tryz.prog 101 #[.agg #[.slice pa pn pc, .slice (some ⟨gt, 0, none⟩) n n], .agg #[.int .i64 15, .string tx, .int .i64 nu, .slice ka m kc]] w fun e w' => e = .returned (.int .i64 (2)) ∧ Below w.heap.size w w' := by
  have HB0 := hid (belowA w (.cells #[.slice pa pn pc, .slice (some ⟨gt, 0, none⟩) n n] 125))
  have HX0 := hid (heap_alloc_new w (.cells #[.slice pa pn pc, .slice (some ⟨gt, 0, none⟩) n n] 125))
  go_enter Tryz.func101, Tryz.ntmps101
  go_upto_region 1 with (fail)
  generalize hY : w.alloc (.cells #[.slice pa pn pc, .slice (some ⟨gt, 0, none⟩) n n] 125) = Y at *
  have HS0 := hid (show Y.heap.size = w.heap.size + 1 by rw [← hY]; simp)
  clear hY
  have HB1 := hid (belowA Y (.cells #[.int .i64 15, .string tx, .int .i64 nu, .slice ka m kc] 31))
  have HX1 := hid (heap_alloc_new Y (.cells #[.int .i64 15, .string tx, .int .i64 nu, .slice ka m kc] 31))
  have HXW := hid ((HB1.out.block _ (lt_blk HX0.out)).trans HX0.out)
  generalize Y.alloc (.cells #[.int .i64 15, .string tx, .int .i64 nu, .slice ka m kc] 31) = V at *
  rw [HS0.out] at HX1
  have HB := hid (show Below w.heap.size w V from bchS HB0.out HB1.out)
  generalize hpb : w.heap.size + 1 = pb at *
  clear hpb
  have ⟨x0, x1, x2, x3⟩ := cells4 HX1.out
  have ⟨y0, y1⟩ := cellsW HXW.out
  go_wp2_with fail
  go_ret
  exact ⟨rfl, HB.out⟩
set_option maxHeartbeats 4000000 in
set_option maxRecDepth 100000 in
theorem so_12 (pa : Option Addr) (pn pc gt n : Nat) (tx : ByteArray) (nu : Int) (ka : Option Addr) (m kc : Nat) (w : World) : Calls Tryz.prog 101 #[.agg #[.slice pa pn pc, .slice (some ⟨gt, 0, none⟩) n n], .agg #[.int .i64 12, .string tx, .int .i64 nu, .slice ka m kc]] w fun e w' => e = .returned (.int .i64 (3)) ∧ Below w.heap.size w w' := by
  have HB0 := hid (belowA w (.cells #[.slice pa pn pc, .slice (some ⟨gt, 0, none⟩) n n] 125))
  have HX0 := hid (heap_alloc_new w (.cells #[.slice pa pn pc, .slice (some ⟨gt, 0, none⟩) n n] 125))
  go_enter Tryz.func101, Tryz.ntmps101
  go_upto_region 1 with (fail)
  generalize hY : w.alloc (.cells #[.slice pa pn pc, .slice (some ⟨gt, 0, none⟩) n n] 125) = Y at *
  have HS0 := hid (show Y.heap.size = w.heap.size + 1 by rw [← hY]; simp)
  clear hY
  have HB1 := hid (belowA Y (.cells #[.int .i64 12, .string tx, .int .i64 nu, .slice ka m kc] 31))
  have HX1 := hid (heap_alloc_new Y (.cells #[.int .i64 12, .string tx, .int .i64 nu, .slice ka m kc] 31))
  have HXW := hid ((HB1.out.block _ (lt_blk HX0.out)).trans HX0.out)
  generalize Y.alloc (.cells #[.int .i64 12, .string tx, .int .i64 nu, .slice ka m kc] 31) = V at *
  rw [HS0.out] at HX1
  have HB := hid (show Below w.heap.size w V from bchS HB0.out HB1.out)
  generalize hpb : w.heap.size + 1 = pb at *
  clear hpb
  have ⟨x0, x1, x2, x3⟩ := cells4 HX1.out
  have ⟨y0, y1⟩ := cellsW HXW.out
  go_wp2_with fail
  go_ret
  exact ⟨rfl, HB.out⟩
set_option maxHeartbeats 4000000 in
set_option maxRecDepth 100000 in
theorem so_18 (pa : Option Addr) (pn pc gt n : Nat) (tx : ByteArray) (nu : Int) (ka : Option Addr) (m kc : Nat) (w : World) : Calls Tryz.prog 101 #[.agg #[.slice pa pn pc, .slice (some ⟨gt, 0, none⟩) n n], .agg #[.int .i64 18, .string tx, .int .i64 nu, .slice ka m kc]] w fun e w' => e = .returned (.int .i64 (3)) ∧ Below w.heap.size w w' := by
  have HB0 := hid (belowA w (.cells #[.slice pa pn pc, .slice (some ⟨gt, 0, none⟩) n n] 125))
  have HX0 := hid (heap_alloc_new w (.cells #[.slice pa pn pc, .slice (some ⟨gt, 0, none⟩) n n] 125))
  go_enter Tryz.func101, Tryz.ntmps101
  go_upto_region 1 with (fail)
  generalize hY : w.alloc (.cells #[.slice pa pn pc, .slice (some ⟨gt, 0, none⟩) n n] 125) = Y at *
  have HS0 := hid (show Y.heap.size = w.heap.size + 1 by rw [← hY]; simp)
  clear hY
  have HB1 := hid (belowA Y (.cells #[.int .i64 18, .string tx, .int .i64 nu, .slice ka m kc] 31))
  have HX1 := hid (heap_alloc_new Y (.cells #[.int .i64 18, .string tx, .int .i64 nu, .slice ka m kc] 31))
  have HXW := hid ((HB1.out.block _ (lt_blk HX0.out)).trans HX0.out)
  generalize Y.alloc (.cells #[.int .i64 18, .string tx, .int .i64 nu, .slice ka m kc] 31) = V at *
  rw [HS0.out] at HX1
  have HB := hid (show Below w.heap.size w V from bchS HB0.out HB1.out)
  generalize hpb : w.heap.size + 1 = pb at *
  clear hpb
  have ⟨x0, x1, x2, x3⟩ := cells4 HX1.out
  have ⟨y0, y1⟩ := cellsW HXW.out
  go_wp2_with fail
  go_ret
  exact ⟨rfl, HB.out⟩
set_option maxHeartbeats 4000000 in
set_option maxRecDepth 100000 in
theorem so_19 (pa : Option Addr) (pn pc gt n : Nat) (tx : ByteArray) (nu : Int) (ka : Option Addr) (m kc : Nat) (w : World) : Calls Tryz.prog 101 #[.agg #[.slice pa pn pc, .slice (some ⟨gt, 0, none⟩) n n], .agg #[.int .i64 19, .string tx, .int .i64 nu, .slice ka m kc]] w fun e w' => e = .returned (.int .i64 (3)) ∧ Below w.heap.size w w' := by
  have HB0 := hid (belowA w (.cells #[.slice pa pn pc, .slice (some ⟨gt, 0, none⟩) n n] 125))
  have HX0 := hid (heap_alloc_new w (.cells #[.slice pa pn pc, .slice (some ⟨gt, 0, none⟩) n n] 125))
  go_enter Tryz.func101, Tryz.ntmps101
  go_upto_region 1 with (fail)
  generalize hY : w.alloc (.cells #[.slice pa pn pc, .slice (some ⟨gt, 0, none⟩) n n] 125) = Y at *
  have HS0 := hid (show Y.heap.size = w.heap.size + 1 by rw [← hY]; simp)
  clear hY
  have HB1 := hid (belowA Y (.cells #[.int .i64 19, .string tx, .int .i64 nu, .slice ka m kc] 31))
  have HX1 := hid (heap_alloc_new Y (.cells #[.int .i64 19, .string tx, .int .i64 nu, .slice ka m kc] 31))
  have HXW := hid ((HB1.out.block _ (lt_blk HX0.out)).trans HX0.out)
  generalize Y.alloc (.cells #[.int .i64 19, .string tx, .int .i64 nu, .slice ka m kc] 31) = V at *
  rw [HS0.out] at HX1
  have HB := hid (show Below w.heap.size w V from bchS HB0.out HB1.out)
  generalize hpb : w.heap.size + 1 = pb at *
  clear hpb
  have ⟨x0, x1, x2, x3⟩ := cells4 HX1.out
  have ⟨y0, y1⟩ := cellsW HXW.out
  go_wp2_with fail
  go_ret
  exact ⟨rfl, HB.out⟩
set_option maxHeartbeats 4000000 in
set_option maxRecDepth 100000 in
theorem so_20 (pa : Option Addr) (pn pc gt n : Nat) (tx : ByteArray) (nu : Int) (ka : Option Addr) (m kc : Nat) (w : World) : Calls Tryz.prog 101 #[.agg #[.slice pa pn pc, .slice (some ⟨gt, 0, none⟩) n n], .agg #[.int .i64 20, .string tx, .int .i64 nu, .slice ka m kc]] w fun e w' => e = .returned (.int .i64 (3)) ∧ Below w.heap.size w w' := by
  have HB0 := hid (belowA w (.cells #[.slice pa pn pc, .slice (some ⟨gt, 0, none⟩) n n] 125))
  have HX0 := hid (heap_alloc_new w (.cells #[.slice pa pn pc, .slice (some ⟨gt, 0, none⟩) n n] 125))
  go_enter Tryz.func101, Tryz.ntmps101
  go_upto_region 1 with (fail)
  generalize hY : w.alloc (.cells #[.slice pa pn pc, .slice (some ⟨gt, 0, none⟩) n n] 125) = Y at *
  have HS0 := hid (show Y.heap.size = w.heap.size + 1 by rw [← hY]; simp)
  clear hY
  have HB1 := hid (belowA Y (.cells #[.int .i64 20, .string tx, .int .i64 nu, .slice ka m kc] 31))
  have HX1 := hid (heap_alloc_new Y (.cells #[.int .i64 20, .string tx, .int .i64 nu, .slice ka m kc] 31))
  have HXW := hid ((HB1.out.block _ (lt_blk HX0.out)).trans HX0.out)
  generalize Y.alloc (.cells #[.int .i64 20, .string tx, .int .i64 nu, .slice ka m kc] 31) = V at *
  rw [HS0.out] at HX1
  have HB := hid (show Below w.heap.size w V from bchS HB0.out HB1.out)
  generalize hpb : w.heap.size + 1 = pb at *
  clear hpb
  have ⟨x0, x1, x2, x3⟩ := cells4 HX1.out
  have ⟨y0, y1⟩ := cellsW HXW.out
  go_wp2_with fail
  go_ret
  exact ⟨rfl, HB.out⟩
set_option maxHeartbeats 4000000 in
set_option maxRecDepth 100000 in
theorem so_16 (pa : Option Addr) (pn pc gt n : Nat) (tx : ByteArray) (nu : Int) (ka : Option Addr) (m kc : Nat) (w : World) : Calls Tryz.prog 101 #[.agg #[.slice pa pn pc, .slice (some ⟨gt, 0, none⟩) n n], .agg #[.int .i64 16, .string tx, .int .i64 nu, .slice ka m kc]] w fun e w' => e = .returned (.int .i64 (4)) ∧ Below w.heap.size w w' := by
  have HB0 := hid (belowA w (.cells #[.slice pa pn pc, .slice (some ⟨gt, 0, none⟩) n n] 125))
  have HX0 := hid (heap_alloc_new w (.cells #[.slice pa pn pc, .slice (some ⟨gt, 0, none⟩) n n] 125))
  go_enter Tryz.func101, Tryz.ntmps101
  go_upto_region 1 with (fail)
  generalize hY : w.alloc (.cells #[.slice pa pn pc, .slice (some ⟨gt, 0, none⟩) n n] 125) = Y at *
  have HS0 := hid (show Y.heap.size = w.heap.size + 1 by rw [← hY]; simp)
  clear hY
  have HB1 := hid (belowA Y (.cells #[.int .i64 16, .string tx, .int .i64 nu, .slice ka m kc] 31))
  have HX1 := hid (heap_alloc_new Y (.cells #[.int .i64 16, .string tx, .int .i64 nu, .slice ka m kc] 31))
  have HXW := hid ((HB1.out.block _ (lt_blk HX0.out)).trans HX0.out)
  generalize Y.alloc (.cells #[.int .i64 16, .string tx, .int .i64 nu, .slice ka m kc] 31) = V at *
  rw [HS0.out] at HX1
  have HB := hid (show Below w.heap.size w V from bchS HB0.out HB1.out)
  generalize hpb : w.heap.size + 1 = pb at *
  clear hpb
  have ⟨x0, x1, x2, x3⟩ := cells4 HX1.out
  have ⟨y0, y1⟩ := cellsW HXW.out
  go_wp2_with fail
  go_ret
  exact ⟨rfl, HB.out⟩
set_option maxHeartbeats 4000000 in
set_option maxRecDepth 100000 in
theorem so_17 (pa : Option Addr) (pn pc gt n : Nat) (tx : ByteArray) (nu : Int) (ka : Option Addr) (m kc : Nat) (w : World) : Calls Tryz.prog 101 #[.agg #[.slice pa pn pc, .slice (some ⟨gt, 0, none⟩) n n], .agg #[.int .i64 17, .string tx, .int .i64 nu, .slice ka m kc]] w fun e w' => e = .returned (.int .i64 (4)) ∧ Below w.heap.size w w' := by
  have HB0 := hid (belowA w (.cells #[.slice pa pn pc, .slice (some ⟨gt, 0, none⟩) n n] 125))
  have HX0 := hid (heap_alloc_new w (.cells #[.slice pa pn pc, .slice (some ⟨gt, 0, none⟩) n n] 125))
  go_enter Tryz.func101, Tryz.ntmps101
  go_upto_region 1 with (fail)
  generalize hY : w.alloc (.cells #[.slice pa pn pc, .slice (some ⟨gt, 0, none⟩) n n] 125) = Y at *
  have HS0 := hid (show Y.heap.size = w.heap.size + 1 by rw [← hY]; simp)
  clear hY
  have HB1 := hid (belowA Y (.cells #[.int .i64 17, .string tx, .int .i64 nu, .slice ka m kc] 31))
  have HX1 := hid (heap_alloc_new Y (.cells #[.int .i64 17, .string tx, .int .i64 nu, .slice ka m kc] 31))
  have HXW := hid ((HB1.out.block _ (lt_blk HX0.out)).trans HX0.out)
  generalize Y.alloc (.cells #[.int .i64 17, .string tx, .int .i64 nu, .slice ka m kc] 31) = V at *
  rw [HS0.out] at HX1
  have HB := hid (show Below w.heap.size w V from bchS HB0.out HB1.out)
  generalize hpb : w.heap.size + 1 = pb at *
  clear hpb
  have ⟨x0, x1, x2, x3⟩ := cells4 HX1.out
  have ⟨y0, y1⟩ := cellsW HXW.out
  go_wp2_with fail
  go_ret
  exact ⟨rfl, HB.out⟩
set_option maxHeartbeats 4000000 in
set_option maxRecDepth 100000 in
theorem so_else (pa : Option Addr) (pn pc gt n : Nat) (tx : ByteArray) (nu : Int) (ka : Option Addr) (m kc : Nat) (k : Int) (hk : k ≠ 11 ∧ k ≠ 14 ∧ k ≠ 15 ∧ k ≠ 12 ∧ k ≠ 18 ∧ k ≠ 19 ∧ k ≠ 20 ∧ k ≠ 16 ∧ k ≠ 17 ∧ k ≠ 13) (w : World) : Calls Tryz.prog 101 #[.agg #[.slice pa pn pc, .slice (some ⟨gt, 0, none⟩) n n], .agg #[.int .i64 k, .string tx, .int .i64 nu, .slice ka m kc]] w fun e w' => e = .returned (.int .i64 (1)) ∧ Below w.heap.size w w' := by
  obtain ⟨h0, h1, h2, h3, h4, h5, h6, h7, h8, h9⟩ := hk
  have e0 : (k == 11) = false := by simp; omega
  have e1 : (k == 14) = false := by simp; omega
  have e2 : (k == 15) = false := by simp; omega
  have e3 : (k == 12) = false := by simp; omega
  have e4 : (k == 18) = false := by simp; omega
  have e5 : (k == 19) = false := by simp; omega
  have e6 : (k == 20) = false := by simp; omega
  have e7 : (k == 16) = false := by simp; omega
  have e8 : (k == 17) = false := by simp; omega
  have e9 : (k == 13) = false := by simp; omega
  clear h0 h1 h2 h3 h4 h5 h6 h7 h8 h9
  have HB0 := hid (belowA w (.cells #[.slice pa pn pc, .slice (some ⟨gt, 0, none⟩) n n] 125))
  have HX0 := hid (heap_alloc_new w (.cells #[.slice pa pn pc, .slice (some ⟨gt, 0, none⟩) n n] 125))
  go_enter Tryz.func101, Tryz.ntmps101
  go_upto_region 1 with (fail)
  generalize hY : w.alloc (.cells #[.slice pa pn pc, .slice (some ⟨gt, 0, none⟩) n n] 125) = Y at *
  have HS0 := hid (show Y.heap.size = w.heap.size + 1 by rw [← hY]; simp)
  clear hY
  have HB1 := hid (belowA Y (.cells #[.int .i64 k, .string tx, .int .i64 nu, .slice ka m kc] 31))
  have HX1 := hid (heap_alloc_new Y (.cells #[.int .i64 k, .string tx, .int .i64 nu, .slice ka m kc] 31))
  have HXW := hid ((HB1.out.block _ (lt_blk HX0.out)).trans HX0.out)
  generalize Y.alloc (.cells #[.int .i64 k, .string tx, .int .i64 nu, .slice ka m kc] 31) = V at *
  rw [HS0.out] at HX1
  have HB := hid (show Below w.heap.size w V from bchS HB0.out HB1.out)
  generalize hpb : w.heap.size + 1 = pb at *
  clear hpb
  have ⟨x0, x1, x2, x3⟩ := cells4 HX1.out
  have ⟨y0, y1⟩ := cellsW HXW.out
  go_wp2_with fail
  go_ret
  exact ⟨rfl, HB.out⟩
set_option maxHeartbeats 4000000 in
set_option maxRecDepth 100000 in
theorem so_13n (pa : Option Addr) (pn pc gt n : Nat) (tx : ByteArray) (nu : Int) (ka : Option Addr) (m kc : Nat) (hm : m = 0) (w : World) : Calls Tryz.prog 101 #[.agg #[.slice pa pn pc, .slice (some ⟨gt, 0, none⟩) n n], .agg #[.int .i64 13, .string tx, .int .i64 nu, .slice ka m kc]] w fun e w' => e = .returned (.int .i64 (6)) ∧ Below w.heap.size w w' := by
  have hm0 : ((m : Int) == 0) = true := by simp; omega
  clear hm
  have HB0 := hid (belowA w (.cells #[.slice pa pn pc, .slice (some ⟨gt, 0, none⟩) n n] 125))
  have HX0 := hid (heap_alloc_new w (.cells #[.slice pa pn pc, .slice (some ⟨gt, 0, none⟩) n n] 125))
  go_enter Tryz.func101, Tryz.ntmps101
  go_upto_region 1 with (fail)
  generalize hY : w.alloc (.cells #[.slice pa pn pc, .slice (some ⟨gt, 0, none⟩) n n] 125) = Y at *
  have HS0 := hid (show Y.heap.size = w.heap.size + 1 by rw [← hY]; simp)
  clear hY
  have HB1 := hid (belowA Y (.cells #[.int .i64 13, .string tx, .int .i64 nu, .slice ka m kc] 31))
  have HX1 := hid (heap_alloc_new Y (.cells #[.int .i64 13, .string tx, .int .i64 nu, .slice ka m kc] 31))
  have HXW := hid ((HB1.out.block _ (lt_blk HX0.out)).trans HX0.out)
  generalize Y.alloc (.cells #[.int .i64 13, .string tx, .int .i64 nu, .slice ka m kc] 31) = V at *
  rw [HS0.out] at HX1
  have HB := hid (show Below w.heap.size w V from bchS HB0.out HB1.out)
  generalize hpb : w.heap.size + 1 = pb at *
  clear hpb
  have ⟨x0, x1, x2, x3⟩ := cells4 HX1.out
  have ⟨y0, y1⟩ := cellsW HXW.out
  go_wp2_with fail
  go_ret
  exact ⟨rfl, HB.out⟩
end Go.Proofs.YtimmjikpcekffaaGreatDoor.L
