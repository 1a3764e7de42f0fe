import Derived.Test.YtcldglilhhhdoaaGreatDoorPdC
namespace Go.Proofs.YtcldglilhhhdoaaGreatDoor.L
open Go.RowKit
set_option linter.unusedVariables false
set_option linter.unusedSimpArgs false
set_option maxHeartbeats 4000000 in
set_option maxRecDepth 100000 in
theorem bg_3_n_33 (src : ByteArray) (j : Nat) (t : ByteArray) (n : Int) (a : Option Addr) (m c : Nat) (w : World) (hj : j < src.size) (hs : src.size ≤ 4096) (hc : bt src j = 33) : Calls Tryz.prog 16 #[.string src, .agg #[.int .i64 3, .string t, .int .i64 n, .slice a m c], .int .i64 (j : Int)] w fun e w' => e = .returned (.bool true) ∧ Below w.heap.size w w' := by
  have HB := hid (belowA w (.cells #[.int .i64 3, .string t, .int .i64 n, .slice a m c] 46))
  have g1 : (j : Int) < (src.size : Int) := by omega
  have g0 : (0 : Int) ≤ (j : Int) := by omega
  have g2 : ¬ (j : Int) < 0 := by omega
  have g3 : ¬ (src.size : Int) ≤ (j : Int) := by omega
  have e1 : ((src[j]'hj).toNat : Int) = 33 := by rw [iv_get src j hj, hc]; rfl
  clear hc
  go_enter Tryz.func16, Tryz.ntmps16
  go_wp2
  go_ret
  exact ⟨rfl, HB.out⟩
set_option maxHeartbeats 4000000 in
set_option maxRecDepth 100000 in
theorem bg_4_n_38 (src : ByteArray) (j : Nat) (t : ByteArray) (n : Int) (a : Option Addr) (m c : Nat) (w : World) (hj : j < src.size) (hs : src.size ≤ 4096) (hc : bt src j = 38) : Calls Tryz.prog 16 #[.string src, .agg #[.int .i64 4, .string t, .int .i64 n, .slice a m c], .int .i64 (j : Int)] w fun e w' => e = .returned (.bool true) ∧ Below w.heap.size w w' := by
  have HB := hid (belowA w (.cells #[.int .i64 4, .string t, .int .i64 n, .slice a m c] 46))
  have g1 : (j : Int) < (src.size : Int) := by omega
  have g0 : (0 : Int) ≤ (j : Int) := by omega
  have g2 : ¬ (j : Int) < 0 := by omega
  have g3 : ¬ (src.size : Int) ≤ (j : Int) := by omega
  have e1 : ((src[j]'hj).toNat : Int) = 38 := by rw [iv_get src j hj, hc]; rfl
  clear hc
  go_enter Tryz.func16, Tryz.ntmps16
  go_wp2
  go_ret
  exact ⟨rfl, HB.out⟩
set_option maxHeartbeats 4000000 in
set_option maxRecDepth 100000 in
theorem bg_5_n_124 (src : ByteArray) (j : Nat) (t : ByteArray) (n : Int) (a : Option Addr) (m c : Nat) (w : World) (hj : j < src.size) (hs : src.size ≤ 4096) (hc : bt src j = 124) : Calls Tryz.prog 16 #[.string src, .agg #[.int .i64 5, .string t, .int .i64 n, .slice a m c], .int .i64 (j : Int)] w fun e w' => e = .returned (.bool true) ∧ Below w.heap.size w w' := by
  have HB := hid (belowA w (.cells #[.int .i64 5, .string t, .int .i64 n, .slice a m c] 46))
  have g1 : (j : Int) < (src.size : Int) := by omega
  have g0 : (0 : Int) ≤ (j : Int) := by omega
  have g2 : ¬ (j : Int) < 0 := by omega
  have g3 : ¬ (src.size : Int) ≤ (j : Int) := by omega
  have e1 : ((src[j]'hj).toNat : Int) = 124 := by rw [iv_get src j hj, hc]; rfl
  clear hc
  go_enter Tryz.func16, Tryz.ntmps16
  go_wp2
  go_ret
  exact ⟨rfl, HB.out⟩
set_option maxHeartbeats 4000000 in
set_option maxRecDepth 100000 in
theorem bg_13_n_123 (src : ByteArray) (j : Nat) (t : ByteArray) (n : Int) (a : Option Addr) (m c : Nat) (w : World) (hj : j < src.size) (hs : src.size ≤ 4096) (hc : bt src j = 123) : Calls Tryz.prog 16 #[.string src, .agg #[.int .i64 13, .string t, .int .i64 n, .slice a m c], .int .i64 (j : Int)] w fun e w' => e = .returned (.bool true) ∧ Below w.heap.size w w' := by
  have HB := hid (belowA w (.cells #[.int .i64 13, .string t, .int .i64 n, .slice a m c] 46))
  have g1 : (j : Int) < (src.size : Int) := by omega
  have g0 : (0 : Int) ≤ (j : Int) := by omega
  have g2 : ¬ (j : Int) < 0 := by omega
  have g3 : ¬ (src.size : Int) ≤ (j : Int) := by omega
  have e1 : ((src[j]'hj).toNat : Int) = 123 := by rw [iv_get src j hj, hc]; rfl
  clear hc
  go_enter Tryz.func16, Tryz.ntmps16
  go_wp2
  go_ret
  exact ⟨rfl, HB.out⟩
set_option maxHeartbeats 4000000 in
set_option maxRecDepth 100000 in
theorem bg_6_n_61 (src : ByteArray) (j : Nat) (t : ByteArray) (n : Int) (a : Option Addr) (m c : Nat) (w : World) (hj : j < src.size) (hs : src.size ≤ 4096) (hc : bt src j = 61) : Calls Tryz.prog 16 #[.string src, .agg #[.int .i64 6, .string t, .int .i64 n, .slice a m c], .int .i64 (j : Int)] w fun e w' => e = .returned (.bool true) ∧ Below w.heap.size w w' := by
  have HB := hid (belowA w (.cells #[.int .i64 6, .string t, .int .i64 n, .slice a m c] 46))
  have g1 : (j : Int) < (src.size : Int) := by omega
  have g0 : (0 : Int) ≤ (j : Int) := by omega
  have g2 : ¬ (j : Int) < 0 := by omega
  have g3 : ¬ (src.size : Int) ≤ (j : Int) := by omega
  have e1 : ((src[j]'hj).toNat : Int) = 61 := by rw [iv_get src j hj, hc]; rfl
  clear hc
  go_enter Tryz.func16, Tryz.ntmps16
  go_wp2
  go_ret
  exact ⟨rfl, HB.out⟩
set_option maxHeartbeats 4000000 in
set_option maxRecDepth 100000 in
theorem bg_6_n_33 (src : ByteArray) (j : Nat) (t : ByteArray) (n : Int) (a : Option Addr) (m c : Nat) (w : World) (hj : j < src.size) (hs : src.size ≤ 4096) (hc : bt src j = 33) : Calls Tryz.prog 16 #[.string src, .agg #[.int .i64 6, .string t, .int .i64 n, .slice a m c], .int .i64 (j : Int)] w fun e w' => e = .returned (.bool true) ∧ Below w.heap.size w w' := by
  have HB := hid (belowA w (.cells #[.int .i64 6, .string t, .int .i64 n, .slice a m c] 46))
  have g1 : (j : Int) < (src.size : Int) := by omega
  have g0 : (0 : Int) ≤ (j : Int) := by omega
  have g2 : ¬ (j : Int) < 0 := by omega
  have g3 : ¬ (src.size : Int) ≤ (j : Int) := by omega
  have e1 : ((src[j]'hj).toNat : Int) = 33 := by rw [iv_get src j hj, hc]; rfl
  clear hc
  go_enter Tryz.func16, Tryz.ntmps16
  go_wp2
  go_ret
  exact ⟨rfl, HB.out⟩
set_option maxHeartbeats 4000000 in
set_option maxRecDepth 100000 in
theorem bg_6_n_60 (src : ByteArray) (j : Nat) (t : ByteArray) (n : Int) (a : Option Addr) (m c : Nat) (w : World) (hj : j < src.size) (hs : src.size ≤ 4096) (hc : bt src j = 60) : Calls Tryz.prog 16 #[.string src, .agg #[.int .i64 6, .string t, .int .i64 n, .slice a m c], .int .i64 (j : Int)] w fun e w' => e = .returned (.bool true) ∧ Below w.heap.size w w' := by
  have HB := hid (belowA w (.cells #[.int .i64 6, .string t, .int .i64 n, .slice a m c] 46))
  have g1 : (j : Int) < (src.size : Int) := by omega
  have g0 : (0 : Int) ≤ (j : Int) := by omega
  have g2 : ¬ (j : Int) < 0 := by omega
  have g3 : ¬ (src.size : Int) ≤ (j : Int) := by omega
  have e1 : ((src[j]'hj).toNat : Int) = 60 := by rw [iv_get src j hj, hc]; rfl
  clear hc
  go_enter Tryz.func16, Tryz.ntmps16
  go_wp2
  go_ret
  exact ⟨rfl, HB.out⟩
set_option maxHeartbeats 4000000 in
set_option maxRecDepth 100000 in
theorem bg_6_n_62 (src : ByteArray) (j : Nat) (t : ByteArray) (n : Int) (a : Option Addr) (m c : Nat) (w : World) (hj : j < src.size) (hs : src.size ≤ 4096) (hc : bt src j = 62) : Calls Tryz.prog 16 #[.string src, .agg #[.int .i64 6, .string t, .int .i64 n, .slice a m c], .int .i64 (j : Int)] w fun e w' => e = .returned (.bool true) ∧ Below w.heap.size w w' := by
  have HB := hid (belowA w (.cells #[.int .i64 6, .string t, .int .i64 n, .slice a m c] 46))
  have g1 : (j : Int) < (src.size : Int) := by omega
  have g0 : (0 : Int) ≤ (j : Int) := by omega
  have g2 : ¬ (j : Int) < 0 := by omega
  have g3 : ¬ (src.size : Int) ≤ (j : Int) := by omega
  have e1 : ((src[j]'hj).toNat : Int) = 62 := by rw [iv_get src j hj, hc]; rfl
  clear hc
  go_enter Tryz.func16, Tryz.ntmps16
  go_wp2
  go_ret
  exact ⟨rfl, HB.out⟩
set_option maxHeartbeats 4000000 in
set_option maxRecDepth 100000 in
theorem bg_11_n_34 (src : ByteArray) (j : Nat) (t : ByteArray) (n : Int) (a : Option Addr) (m c : Nat) (w : World) (hj : j < src.size) (hs : src.size ≤ 4096) (hc : bt src j = 34) : Calls Tryz.prog 16 #[.string src, .agg #[.int .i64 11, .string t, .int .i64 n, .slice a m c], .int .i64 (j : Int)] w fun e w' => e = .returned (.bool true) ∧ Below w.heap.size w w' := by
  have HB := hid (belowA w (.cells #[.int .i64 11, .string t, .int .i64 n, .slice a m c] 46))
  have g1 : (j : Int) < (src.size : Int) := by omega
  have g0 : (0 : Int) ≤ (j : Int) := by omega
  have g2 : ¬ (j : Int) < 0 := by omega
  have g3 : ¬ (src.size : Int) ≤ (j : Int) := by omega
  have e1 : ((src[j]'hj).toNat : Int) = 34 := by rw [iv_get src j hj, hc]; rfl
  clear hc
  go_enter Tryz.func16, Tryz.ntmps16
  go_wp2
  go_ret
  exact ⟨rfl, HB.out⟩
set_option maxHeartbeats 4000000 in
set_option maxRecDepth 100000 in
theorem bg_12_n_45 (src : ByteArray) (j : Nat) (t : ByteArray) (n : Int) (a : Option Addr) (m c : Nat) (w : World) (hj : j < src.size) (hs : src.size ≤ 4096) (hc : bt src j = 45) : Calls Tryz.prog 16 #[.string src, .agg #[.int .i64 12, .string t, .int .i64 n, .slice a m c], .int .i64 (j : Int)] w fun e w' => e = .returned (.bool true) ∧ Below w.heap.size w w' := by
  have HB := hid (belowA w (.cells #[.int .i64 12, .string t, .int .i64 n, .slice a m c] 46))
  have g1 : (j : Int) < (src.size : Int) := by omega
  have g0 : (0 : Int) ≤ (j : Int) := by omega
  have g2 : ¬ (j : Int) < 0 := by omega
  have g3 : ¬ (src.size : Int) ≤ (j : Int) := by omega
  have e1 : ((src[j]'hj).toNat : Int) = 45 := by rw [iv_get src j hj, hc]; rfl
  clear hc
  go_enter Tryz.func16, Tryz.ntmps16
  go_wp2
  go_ret
  exact ⟨rfl, HB.out⟩
set_option maxHeartbeats 4000000 in
set_option maxRecDepth 100000 in
theorem bg_12_n_d (src : ByteArray) (j : Nat) (t : ByteArray) (n : Int) (a : Option Addr) (m c : Nat) (w : World) (hj : j < src.size) (hs : src.size ≤ 4096) (hc : digB (iv (bt src j)) = true) : Calls Tryz.prog 16 #[.string src, .agg #[.int .i64 12, .string t, .int .i64 n, .slice a m c], .int .i64 (j : Int)] w fun e w' => e = .returned (.bool true) ∧ Below w.heap.size w w' := by
  have HB := hid (belowA w (.cells #[.int .i64 12, .string t, .int .i64 n, .slice a m c] 46))
  have g1 : (j : Int) < (src.size : Int) := by omega
  have g0 : (0 : Int) ≤ (j : Int) := by omega
  have g2 : ¬ (j : Int) < 0 := by omega
  have g3 : ¬ (src.size : Int) ≤ (j : Int) := by omega
  have h48 : (48 : Int) ≤ iv (bt src j) ∧ iv (bt src j) ≤ 57 := by unfold digB at hc; simpa using hc
  rw [← iv_get src j hj] at h48
  obtain ⟨h1, h2⟩ := h48
  have d1 : ((((src[j]'hj).toNat : Nat) : Int) == 45) = false := by simp; omega
  have d2 : decide ((48 : Int) ≤ (((src[j]'hj).toNat : Nat) : Int)) = true := by simp; omega
  have d3 : decide ((((src[j]'hj).toNat : Nat) : Int) ≤ 57) = true := by simp; omega
  clear hc
  go_enter Tryz.func16, Tryz.ntmps16
  go_wp2
  go_ret
  exact ⟨rfl, HB.out⟩
set_option maxHeartbeats 4000000 in
set_option maxRecDepth 100000 in
theorem bg_7_0_105 (src : ByteArray) (j : Nat) (t : ByteArray) (a : Option Addr) (m c : Nat) (w : World) (hj : j < src.size) (hs : src.size ≤ 4096) (hc : bt src j = 105) : Calls Tryz.prog 16 #[.string src, .agg #[.int .i64 7, .string t, .int .i64 0, .slice a m c], .int .i64 (j : Int)] w fun e w' => e = .returned (.bool true) ∧ Below w.heap.size w w' := by
  have HB := hid (belowA w (.cells #[.int .i64 7, .string t, .int .i64 0, .slice a m c] 46))
  have g1 : (j : Int) < (src.size : Int) := by omega
  have g0 : (0 : Int) ≤ (j : Int) := by omega
  have g2 : ¬ (j : Int) < 0 := by omega
  have g3 : ¬ (src.size : Int) ≤ (j : Int) := by omega
  have e1 : ((src[j]'hj).toNat : Int) = 105 := by rw [iv_get src j hj, hc]; rfl
  clear hc
  go_enter Tryz.func16, Tryz.ntmps16
  go_wp2
  go_ret
  exact ⟨rfl, HB.out⟩
set_option maxHeartbeats 4000000 in
set_option maxRecDepth 100000 in
theorem bg_7_1_110 (src : ByteArray) (j : Nat) (t : ByteArray) (a : Option Addr) (m c : Nat) (w : World) (hj : j < src.size) (hs : src.size ≤ 4096) (hc : bt src j = 110) : Calls Tryz.prog 16 #[.string src, .agg #[.int .i64 7, .string t, .int .i64 1, .slice a m c], .int .i64 (j : Int)] w fun e w' => e = .returned (.bool true) ∧ Below w.heap.size w w' := by
  have HB := hid (belowA w (.cells #[.int .i64 7, .string t, .int .i64 1, .slice a m c] 46))
  have g1 : (j : Int) < (src.size : Int) := by omega
  have g0 : (0 : Int) ≤ (j : Int) := by omega
  have g2 : ¬ (j : Int) < 0 := by omega
  have g3 : ¬ (src.size : Int) ≤ (j : Int) := by omega
  have e1 : ((src[j]'hj).toNat : Int) = 110 := by rw [iv_get src j hj, hc]; rfl
  clear hc
  go_enter Tryz.func16, Tryz.ntmps16
  go_wp2
  go_ret
  exact ⟨rfl, HB.out⟩
set_option maxHeartbeats 4000000 in
set_option maxRecDepth 100000 in
theorem bg_1_n_116 (src : ByteArray) (j : Nat) (t : ByteArray) (n : Int) (a : Option Addr) (m c : Nat) (w : World) (hj : j < src.size) (hs : src.size ≤ 4096) (hc : bt src j = 116) : Calls Tryz.prog 16 #[.string src, .agg #[.int .i64 1, .string t, .int .i64 n, .slice a m c], .int .i64 (j : Int)] w fun e w' => e = .returned (.bool true) ∧ Below w.heap.size w w' := by
  have HB := hid (belowA w (.cells #[.int .i64 1, .string t, .int .i64 n, .slice a m c] 46))
  have g1 : (j : Int) < (src.size : Int) := by omega
  have g0 : (0 : Int) ≤ (j : Int) := by omega
  have g2 : ¬ (j : Int) < 0 := by omega
  have g3 : ¬ (src.size : Int) ≤ (j : Int) := by omega
  have e1 : ((src[j]'hj).toNat : Int) = 116 := by rw [iv_get src j hj, hc]; rfl
  clear hc
  go_enter Tryz.func16, Tryz.ntmps16
  go_wp2
  go_ret
  exact ⟨rfl, HB.out⟩
set_option maxHeartbeats 4000000 in
set_option maxRecDepth 100000 in
theorem bg_2_n_102 (src : ByteArray) (j : Nat) (t : ByteArray) (n : Int) (a : Option Addr) (m c : Nat) (w : World) (hj : j < src.size) (hs : src.size ≤ 4096) (hc : bt src j = 102) : Calls Tryz.prog 16 #[.string src, .agg #[.int .i64 2, .string t, .int .i64 n, .slice a m c], .int .i64 (j : Int)] w fun e w' => e = .returned (.bool true) ∧ Below w.heap.size w w' := by
  have HB := hid (belowA w (.cells #[.int .i64 2, .string t, .int .i64 n, .slice a m c] 46))
  have g1 : (j : Int) < (src.size : Int) := by omega
  have g0 : (0 : Int) ≤ (j : Int) := by omega
  have g2 : ¬ (j : Int) < 0 := by omega
  have g3 : ¬ (src.size : Int) ≤ (j : Int) := by omega
  have e1 : ((src[j]'hj).toNat : Int) = 102 := by rw [iv_get src j hj, hc]; rfl
  clear hc
  go_enter Tryz.func16, Tryz.ntmps16
  go_wp2
  go_ret
  exact ⟨rfl, HB.out⟩
set_option maxHeartbeats 4000000 in
set_option maxRecDepth 100000 in
theorem bg_8_n_110 (src : ByteArray) (j : Nat) (t : ByteArray) (n : Int) (a : Option Addr) (m c : Nat) (w : World) (hj : j < src.size) (hs : src.size ≤ 4096) (hc : bt src j = 110) : Calls Tryz.prog 16 #[.string src, .agg #[.int .i64 8, .string t, .int .i64 n, .slice a m c], .int .i64 (j : Int)] w fun e w' => e = .returned (.bool true) ∧ Below w.heap.size w w' := by
  have HB := hid (belowA w (.cells #[.int .i64 8, .string t, .int .i64 n, .slice a m c] 46))
  have g1 : (j : Int) < (src.size : Int) := by omega
  have g0 : (0 : Int) ≤ (j : Int) := by omega
  have g2 : ¬ (j : Int) < 0 := by omega
  have g3 : ¬ (src.size : Int) ≤ (j : Int) := by omega
  have e1 : ((src[j]'hj).toNat : Int) = 110 := by rw [iv_get src j hj, hc]; rfl
  clear hc
  go_enter Tryz.func16, Tryz.ntmps16
  go_wp2
  go_ret
  exact ⟨rfl, HB.out⟩
set_option maxHeartbeats 4000000 in
set_option maxRecDepth 100000 in
theorem bg_9_n_97 (src : ByteArray) (j : Nat) (t : ByteArray) (n : Int) (a : Option Addr) (m c : Nat) (w : World) (hj : j < src.size) (hs : src.size ≤ 4096) (hc : bt src j = 97) : Calls Tryz.prog 16 #[.string src, .agg #[.int .i64 9, .string t, .int .i64 n, .slice a m c], .int .i64 (j : Int)] w fun e w' => e = .returned (.bool true) ∧ Below w.heap.size w w' := by
  have HB := hid (belowA w (.cells #[.int .i64 9, .string t, .int .i64 n, .slice a m c] 46))
  have g1 : (j : Int) < (src.size : Int) := by omega
  have g0 : (0 : Int) ≤ (j : Int) := by omega
  have g2 : ¬ (j : Int) < 0 := by omega
  have g3 : ¬ (src.size : Int) ≤ (j : Int) := by omega
  have e1 : ((src[j]'hj).toNat : Int) = 97 := by rw [iv_get src j hj, hc]; rfl
  clear hc
  go_enter Tryz.func16, Tryz.ntmps16
  go_wp2
  go_ret
  exact ⟨rfl, HB.out⟩
set_option maxHeartbeats 4000000 in
set_option maxRecDepth 100000 in
theorem bg_10_n_116 (src : ByteArray) (j : Nat) (t : ByteArray) (n : Int) (a : Option Addr) (m c : Nat) (w : World) (hj : j < src.size) (hs : src.size ≤ 4096) (hc : bt src j = 116) : Calls Tryz.prog 16 #[.string src, .agg #[.int .i64 10, .string t, .int .i64 n, .slice a m c], .int .i64 (j : Int)] w fun e w' => e = .returned (.bool true) ∧ Below w.heap.size w w' := by
  have HB := hid (belowA w (.cells #[.int .i64 10, .string t, .int .i64 n, .slice a m c] 46))
  have g1 : (j : Int) < (src.size : Int) := by omega
  have g0 : (0 : Int) ≤ (j : Int) := by omega
  have g2 : ¬ (j : Int) < 0 := by omega
  have g3 : ¬ (src.size : Int) ≤ (j : Int) := by omega
  have e1 : ((src[j]'hj).toNat : Int) = 116 := by rw [iv_get src j hj, hc]; rfl
  clear hc
  go_enter Tryz.func16, Tryz.ntmps16
  go_wp2
  go_ret
  exact ⟨rfl, HB.out⟩
set_option maxHeartbeats 4000000 in
set_option maxRecDepth 100000 in
theorem bg_19_n_105 (src : ByteArray) (j : Nat) (t : ByteArray) (n : Int) (a : Option Addr) (m c : Nat) (w : World) (hj : j < src.size) (hs : src.size ≤ 4096) (hc : bt src j = 105) : Calls Tryz.prog 16 #[.string src, .agg #[.int .i64 19, .string t, .int .i64 n, .slice a m c], .int .i64 (j : Int)] w fun e w' => e = .returned (.bool true) ∧ Below w.heap.size w w' := by
  have HB := hid (belowA w (.cells #[.int .i64 19, .string t, .int .i64 n, .slice a m c] 46))
  have g1 : (j : Int) < (src.size : Int) := by omega
  have g0 : (0 : Int) ≤ (j : Int) := by omega
  have g2 : ¬ (j : Int) < 0 := by omega
  have g3 : ¬ (src.size : Int) ≤ (j : Int) := by omega
  have e1 : ((src[j]'hj).toNat : Int) = 105 := by rw [iv_get src j hj, hc]; rfl
  clear hc
  go_enter Tryz.func16, Tryz.ntmps16
  go_wp2
  go_ret
  exact ⟨rfl, HB.out⟩
set_option maxHeartbeats 4000000 in
set_option maxRecDepth 100000 in
theorem bg_20_n_99 (src : ByteArray) (j : Nat) (t : ByteArray) (n : Int) (a : Option Addr) (m c : Nat) (w : World) (hj : j < src.size) (hs : src.size ≤ 4096) (hc : bt src j = 99) : Calls Tryz.prog 16 #[.string src, .agg #[.int .i64 20, .string t, .int .i64 n, .slice a m c], .int .i64 (j : Int)] w fun e w' => e = .returned (.bool true) ∧ Below w.heap.size w w' := by
  have HB := hid (belowA w (.cells #[.int .i64 20, .string t, .int .i64 n, .slice a m c] 46))
  have g1 : (j : Int) < (src.size : Int) := by omega
  have g0 : (0 : Int) ≤ (j : Int) := by omega
  have g2 : ¬ (j : Int) < 0 := by omega
  have g3 : ¬ (src.size : Int) ≤ (j : Int) := by omega
  have e1 : ((src[j]'hj).toNat : Int) = 99 := by rw [iv_get src j hj, hc]; rfl
  clear hc
  go_enter Tryz.func16, Tryz.ntmps16
  go_wp2
  go_ret
  exact ⟨rfl, HB.out⟩
set_option maxHeartbeats 4000000 in
set_option maxRecDepth 100000 in
theorem bg_14_2_110 (src : ByteArray) (j : Nat) (t : ByteArray) (a : Option Addr) (m c : Nat) (w : World) (hj : j < src.size) (hs : src.size ≤ 4096) (hc : bt src j = 110) : Calls Tryz.prog 16 #[.string src, .agg #[.int .i64 14, .string t, .int .i64 2, .slice a m c], .int .i64 (j : Int)] w fun e w' => e = .returned (.bool true) ∧ Below w.heap.size w w' := by
  have HB := hid (belowA w (.cells #[.int .i64 14, .string t, .int .i64 2, .slice a m c] 46))
  have g1 : (j : Int) < (src.size : Int) := by omega
  have g0 : (0 : Int) ≤ (j : Int) := by omega
  have g2 : ¬ (j : Int) < 0 := by omega
  have g3 : ¬ (src.size : Int) ≤ (j : Int) := by omega
  have e1 : ((src[j]'hj).toNat : Int) = 110 := by rw [iv_get src j hj, hc]; rfl
  clear hc
  go_enter Tryz.func16, Tryz.ntmps16
  go_wp2
  go_ret
  exact ⟨rfl, HB.out⟩
set_option maxHeartbeats 4000000 in
set_option maxRecDepth 100000 in
theorem bg_14_1_112 (src : ByteArray) (j : Nat) (t : ByteArray) (a : Option Addr) (m c : Nat) (w : World) (hj : j < src.size) (hs : src.size ≤ 4096) (hc : bt src j = 112) : Calls Tryz.prog 16 #[.string src, .agg #[.int .i64 14, .string t, .int .i64 1, .slice a m c], .int .i64 (j : Int)] w fun e w' => e = .returned (.bool true) ∧ Below w.heap.size w w' := by
  have HB := hid (belowA w (.cells #[.int .i64 14, .string t, .int .i64 1, .slice a m c] 46))
  have g1 : (j : Int) < (src.size : Int) := by omega
  have g0 : (0 : Int) ≤ (j : Int) := by omega
  have g2 : ¬ (j : Int) < 0 := by omega
  have g3 : ¬ (src.size : Int) ≤ (j : Int) := by omega
  have e1 : ((src[j]'hj).toNat : Int) = 112 := by rw [iv_get src j hj, hc]; rfl
  clear hc
  go_enter Tryz.func16, Tryz.ntmps16
  go_wp2
  go_ret
  exact ⟨rfl, HB.out⟩
set_option maxHeartbeats 4000000 in
set_option maxRecDepth 100000 in
theorem bg_14_3_105 (src : ByteArray) (j : Nat) (t : ByteArray) (a : Option Addr) (m c : Nat) (w : World) (hj : j < src.size) (hs : src.size ≤ 4096) (hc : bt src j = 105) : Calls Tryz.prog 16 #[.string src, .agg #[.int .i64 14, .string t, .int .i64 3, .slice a m c], .int .i64 (j : Int)] w fun e w' => e = .returned (.bool true) ∧ Below w.heap.size w w' := by
  have HB := hid (belowA w (.cells #[.int .i64 14, .string t, .int .i64 3, .slice a m c] 46))
  have g1 : (j : Int) < (src.size : Int) := by omega
  have g0 : (0 : Int) ≤ (j : Int) := by omega
  have g2 : ¬ (j : Int) < 0 := by omega
  have g3 : ¬ (src.size : Int) ≤ (j : Int) := by omega
  have e1 : ((src[j]'hj).toNat : Int) = 105 := by rw [iv_get src j hj, hc]; rfl
  clear hc
  go_enter Tryz.func16, Tryz.ntmps16
  go_wp2
  go_ret
  exact ⟨rfl, HB.out⟩
set_option maxHeartbeats 4000000 in
set_option maxRecDepth 100000 in
theorem bg_15_2_110 (src : ByteArray) (j : Nat) (t : ByteArray) (a : Option Addr) (m c : Nat) (w : World) (hj : j < src.size) (hs : src.size ≤ 4096) (hc : bt src j = 110) : Calls Tryz.prog 16 #[.string src, .agg #[.int .i64 15, .string t, .int .i64 2, .slice a m c], .int .i64 (j : Int)] w fun e w' => e = .returned (.bool true) ∧ Below w.heap.size w w' := by
  have HB := hid (belowA w (.cells #[.int .i64 15, .string t, .int .i64 2, .slice a m c] 46))
  have g1 : (j : Int) < (src.size : Int) := by omega
  have g0 : (0 : Int) ≤ (j : Int) := by omega
  have g2 : ¬ (j : Int) < 0 := by omega
  have g3 : ¬ (src.size : Int) ≤ (j : Int) := by omega
  have e1 : ((src[j]'hj).toNat : Int) = 110 := by rw [iv_get src j hj, hc]; rfl
  clear hc
  go_enter Tryz.func16, Tryz.ntmps16
  go_wp2
  go_ret
  exact ⟨rfl, HB.out⟩
set_option maxHeartbeats 4000000 in
set_option maxRecDepth 100000 in
theorem bg_15_1_112 (src : ByteArray) (j : Nat) (t : ByteArray) (a : Option Addr) (m c : Nat) (w : World) (hj : j < src.size) (hs : src.size ≤ 4096) (hc : bt src j = 112) : Calls Tryz.prog 16 #[.string src, .agg #[.int .i64 15, .string t, .int .i64 1, .slice a m c], .int .i64 (j : Int)] w fun e w' => e = .returned (.bool true) ∧ Below w.heap.size w w' := by
  have HB := hid (belowA w (.cells #[.int .i64 15, .string t, .int .i64 1, .slice a m c] 46))
  have g1 : (j : Int) < (src.size : Int) := by omega
  have g0 : (0 : Int) ≤ (j : Int) := by omega
  have g2 : ¬ (j : Int) < 0 := by omega
  have g3 : ¬ (src.size : Int) ≤ (j : Int) := by omega
  have e1 : ((src[j]'hj).toNat : Int) = 112 := by rw [iv_get src j hj, hc]; rfl
  clear hc
  go_enter Tryz.func16, Tryz.ntmps16
  go_wp2
  go_ret
  exact ⟨rfl, HB.out⟩
set_option maxHeartbeats 4000000 in
set_option maxRecDepth 100000 in
theorem bg_15_3_105 (src : ByteArray) (j : Nat) (t : ByteArray) (a : Option Addr) (m c : Nat) (w : World) (hj : j < src.size) (hs : src.size ≤ 4096) (hc : bt src j = 105) : Calls Tryz.prog 16 #[.string src, .agg #[.int .i64 15, .string t, .int .i64 3, .slice a m c], .int .i64 (j : Int)] w fun e w' => e = .returned (.bool true) ∧ Below w.heap.size w w' := by
  have HB := hid (belowA w (.cells #[.int .i64 15, .string t, .int .i64 3, .slice a m c] 46))
  have g1 : (j : Int) < (src.size : Int) := by omega
  have g0 : (0 : Int) ≤ (j : Int) := by omega
  have g2 : ¬ (j : Int) < 0 := by omega
  have g3 : ¬ (src.size : Int) ≤ (j : Int) := by omega
  have e1 : ((src[j]'hj).toNat : Int) = 105 := by rw [iv_get src j hj, hc]; rfl
  clear hc
  go_enter Tryz.func16, Tryz.ntmps16
  go_wp2
  go_ret
  exact ⟨rfl, HB.out⟩
set_option maxHeartbeats 4000000 in
set_option maxRecDepth 100000 in
theorem bg_16_2_110 (src : ByteArray) (j : Nat) (t : ByteArray) (a : Option Addr) (m c : Nat) (w : World) (hj : j < src.size) (hs : src.size ≤ 4096) (hc : bt src j = 110) : Calls Tryz.prog 16 #[.string src, .agg #[.int .i64 16, .string t, .int .i64 2, .slice a m c], .int .i64 (j : Int)] w fun e w' => e = .returned (.bool true) ∧ Below w.heap.size w w' := by
  have HB := hid (belowA w (.cells #[.int .i64 16, .string t, .int .i64 2, .slice a m c] 46))
  have g1 : (j : Int) < (src.size : Int) := by omega
  have g0 : (0 : Int) ≤ (j : Int) := by omega
  have g2 : ¬ (j : Int) < 0 := by omega
  have g3 : ¬ (src.size : Int) ≤ (j : Int) := by omega
  have e1 : ((src[j]'hj).toNat : Int) = 110 := by rw [iv_get src j hj, hc]; rfl
  clear hc
  go_enter Tryz.func16, Tryz.ntmps16
  go_wp2
  go_ret
  exact ⟨rfl, HB.out⟩
set_option maxHeartbeats 4000000 in
set_option maxRecDepth 100000 in
theorem bg_16_1_112 (src : ByteArray) (j : Nat) (t : ByteArray) (a : Option Addr) (m c : Nat) (w : World) (hj : j < src.size) (hs : src.size ≤ 4096) (hc : bt src j = 112) : Calls Tryz.prog 16 #[.string src, .agg #[.int .i64 16, .string t, .int .i64 1, .slice a m c], .int .i64 (j : Int)] w fun e w' => e = .returned (.bool true) ∧ Below w.heap.size w w' := by
  have HB := hid (belowA w (.cells #[.int .i64 16, .string t, .int .i64 1, .slice a m c] 46))
  have g1 : (j : Int) < (src.size : Int) := by omega
  have g0 : (0 : Int) ≤ (j : Int) := by omega
  have g2 : ¬ (j : Int) < 0 := by omega
  have g3 : ¬ (src.size : Int) ≤ (j : Int) := by omega
  have e1 : ((src[j]'hj).toNat : Int) = 112 := by rw [iv_get src j hj, hc]; rfl
  clear hc
  go_enter Tryz.func16, Tryz.ntmps16
  go_wp2
  go_ret
  exact ⟨rfl, HB.out⟩
set_option maxHeartbeats 4000000 in
set_option maxRecDepth 100000 in
theorem bg_16_3_105 (src : ByteArray) (j : Nat) (t : ByteArray) (a : Option Addr) (m c : Nat) (w : World) (hj : j < src.size) (hs : src.size ≤ 4096) (hc : bt src j = 105) : Calls Tryz.prog 16 #[.string src, .agg #[.int .i64 16, .string t, .int .i64 3, .slice a m c], .int .i64 (j : Int)] w fun e w' => e = .returned (.bool true) ∧ Below w.heap.size w w' := by
  have HB := hid (belowA w (.cells #[.int .i64 16, .string t, .int .i64 3, .slice a m c] 46))
  have g1 : (j : Int) < (src.size : Int) := by omega
  have g0 : (0 : Int) ≤ (j : Int) := by omega
  have g2 : ¬ (j : Int) < 0 := by omega
  have g3 : ¬ (src.size : Int) ≤ (j : Int) := by omega
  have e1 : ((src[j]'hj).toNat : Int) = 105 := by rw [iv_get src j hj, hc]; rfl
  clear hc
  go_enter Tryz.func16, Tryz.ntmps16
  go_wp2
  go_ret
  exact ⟨rfl, HB.out⟩
set_option maxHeartbeats 4000000 in
set_option maxRecDepth 100000 in
theorem bg_17_2_110 (src : ByteArray) (j : Nat) (t : ByteArray) (a : Option Addr) (m c : Nat) (w : World) (hj : j < src.size) (hs : src.size ≤ 4096) (hc : bt src j = 110) : Calls Tryz.prog 16 #[.string src, .agg #[.int .i64 17, .string t, .int .i64 2, .slice a m c], .int .i64 (j : Int)] w fun e w' => e = .returned (.bool true) ∧ Below w.heap.size w w' := by
  have HB := hid (belowA w (.cells #[.int .i64 17, .string t, .int .i64 2, .slice a m c] 46))
  have g1 : (j : Int) < (src.size : Int) := by omega
  have g0 : (0 : Int) ≤ (j : Int) := by omega
  have g2 : ¬ (j : Int) < 0 := by omega
  have g3 : ¬ (src.size : Int) ≤ (j : Int) := by omega
  have e1 : ((src[j]'hj).toNat : Int) = 110 := by rw [iv_get src j hj, hc]; rfl
  clear hc
  go_enter Tryz.func16, Tryz.ntmps16
  go_wp2
  go_ret
  exact ⟨rfl, HB.out⟩
set_option maxHeartbeats 4000000 in
set_option maxRecDepth 100000 in
theorem bg_17_1_112 (src : ByteArray) (j : Nat) (t : ByteArray) (a : Option Addr) (m c : Nat) (w : World) (hj : j < src.size) (hs : src.size ≤ 4096) (hc : bt src j = 112) : Calls Tryz.prog 16 #[.string src, .agg #[.int .i64 17, .string t, .int .i64 1, .slice a m c], .int .i64 (j : Int)] w fun e w' => e = .returned (.bool true) ∧ Below w.heap.size w w' := by
  have HB := hid (belowA w (.cells #[.int .i64 17, .string t, .int .i64 1, .slice a m c] 46))
  have g1 : (j : Int) < (src.size : Int) := by omega
  have g0 : (0 : Int) ≤ (j : Int) := by omega
  have g2 : ¬ (j : Int) < 0 := by omega
  have g3 : ¬ (src.size : Int) ≤ (j : Int) := by omega
  have e1 : ((src[j]'hj).toNat : Int) = 112 := by rw [iv_get src j hj, hc]; rfl
  clear hc
  go_enter Tryz.func16, Tryz.ntmps16
  go_wp2
  go_ret
  exact ⟨rfl, HB.out⟩
set_option maxHeartbeats 4000000 in
set_option maxRecDepth 100000 in
theorem bg_17_3_105 (src : ByteArray) (j : Nat) (t : ByteArray) (a : Option Addr) (m c : Nat) (w : World) (hj : j < src.size) (hs : src.size ≤ 4096) (hc : bt src j = 105) : Calls Tryz.prog 16 #[.string src, .agg #[.int .i64 17, .string t, .int .i64 3, .slice a m c], .int .i64 (j : Int)] w fun e w' => e = .returned (.bool true) ∧ Below w.heap.size w w' := by
  have HB := hid (belowA w (.cells #[.int .i64 17, .string t, .int .i64 3, .slice a m c] 46))
  have g1 : (j : Int) < (src.size : Int) := by omega
  have g0 : (0 : Int) ≤ (j : Int) := by omega
  have g2 : ¬ (j : Int) < 0 := by omega
  have g3 : ¬ (src.size : Int) ≤ (j : Int) := by omega
  have e1 : ((src[j]'hj).toNat : Int) = 105 := by rw [iv_get src j hj, hc]; rfl
  clear hc
  go_enter Tryz.func16, Tryz.ntmps16
  go_wp2
  go_ret
  exact ⟨rfl, HB.out⟩
set_option maxHeartbeats 4000000 in
set_option maxRecDepth 100000 in
theorem bg_18_2_110 (src : ByteArray) (j : Nat) (t : ByteArray) (a : Option Addr) (m c : Nat) (w : World) (hj : j < src.size) (hs : src.size ≤ 4096) (hc : bt src j = 110) : Calls Tryz.prog 16 #[.string src, .agg #[.int .i64 18, .string t, .int .i64 2, .slice a m c], .int .i64 (j : Int)] w fun e w' => e = .returned (.bool true) ∧ Below w.heap.size w w' := by
  have HB := hid (belowA w (.cells #[.int .i64 18, .string t, .int .i64 2, .slice a m c] 46))
  have g1 : (j : Int) < (src.size : Int) := by omega
  have g0 : (0 : Int) ≤ (j : Int) := by omega
  have g2 : ¬ (j : Int) < 0 := by omega
  have g3 : ¬ (src.size : Int) ≤ (j : Int) := by omega
  have e1 : ((src[j]'hj).toNat : Int) = 110 := by rw [iv_get src j hj, hc]; rfl
  clear hc
  go_enter Tryz.func16, Tryz.ntmps16
  go_wp2
  go_ret
  exact ⟨rfl, HB.out⟩
set_option maxHeartbeats 4000000 in
set_option maxRecDepth 100000 in
theorem bg_18_1_112 (src : ByteArray) (j : Nat) (t : ByteArray) (a : Option Addr) (m c : Nat) (w : World) (hj : j < src.size) (hs : src.size ≤ 4096) (hc : bt src j = 112) : Calls Tryz.prog 16 #[.string src, .agg #[.int .i64 18, .string t, .int .i64 1, .slice a m c], .int .i64 (j : Int)] w fun e w' => e = .returned (.bool true) ∧ Below w.heap.size w w' := by
  have HB := hid (belowA w (.cells #[.int .i64 18, .string t, .int .i64 1, .slice a m c] 46))
  have g1 : (j : Int) < (src.size : Int) := by omega
  have g0 : (0 : Int) ≤ (j : Int) := by omega
  have g2 : ¬ (j : Int) < 0 := by omega
  have g3 : ¬ (src.size : Int) ≤ (j : Int) := by omega
  have e1 : ((src[j]'hj).toNat : Int) = 112 := by rw [iv_get src j hj, hc]; rfl
  clear hc
  go_enter Tryz.func16, Tryz.ntmps16
  go_wp2
  go_ret
  exact ⟨rfl, HB.out⟩
set_option maxHeartbeats 4000000 in
set_option maxRecDepth 100000 in
theorem bg_18_3_105 (src : ByteArray) (j : Nat) (t : ByteArray) (a : Option Addr) (m c : Nat) (w : World) (hj : j < src.size) (hs : src.size ≤ 4096) (hc : bt src j = 105) : Calls Tryz.prog 16 #[.string src, .agg #[.int .i64 18, .string t, .int .i64 3, .slice a m c], .int .i64 (j : Int)] w fun e w' => e = .returned (.bool true) ∧ Below w.heap.size w w' := by
  have HB := hid (belowA w (.cells #[.int .i64 18, .string t, .int .i64 3, .slice a m c] 46))
  have g1 : (j : Int) < (src.size : Int) := by omega
  have g0 : (0 : Int) ≤ (j : Int) := by omega
  have g2 : ¬ (j : Int) < 0 := by omega
  have g3 : ¬ (src.size : Int) ≤ (j : Int) := by omega
  have e1 : ((src[j]'hj).toNat : Int) = 105 := by rw [iv_get src j hj, hc]; rfl
  clear hc
  go_enter Tryz.func16, Tryz.ntmps16
  go_wp2
  go_ret
  exact ⟨rfl, HB.out⟩
theorem begins_yes (src : ByteArray) (j : Nat) (t : ByteArray) (n : Int) (a : Option Addr) (m c : Nat) (w : World) (hj : j < src.size) (hs : src.size ≤ 4096) (k : Int) (hb : BgC k n (bt src j)) : Calls Tryz.prog 16 #[.string src, .agg #[.int .i64 k, .string t, .int .i64 n, .slice a m c], .int .i64 (j : Int)] w fun e w' => e = .returned (.bool true) ∧ Below w.heap.size w w' := by
  unfold BgC at hb
  rcases hb with ⟨rfl, h⟩ | ⟨rfl, h⟩ | ⟨rfl, h⟩ | ⟨rfl, h⟩ | ⟨rfl, h | h | h | h⟩ | ⟨rfl, h⟩ | ⟨rfl, h | h⟩ | ⟨rfl, rfl, h⟩ | ⟨rfl, rfl, h⟩ | ⟨rfl, h⟩ | ⟨rfl, h⟩ | ⟨rfl, h⟩ | ⟨rfl, h⟩ | ⟨rfl, h⟩ | ⟨rfl, h⟩ | ⟨rfl, h⟩ | ⟨rfl | rfl | rfl | rfl | rfl, ⟨rfl, h⟩ | ⟨rfl, h⟩ | ⟨rfl, h⟩⟩
  · exact bg_3_n_33 src j t n a m c w hj hs h
  · exact bg_4_n_38 src j t n a m c w hj hs h
  · exact bg_5_n_124 src j t n a m c w hj hs h
  · exact bg_13_n_123 src j t n a m c w hj hs h
  · exact bg_6_n_61 src j t n a m c w hj hs h
  · exact bg_6_n_33 src j t n a m c w hj hs h
  · exact bg_6_n_60 src j t n a m c w hj hs h
  · exact bg_6_n_62 src j t n a m c w hj hs h
  · exact bg_11_n_34 src j t n a m c w hj hs h
  · exact bg_12_n_45 src j t n a m c w hj hs h
  · exact bg_12_n_d src j t n a m c w hj hs h
  · exact bg_7_0_105 src j t a m c w hj hs h
  · exact bg_7_1_110 src j t a m c w hj hs h
  · exact bg_1_n_116 src j t n a m c w hj hs h
  · exact bg_2_n_102 src j t n a m c w hj hs h
  · exact bg_8_n_110 src j t n a m c w hj hs h
  · exact bg_9_n_97 src j t n a m c w hj hs h
  · exact bg_10_n_116 src j t n a m c w hj hs h
  · exact bg_19_n_105 src j t n a m c w hj hs h
  · exact bg_20_n_99 src j t n a m c w hj hs h
  · exact bg_14_2_110 src j t a m c w hj hs h
  · exact bg_14_1_112 src j t a m c w hj hs h
  · exact bg_14_3_105 src j t a m c w hj hs h
  · exact bg_15_2_110 src j t a m c w hj hs h
  · exact bg_15_1_112 src j t a m c w hj hs h
  · exact bg_15_3_105 src j t a m c w hj hs h
  · exact bg_16_2_110 src j t a m c w hj hs h
  · exact bg_16_1_112 src j t a m c w hj hs h
  · exact bg_16_3_105 src j t a m c w hj hs h
  · exact bg_17_2_110 src j t a m c w hj hs h
  · exact bg_17_1_112 src j t a m c w hj hs h
  · exact bg_17_3_105 src j t a m c w hj hs h
  · exact bg_18_2_110 src j t a m c w hj hs h
  · exact bg_18_1_112 src j t a m c w hj hs h
  · exact bg_18_3_105 src j t a m c w hj hs h
end Go.Proofs.YtcldglilhhhdoaaGreatDoor.L
