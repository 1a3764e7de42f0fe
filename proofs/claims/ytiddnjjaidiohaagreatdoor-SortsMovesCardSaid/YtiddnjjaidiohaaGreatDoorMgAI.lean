import Derived.Test.YtiddnjjaidiohaaGreatDoorNam
import Derived.Test.YtiddnjjaidiohaaGreatDoorSn
namespace Go.Proofs.YtiddnjjaidiohaaGreatDoor.L
open Go.RowKit
set_option linter.unusedVariables false
def eqS (s t : ByteArray) : Bool := s.toList == t.toList
theorem eqS_iff {s t : ByteArray} : eqS s t = true ↔ s = t := by
  unfold eqS
  constructor
  · intro h
    exact bytes_ext (by simpa using h)
  · rintro rfl
    simp
theorem eqS_ne {s t : ByteArray} : eqS s t = false ↔ s ≠ t := by
  cases e : eqS s t
  · simp
    intro h
    rw [eqS_iff.2 h] at e
    cases e
  · simp
    exact eqS_iff.1 e
def sNS : ByteArray := ⟨#[78, 111, 83, 99, 104, 101, 100, 117, 108, 101]⟩
def sPN : ByteArray := ⟨#[80, 114, 101, 102, 101, 114, 78, 111, 83, 99, 104, 101, 100, 117, 108, 101]⟩
def sNE : ByteArray := ⟨#[78, 111, 69, 120, 101, 99, 117, 116, 101]⟩
def sEq : ByteArray := ⟨#[69, 113, 117, 97, 108]⟩
def sEx : ByteArray := ⟨#[69, 120, 105, 115, 116, 115]⟩
theorem lNS : sNS.toList = [78, 111, 83, 99, 104, 101, 100, 117, 108, 101] := bytes_toList _
theorem lPN : sPN.toList = [80, 114, 101, 102, 101, 114, 78, 111, 83, 99, 104, 101, 100, 117, 108, 101] := bytes_toList _
theorem lNE : sNE.toList = [78, 111, 69, 120, 101, 99, 117, 116, 101] := bytes_toList _
theorem lEq : sEq.toList = [69, 113, 117, 97, 108] := bytes_toList _
theorem lEx : sEx.toList = [69, 120, 105, 115, 116, 115] := bytes_toList _
def effB (s : ByteArray) : Bool := eqS s sNS || eqS s sPN || eqS s sNE
def emB (s : ByteArray) : Bool := s.toList.isEmpty
theorem emB_iff {s : ByteArray} : emB s = true ↔ s = ByteArray.empty := by
  unfold emB
  rw [bytes_toList]
  constructor
  · intro h
    exact Go.WideShapes.bytes_inj (by simpa using h)
  · rintro rfl
    rfl
set_option maxHeartbeats 4000000 in
theorem effect_any (s : ByteArray) (w : World) : Calls Tryz.prog 98 #[.string s] w fun e w' => e = .returned (.bool (effB s)) ∧ w' = w := by
  unfold effB eqS
  rw [lNS, lPN, lNE]
  cases e1 : (s.toList == [78, 111, 83, 99, 104, 101, 100, 117, 108, 101])
  · cases e2 : (s.toList == [80, 114, 101, 102, 101, 114, 78, 111, 83, 99, 104, 101, 100, 117, 108, 101])
    · cases e3 : (s.toList == [78, 111, 69, 120, 101, 99, 117, 116, 101]) <;>
      · go_enter Tryz.func98, Tryz.ntmps98
        go_wp2
        go_ret
        exact ⟨rfl, rfl⟩
    · go_enter Tryz.func98, Tryz.ntmps98
      go_wp2
      go_ret
      exact ⟨rfl, rfl⟩
  · go_enter Tryz.func98, Tryz.ntmps98
    go_wp2
    go_ret
    exact ⟨rfl, rfl⟩
end Go.Proofs.YtiddnjjaidiohaaGreatDoor.L
namespace Go.Proofs.YtiddnjjaidiohaaGreatDoor.L
open Go.RowKit
set_option linter.unusedVariables false
/-- A part's text is a name of its kind. -/
def nmB (k : Int) (tx : ByteArray) : Bool :=
  if k = 8 ∨ k = 9 ∨ k = 20 ∨ k = 14 then keyB tx
  else if k = 10 then effB tx
  else if k = 18 then Qn.nameB tx
  else true
set_option maxHeartbeats 4000000 in
set_option maxRecDepth 100000 in
theorem nm_8 (tx : ByteArray) (nu : Int) (kv : Value) (hs : tx.size ≤ maxLen) (w : World) : Calls Tryz.prog 95 #[.agg #[.int .i64 8, .string tx, .int .i64 nu, kv]] w fun e w' => e = .returned (.bool (nmB 8 tx)) ∧ Below w.heap.size w w' := by
  have HB := hid (belowA w (.cells #[.int .i64 8, .string tx, .int .i64 nu, kv] 60))
  have HC := hid (cells4 (heap_alloc_new w (.cells #[.int .i64 8, .string tx, .int .i64 nu, kv] 60)))
  go_enter Tryz.func95, Tryz.ntmps95
  go_upto_region 1 with (fail)
  have ⟨x0, x1, x2, x3⟩ := HC.out
  generalize w.alloc (.cells #[.int .i64 8, .string tx, .int .i64 nu, kv] 60) = X at *
  go_wp2_with (go_at_call 97; refine (key_any tx _ hs).mono ?_; rintro e w1 ⟨rfl, l1⟩; have HB1 := hid (bchS HB.out l1); clear l1)
  go_ret
  exact ⟨ret_bool (by simp [nmB]), HB1.out⟩
set_option maxHeartbeats 4000000 in
set_option maxRecDepth 100000 in
theorem nm_9 (tx : ByteArray) (nu : Int) (kv : Value) (hs : tx.size ≤ maxLen) (w : World) : Calls Tryz.prog 95 #[.agg #[.int .i64 9, .string tx, .int .i64 nu, kv]] w fun e w' => e = .returned (.bool (nmB 9 tx)) ∧ Below w.heap.size w w' := by
  have HB := hid (belowA w (.cells #[.int .i64 9, .string tx, .int .i64 nu, kv] 60))
  have HC := hid (cells4 (heap_alloc_new w (.cells #[.int .i64 9, .string tx, .int .i64 nu, kv] 60)))
  go_enter Tryz.func95, Tryz.ntmps95
  go_upto_region 1 with (fail)
  have ⟨x0, x1, x2, x3⟩ := HC.out
  generalize w.alloc (.cells #[.int .i64 9, .string tx, .int .i64 nu, kv] 60) = X at *
  go_wp2_with (go_at_call 97; refine (key_any tx _ hs).mono ?_; rintro e w1 ⟨rfl, l1⟩; have HB1 := hid (bchS HB.out l1); clear l1)
  go_ret
  exact ⟨ret_bool (by simp [nmB]), HB1.out⟩
set_option maxHeartbeats 4000000 in
set_option maxRecDepth 100000 in
theorem nm_20 (tx : ByteArray) (nu : Int) (kv : Value) (hs : tx.size ≤ maxLen) (w : World) : Calls Tryz.prog 95 #[.agg #[.int .i64 20, .string tx, .int .i64 nu, kv]] w fun e w' => e = .returned (.bool (nmB 20 tx)) ∧ Below w.heap.size w w' := by
  have HB := hid (belowA w (.cells #[.int .i64 20, .string tx, .int .i64 nu, kv] 60))
  have HC := hid (cells4 (heap_alloc_new w (.cells #[.int .i64 20, .string tx, .int .i64 nu, kv] 60)))
  go_enter Tryz.func95, Tryz.ntmps95
  go_upto_region 1 with (fail)
  have ⟨x0, x1, x2, x3⟩ := HC.out
  generalize w.alloc (.cells #[.int .i64 20, .string tx, .int .i64 nu, kv] 60) = X at *
  go_wp2_with (go_at_call 97; refine (key_any tx _ hs).mono ?_; rintro e w1 ⟨rfl, l1⟩; have HB1 := hid (bchS HB.out l1); clear l1)
  go_ret
  exact ⟨ret_bool (by simp [nmB]), HB1.out⟩
set_option maxHeartbeats 4000000 in
set_option maxRecDepth 100000 in
theorem nm_14 (tx : ByteArray) (nu : Int) (kv : Value) (hs : tx.size ≤ maxLen) (w : World) : Calls Tryz.prog 95 #[.agg #[.int .i64 14, .string tx, .int .i64 nu, kv]] w fun e w' => e = .returned (.bool (nmB 14 tx)) ∧ Below w.heap.size w w' := by
  have HB := hid (belowA w (.cells #[.int .i64 14, .string tx, .int .i64 nu, kv] 60))
  have HC := hid (cells4 (heap_alloc_new w (.cells #[.int .i64 14, .string tx, .int .i64 nu, kv] 60)))
  go_enter Tryz.func95, Tryz.ntmps95
  go_upto_region 1 with (fail)
  have ⟨x0, x1, x2, x3⟩ := HC.out
  generalize w.alloc (.cells #[.int .i64 14, .string tx, .int .i64 nu, kv] 60) = X at *
  go_wp2_with (go_at_call 97; refine (key_any tx _ hs).mono ?_; rintro e w1 ⟨rfl, l1⟩; have HB1 := hid (bchS HB.out l1); clear l1)
  go_ret
  exact ⟨ret_bool (by simp [nmB]), HB1.out⟩
set_option maxHeartbeats 4000000 in
set_option maxRecDepth 100000 in
theorem nm_10 (tx : ByteArray) (nu : Int) (kv : Value) (hs : tx.size ≤ maxLen) (w : World) : Calls Tryz.prog 95 #[.agg #[.int .i64 10, .string tx, .int .i64 nu, kv]] w fun e w' => e = .returned (.bool (nmB 10 tx)) ∧ Below w.heap.size w w' := by
  have HB := hid (belowA w (.cells #[.int .i64 10, .string tx, .int .i64 nu, kv] 60))
  have HC := hid (cells4 (heap_alloc_new w (.cells #[.int .i64 10, .string tx, .int .i64 nu, kv] 60)))
  go_enter Tryz.func95, Tryz.ntmps95
  go_upto_region 1 with (fail)
  have ⟨x0, x1, x2, x3⟩ := HC.out
  generalize w.alloc (.cells #[.int .i64 10, .string tx, .int .i64 nu, kv] 60) = X at *
  go_wp2_with (go_at_call 98; refine (effect_any tx _).mono ?_; rintro e w1 ⟨rfl, rfl⟩; have HB1 := HB)
  go_ret
  exact ⟨ret_bool (by simp [nmB]), HB1.out⟩
set_option maxHeartbeats 4000000 in
set_option maxRecDepth 100000 in
theorem nm_18 (tx : ByteArray) (nu : Int) (kv : Value) (hs : tx.size ≤ maxLen) (w : World) : Calls Tryz.prog 95 #[.agg #[.int .i64 18, .string tx, .int .i64 nu, kv]] w fun e w' => e = .returned (.bool (nmB 18 tx)) ∧ Below w.heap.size w w' := by
  have HB := hid (belowA w (.cells #[.int .i64 18, .string tx, .int .i64 nu, kv] 60))
  have HC := hid (cells4 (heap_alloc_new w (.cells #[.int .i64 18, .string tx, .int .i64 nu, kv] 60)))
  go_enter Tryz.func95, Tryz.ntmps95
  go_upto_region 1 with (fail)
  have ⟨x0, x1, x2, x3⟩ := HC.out
  generalize w.alloc (.cells #[.int .i64 18, .string tx, .int .i64 nu, kv] 60) = X at *
  go_wp2_with (go_at_call 99; refine (Qn.name_any tx _ hs).mono ?_; rintro e w1 ⟨rfl, n1, rfl⟩; have HB1 := hid (below_drewN HB.out n1))
  go_ret
  exact ⟨ret_bool (by simp [nmB]), HB1.out⟩
set_option maxHeartbeats 4000000 in
set_option maxRecDepth 100000 in
theorem nm_else (tx : ByteArray) (nu : Int) (kv : Value) (k : Int) (hk : k ≠ 8 ∧ k ≠ 9 ∧ k ≠ 20 ∧ k ≠ 14 ∧ k ≠ 10 ∧ k ≠ 18) (w : World) : Calls Tryz.prog 95 #[.agg #[.int .i64 k, .string tx, .int .i64 nu, kv]] w fun e w' => e = .returned (.bool (nmB k tx)) ∧ Below w.heap.size w w' := by
  obtain ⟨h1, h2, h3, h4, h5, h6⟩ := hk
  have HR := hid (show nmB k tx = true by unfold nmB; rw [if_neg (by omega), if_neg (by omega), if_neg (by omega)])
  have e8 : (k == 8) = false := by simp; omega
  have e9 : (k == 9) = false := by simp; omega
  have e20 : (k == 20) = false := by simp; omega
  have e14 : (k == 14) = false := by simp; omega
  have e10 : (k == 10) = false := by simp; omega
  have e18 : (k == 18) = false := by simp; omega
  clear h1 h2 h3 h4 h5 h6
  have HB := hid (belowA w (.cells #[.int .i64 k, .string tx, .int .i64 nu, kv] 60))
  have HC := hid (cells4 (heap_alloc_new w (.cells #[.int .i64 k, .string tx, .int .i64 nu, kv] 60)))
  go_enter Tryz.func95, Tryz.ntmps95
  go_upto_region 1 with (fail)
  have ⟨x0, x1, x2, x3⟩ := HC.out
  generalize w.alloc (.cells #[.int .i64 k, .string tx, .int .i64 nu, kv] 60) = X at *
  go_wp2_with fail
  go_ret
  exact ⟨ret_bool HR.out.symm, HB.out⟩
theorem named_any (k : Int) (tx : ByteArray) (nu : Int) (kv : Value) (hs : tx.size ≤ maxLen) (w : World) : Calls Tryz.prog 95 #[.agg #[.int .i64 k, .string tx, .int .i64 nu, kv]] w fun e w' => e = .returned (.bool (nmB k tx)) ∧ Below w.heap.size w w' := by
  by_cases h : k ≠ 8 ∧ k ≠ 9 ∧ k ≠ 20 ∧ k ≠ 14 ∧ k ≠ 10 ∧ k ≠ 18
  · exact nm_else tx nu kv k h w
  · have hc : k = 8 ∨ k = 9 ∨ k = 20 ∨ k = 14 ∨ k = 10 ∨ k = 18 := by omega
    rcases hc with rfl | rfl | rfl | rfl | rfl | rfl
    · exact nm_8 tx nu kv hs w
    · exact nm_9 tx nu kv hs w
    · exact nm_20 tx nu kv hs w
    · exact nm_14 tx nu kv hs w
    · exact nm_10 tx nu kv hs w
    · exact nm_18 tx nu kv hs w
end Go.Proofs.YtiddnjjaidiohaaGreatDoor.L
