import Derived.Test.YtimmjikpcekffaaGreatDoorMgAZ
namespace Go.Proofs.YtimmjikpcekffaaGreatDoor.L
open Go.RowKit
set_option linter.unusedVariables false
def eqS (s t : ByteArray) : Bool := s.toList == t.toList
theorem eqS_iff {s t : ByteArray} : eqS s t = true ↔ s = t := by
  unfold eqS
  constructor
  · intro h
    exact bytes_ext (by simpa using h)
  · rintro rfl
    simp
theorem eqS_ne {s t : ByteArray} : eqS s t = false ↔ s ≠ t := by
  cases e : eqS s t
  · simp
    intro h
    rw [eqS_iff.2 h] at e
    cases e
  · simp
    exact eqS_iff.1 e
def sNS : ByteArray := ⟨#[78, 111, 83, 99, 104, 101, 100, 117, 108, 101]⟩
def sPN : ByteArray := ⟨#[80, 114, 101, 102, 101, 114, 78, 111, 83, 99, 104, 101, 100, 117, 108, 101]⟩
def sNE : ByteArray := ⟨#[78, 111, 69, 120, 101, 99, 117, 116, 101]⟩
def sEq : ByteArray := ⟨#[69, 113, 117, 97, 108]⟩
def sEx : ByteArray := ⟨#[69, 120, 105, 115, 116, 115]⟩
theorem lNS : sNS.toList = [78, 111, 83, 99, 104, 101, 100, 117, 108, 101] := bytes_toList _
theorem lPN : sPN.toList = [80, 114, 101, 102, 101, 114, 78, 111, 83, 99, 104, 101, 100, 117, 108, 101] := bytes_toList _
theorem lNE : sNE.toList = [78, 111, 69, 120, 101, 99, 117, 116, 101] := bytes_toList _
theorem lEq : sEq.toList = [69, 113, 117, 97, 108] := bytes_toList _
theorem lEx : sEx.toList = [69, 120, 105, 115, 116, 115] := bytes_toList _
def effB (s : ByteArray) : Bool := eqS s sNS || eqS s sPN || eqS s sNE
def efZ (s : ByteArray) : Bool := s.toList.isEmpty
theorem emB_iff {s : ByteArray} : efZ s = true ↔ s = ByteArray.empty := by
  unfold efZ
  rw [bytes_toList]
  constructor
  · intro h
    exact Go.WideShapes.bytes_inj (by simpa using h)
  · rintro rfl
    rfl
set_option maxHeartbeats 4000000 in
theorem effect_any (s : ByteArray) (w : World) : Calls Tryz.prog 149 #[.string s] w fun e w' => e = .returned (.bool (effB s)) ∧ w' = w := by
  unfold effB eqS
  rw [lNS, lPN, lNE]
  cases e1 : (s.toList == [78, 111, 83, 99, 104, 101, 100, 117, 108, 101])
  · cases e2 : (s.toList == [80, 114, 101, 102, 101, 114, 78, 111, 83, 99, 104, 101, 100, 117, 108, 101])
    · cases e3 : (s.toList == [78, 111, 69, 120, 101, 99, 117, 116, 101]) <;>
      · go_enter Tryz.func149, Tryz.ntmps149
        go_wp2
        go_ret
        exact ⟨rfl, rfl⟩
    · go_enter Tryz.func149, Tryz.ntmps149
      go_wp2
      go_ret
      exact ⟨rfl, rfl⟩
  · go_enter Tryz.func149, Tryz.ntmps149
    go_wp2
    go_ret
    exact ⟨rfl, rfl⟩
end Go.Proofs.YtimmjikpcekffaaGreatDoor.L
namespace Go.Proofs.YtimmjikpcekffaaGreatDoor.L
open Go.RowKit
set_option linter.unusedVariables false
/-- A part's text is a name of its kind. -/
def nmB (k : Int) (tx : ByteArray) : Bool :=
  if k = 8 ∨ k = 9 ∨ k = 20 ∨ k = 14 then keyB tx
  else if k = 10 then effB tx
  else if k = 18 then Qn.nameB tx
  else true
set_option maxHeartbeats 4000000 in
set_option maxRecDepth 100000 in
theorem nm_8 (tx : ByteArray) (nu : Int) (kv : Value) (hs : tx.size ≤ maxLen) (w : World) : Calls Tryz.prog 141 #[.agg #[.int .i64 8, .string tx, .int .i64 nu, kv]] w fun e w' => e = .returned (.bool (nmB 8 tx)) ∧ Below w.heap.size w w' := by
  have HB := hid (belowA w (.cells #[.int .i64 8, .string tx, .int .i64 nu, kv] 31))
  have HC := hid (cells4 (heap_alloc_new w (.cells #[.int .i64 8, .string tx, .int .i64 nu, kv] 31)))
  go_enter Tryz.func141, Tryz.ntmps141
  go_upto_region 1 with (fail)
  have ⟨x0, x1, x2, x3⟩ := HC.out
  generalize w.alloc (.cells #[.int .i64 8, .string tx, .int .i64 nu, kv] 31) = X at *
  go_wp2_with (go_at_call 148; refine (key_any tx _ hs).mono ?_; rintro e w1 ⟨rfl, l1⟩; have HB1 := hid (bchS HB.out l1); clear l1)
  go_ret
  exact ⟨ret_bool (by simp [nmB]), HB1.out⟩
set_option maxHeartbeats 4000000 in
set_option maxRecDepth 100000 in
theorem nm_9 (tx : ByteArray) (nu : Int) (kv : Value) (hs : tx.size ≤ maxLen) (w : World) : Calls Tryz.prog 141 #[.agg #[.int .i64 9, .string tx, .int .i64 nu, kv]] w fun e w' => e = .returned (.bool (nmB 9 tx)) ∧ Below w.heap.size w w' := by
  have HB := hid (belowA w (.cells #[.int .i64 9, .string tx, .int .i64 nu, kv] 31))
  have HC := hid (cells4 (heap_alloc_new w (.cells #[.int .i64 9, .string tx, .int .i64 nu, kv] 31)))
  go_enter Tryz.func141, Tryz.ntmps141
  go_upto_region 1 with (fail)
  have ⟨x0, x1, x2, x3⟩ := HC.out
  generalize w.alloc (.cells #[.int .i64 9, .string tx, .int .i64 nu, kv] 31) = X at *
  go_wp2_with (go_at_call 148; refine (key_any tx _ hs).mono ?_; rintro e w1 ⟨rfl, l1⟩; have HB1 := hid (bchS HB.out l1); clear l1)
  go_ret
  exact ⟨ret_bool (by simp [nmB]), HB1.out⟩
set_option maxHeartbeats 4000000 in
set_option maxRecDepth 100000 in
theorem nm_20 (tx : ByteArray) (nu : Int) (kv : Value) (hs : tx.size ≤ maxLen) (w : World) : Calls Tryz.prog 141 #[.agg #[.int .i64 20, .string tx, .int .i64 nu, kv]] w fun e w' => e = .returned (.bool (nmB 20 tx)) ∧ Below w.heap.size w w' := by
  have HB := hid (belowA w (.cells #[.int .i64 20, .string tx, .int .i64 nu, kv] 31))
  have HC := hid (cells4 (heap_alloc_new w (.cells #[.int .i64 20, .string tx, .int .i64 nu, kv] 31)))
  go_enter Tryz.func141, Tryz.ntmps141
  go_upto_region 1 with (fail)
  have ⟨x0, x1, x2, x3⟩ := HC.out
  generalize w.alloc (.cells #[.int .i64 20, .string tx, .int .i64 nu, kv] 31) = X at *
  go_wp2_with (go_at_call 148; refine (key_any tx _ hs).mono ?_; rintro e w1 ⟨rfl, l1⟩; have HB1 := hid (bchS HB.out l1); clear l1)
  go_ret
  exact ⟨ret_bool (by simp [nmB]), HB1.out⟩
set_option maxHeartbeats 4000000 in
set_option maxRecDepth 100000 in
theorem nm_14 (tx : ByteArray) (nu : Int) (kv : Value) (hs : tx.size ≤ maxLen) (w : World) : Calls Tryz.prog 141 #[.agg #[.int .i64 14, .string tx, .int .i64 nu, kv]] w fun e w' => e = .returned (.bool (nmB 14 tx)) ∧ Below w.heap.size w w' := by
  have HB := hid (belowA w (.cells #[.int .i64 14, .string tx, .int .i64 nu, kv] 31))
  have HC := hid (cells4 (heap_alloc_new w (.cells #[.int .i64 14, .string tx, .int .i64 nu, kv] 31)))
  go_enter Tryz.func141, Tryz.ntmps141
  go_upto_region 1 with (fail)
  have ⟨x0, x1, x2, x3⟩ := HC.out
  generalize w.alloc (.cells #[.int .i64 14, .string tx, .int .i64 nu, kv] 31) = X at *
  go_wp2_with (go_at_call 148; refine (key_any tx _ hs).mono ?_; rintro e w1 ⟨rfl, l1⟩; have HB1 := hid (bchS HB.out l1); clear l1)
  go_ret
  exact ⟨ret_bool (by simp [nmB]), HB1.out⟩
set_option maxHeartbeats 4000000 in
set_option maxRecDepth 100000 in
theorem nm_10 (tx : ByteArray) (nu : Int) (kv : Value) (hs : tx.size ≤ maxLen) (w : World) : Calls Tryz.prog 141 #[.agg #[.int .i64 10, .string tx, .int .i64 nu, kv]] w fun e w' => e = .returned (.bool (nmB 10 tx)) ∧ Below w.heap.size w w' := by
  have HB := hid (belowA w (.cells #[.int .i64 10, .string tx, .int .i64 nu, kv] 31))
  have HC := hid (cells4 (heap_alloc_new w (.cells #[.int .i64 10, .string tx, .int .i64 nu, kv] 31)))
  go_enter Tryz.func141, Tryz.ntmps141
  go_upto_region 1 with (fail)
  have ⟨x0, x1, x2, x3⟩ := HC.out
  generalize w.alloc (.cells #[.int .i64 10, .string tx, .int .i64 nu, kv] 31) = X at *
  go_wp2_with (go_at_call 149; refine (effect_any tx _).mono ?_; rintro e w1 ⟨rfl, rfl⟩; have HB1 := HB)
  go_ret
  exact ⟨ret_bool (by simp [nmB]), HB1.out⟩
set_option maxHeartbeats 4000000 in
set_option maxRecDepth 100000 in
theorem nm_18 (tx : ByteArray) (nu : Int) (kv : Value) (hs : tx.size ≤ maxLen) (w : World) : Calls Tryz.prog 141 #[.agg #[.int .i64 18, .string tx, .int .i64 nu, kv]] w fun e w' => e = .returned (.bool (nmB 18 tx)) ∧ Below w.heap.size w w' := by
  have HB := hid (belowA w (.cells #[.int .i64 18, .string tx, .int .i64 nu, kv] 31))
  have HC := hid (cells4 (heap_alloc_new w (.cells #[.int .i64 18, .string tx, .int .i64 nu, kv] 31)))
  go_enter Tryz.func141, Tryz.ntmps141
  go_upto_region 1 with (fail)
  have ⟨x0, x1, x2, x3⟩ := HC.out
  generalize w.alloc (.cells #[.int .i64 18, .string tx, .int .i64 nu, kv] 31) = X at *
  go_wp2_with (go_at_call 150; refine (Qn.name_any tx _ hs).mono ?_; rintro e w1 ⟨rfl, n1, rfl⟩; have HB1 := hid (below_drewN HB.out n1))
  go_ret
  exact ⟨ret_bool (by simp [nmB]), HB1.out⟩
set_option maxHeartbeats 4000000 in
set_option maxRecDepth 100000 in
theorem nm_else (tx : ByteArray) (nu : Int) (kv : Value) (k : Int) (hk : k ≠ 8 ∧ k ≠ 9 ∧ k ≠ 20 ∧ k ≠ 14 ∧ k ≠ 10 ∧ k ≠ 18) (w : World) : Calls Tryz.prog 141 #[.agg #[.int .i64 k, .string tx, .int .i64 nu, kv]] w fun e w' => e = .returned (.bool (nmB k tx)) ∧ Below w.heap.size w w' := by
  obtain ⟨h1, h2, h3, h4, h5, h6⟩ := hk
  have HR := hid (show nmB k tx = true by unfold nmB; rw [if_neg (by omega), if_neg (by omega), if_neg (by omega)])
  have e8 : (k == 8) = false := by simp; omega
  have e9 : (k == 9) = false := by simp; omega
  have e20 : (k == 20) = false := by simp; omega
  have e14 : (k == 14) = false := by simp; omega
  have e10 : (k == 10) = false := by simp; omega
  have e18 : (k == 18) = false := by simp; omega
  clear h1 h2 h3 h4 h5 h6
  have HB := hid (belowA w (.cells #[.int .i64 k, .string tx, .int .i64 nu, kv] 31))
  have HC := hid (cells4 (heap_alloc_new w (.cells #[.int .i64 k, .string tx, .int .i64 nu, kv] 31)))
  go_enter Tryz.func141, Tryz.ntmps141
  go_upto_region 1 with (fail)
  have ⟨x0, x1, x2, x3⟩ := HC.out
  generalize w.alloc (.cells #[.int .i64 k, .string tx, .int .i64 nu, kv] 31) = X at *
  go_wp2_with fail
  go_ret
  exact ⟨ret_bool HR.out.symm, HB.out⟩
theorem named_any (k : Int) (tx : ByteArray) (nu : Int) (kv : Value) (hs : tx.size ≤ maxLen) (w : World) : Calls Tryz.prog 141 #[.agg #[.int .i64 k, .string tx, .int .i64 nu, kv]] w fun e w' => e = .returned (.bool (nmB k tx)) ∧ Below w.heap.size w w' := by
  by_cases h : k ≠ 8 ∧ k ≠ 9 ∧ k ≠ 20 ∧ k ≠ 14 ∧ k ≠ 10 ∧ k ≠ 18
  · exact nm_else tx nu kv k h w
  · have hc : k = 8 ∨ k = 9 ∨ k = 20 ∨ k = 14 ∨ k = 10 ∨ k = 18 := by omega
    rcases hc with rfl | rfl | rfl | rfl | rfl | rfl
    · exact nm_8 tx nu kv hs w
    · exact nm_9 tx nu kv hs w
    · exact nm_20 tx nu kv hs w
    · exact nm_14 tx nu kv hs w
    · exact nm_10 tx nu kv hs w
    · exact nm_18 tx nu kv hs w
end Go.Proofs.YtimmjikpcekffaaGreatDoor.L
namespace Go.Proofs.YtimmjikpcekffaaGreatDoor.L
open Go.RowKit
set_option linter.unusedVariables false
/-- What asked answers. -/
def asO (k nu sc : Int) (tx : ByteArray) (t : Int) : Option (Nat × Int) :=
  if kwB k nu sc = false then (if selB k = true then some (143, t) else some (142, t))
  else if nmB k tx = true then none else some (147, t)
set_option maxHeartbeats 8000000 in
set_option maxRecDepth 100000 in
theorem asked_any (k : Int) (tx : ByteArray) (nu sc t : Int) (kv : Value) (hs : tx.size ≤ maxLen) (w : World) : Calls Tryz.prog 127 #[.agg #[.int .i64 k, .string tx, .int .i64 nu, kv], .int .i64 t, .int .i64 sc] w fun e w' => ∃ ev, e = .returned ev ∧ AnsR (asO k nu sc tx t) w.heap.size w' ev ∧ Below w.heap.size w w' := by
  have HB := hid (belowA w (.cells #[.int .i64 k, .string tx, .int .i64 nu, kv] 31))
  have HC := hid (heap_alloc_new w (.cells #[.int .i64 k, .string tx, .int .i64 nu, kv] 31))
  have HL := hid (Nat.le_of_lt (lt_blk HC.out))
  go_enter Tryz.func127, Tryz.ntmps127
  go_upto_region 1 with (fail)
  have ⟨x0, x1, x2, x3⟩ := cells4 HC.out
  generalize w.alloc (.cells #[.int .i64 k, .string tx, .int .i64 nu, kv] 31) = X at *
  cases e1 : kwB k nu sc
  · cases e2 : selB k
    · go_upto_region 3 with (first | (go_at_call 140; refine (known_any k tx nu sc kv _).mono ?_; rw [e1]; rintro e w1 ⟨rfl, l1⟩; have L1 := hid l1; clear l1; have ⟨y0, y1, y2, y3⟩ := cells4 ((L1.out.block _ (lt_blk HC.out)).trans HC.out)) | (go_at_call 122; refine (selects_any k _).mono ?_; rw [e2]; rintro e w2 ⟨rfl, rfl⟩))
      go_upto_region 4 with (go_at_call 140; refine (known_any k tx nu sc kv _).mono ?_; rw [e1]; rintro e w3 ⟨rfl, l3⟩; have L3 := hid (bchS L1.out l3); clear l3)
      go_wp2_with (go_at_call 66; refine (sfault_any 142 t _).mono ?_; rintro e w4 ⟨rfl, h4, l4⟩; have HF := hid h4; have L4 := hid l4; clear h4 l4)
      go_ret
      exact ⟨_, rfl, .inr ⟨_, 142, t, by simp [asO, e1, e2], rfl, HF.out, Nat.le_trans HL.out L3.out.size⟩, bchS HB.out (bchS L3.out L4.out)⟩
    · go_upto_region 2 with (first | (go_at_call 140; refine (known_any k tx nu sc kv _).mono ?_; rw [e1]; rintro e w1 ⟨rfl, l1⟩; have L1 := hid l1; clear l1; have ⟨y0, y1, y2, y3⟩ := cells4 ((L1.out.block _ (lt_blk HC.out)).trans HC.out)) | (go_at_call 122; refine (selects_any k _).mono ?_; rw [e2]; rintro e w2 ⟨rfl, rfl⟩))
      go_wp2_with (go_at_call 66; refine (sfault_any 143 t _).mono ?_; rintro e w4 ⟨rfl, h4, l4⟩; have HF := hid h4; have L4 := hid l4; clear h4 l4)
      go_ret
      exact ⟨_, rfl, .inr ⟨_, 143, t, by simp [asO, e1, e2], rfl, HF.out, Nat.le_trans HL.out L1.out.size⟩, bchS HB.out (bchS L1.out L4.out)⟩
  · go_upto_region 3 with (go_at_call 140; refine (known_any k tx nu sc kv _).mono ?_; rw [e1]; rintro e w1 ⟨rfl, l1⟩; have L1 := hid l1; clear l1; have ⟨y0, y1, y2, y3⟩ := cells4 ((L1.out.block _ (lt_blk HC.out)).trans HC.out))
    go_upto_region 5 with (go_at_call 140; refine (known_any k tx nu sc kv _).mono ?_; rw [e1]; rintro e w3 ⟨rfl, l3⟩; have L3 := hid (bchS L1.out l3); clear l3; have ⟨z0, z1, z2, z3⟩ := cells4 ((L3.out.block _ (lt_blk HC.out)).trans HC.out))
    cases e3 : nmB k tx
    · go_upto_region 6 with (go_at_call 141; refine (named_any k tx nu kv hs _).mono ?_; rw [e3]; rintro e w5 ⟨rfl, l5⟩; have L5 := hid (bchS L3.out l5); clear l5)
      go_wp2_with (go_at_call 66; refine (sfault_any 147 t _).mono ?_; rintro e w4 ⟨rfl, h4, l4⟩; have HF := hid h4; have L4 := hid l4; clear h4 l4)
      go_ret
      exact ⟨_, rfl, .inr ⟨_, 147, t, by simp [asO, e1, e3], rfl, HF.out, Nat.le_trans HL.out L5.out.size⟩, bchS HB.out (bchS L5.out L4.out)⟩
    · go_upto_region 7 with (go_at_call 141; refine (named_any k tx nu kv hs _).mono ?_; rw [e3]; rintro e w5 ⟨rfl, l5⟩; have L5 := hid (bchS L3.out l5); clear l5)
      go_wp2_with fail
      go_ret
      exact ⟨_, rfl, .inl ⟨by simp [asO, e1, e3], rfl⟩, bchS HB.out L5.out⟩
end Go.Proofs.YtimmjikpcekffaaGreatDoor.L
