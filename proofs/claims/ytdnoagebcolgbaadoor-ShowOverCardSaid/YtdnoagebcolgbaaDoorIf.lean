import Derived.Test.YtdnoagebcolgbaaDoorIe
namespace Go.Proofs.YtdnoagebcolgbaaDoor.L
open Go.RowKit Go.Shelf
set_option linter.unusedVariables false
set_option maxHeartbeats 4000000 in
set_option maxRecDepth 100000 in
theorem leaf_1 (tx : ByteArray) (nu : Int) (kv : Value) (w : World) (ht : tx.size ≤ 127) :
    Calls Tryd.prog 39 #[.agg #[.int .i64 1, .string tx, .int .i64 nu, kv]] w fun e w' => e = .returned (.string (S [116, 114, 117, 101])) ∧ Below w.heap.size w w' := by
  have HQ := hid (fun W => rquote_any tx W (by omega))
  have hql := quote_len (tx_len ht)
  generalize quoteL tx.data.toList = q at *
  obtain ⟨Q, hQ⟩ : ∃ Q, Q = S q := ⟨_, rfl⟩
  have HQE := hid hQ
  have hQz : Q.size ≤ 600 := by rw [hQ, S_size]; exact hql
  have HQ2 := hid (show ∀ W, Calls Tryd.prog 36 #[.string tx] W fun e w' => e = .returned (.string Q) ∧ Below W.heap.size W w' by rw [hQ]; exact HQ.out)
  clear hQ hql HQ
  have HB := hid (belowA w (.cells #[.int .i64 1, .string tx, .int .i64 nu, kv] 45))
  have HX := hid (heap_alloc_new w (.cells #[.int .i64 1, .string tx, .int .i64 nu, kv] 45))
  go_enter Tryd.func39, Tryd.ntmps39
  go_upto_region 1 with (fail)
  have ⟨x0, x1, x2, x3⟩ := cells4 HX.out
  generalize w.alloc (.cells #[.int .i64 1, .string tx, .int .i64 nu, kv] 45) = X at *
  go_upto_region 2 with (first | (go_at_call 36; refine (HQ2.out _).mono ?_; rintro e w1 ⟨rfl, l1⟩; have L1 := hid l1; clear l1; have ⟨y0, y1, y2, y3⟩ := cells4 ((L1.out.block _ (lt_blk HX.out)).trans HX.out)))
  clear x0 x1 x2 x3
  go_wp2_with (fail)
  go_ret
  refine ⟨?_, bch HB.out L1.out⟩
  rfl
set_option maxHeartbeats 4000000 in
set_option maxRecDepth 100000 in
theorem leaf_2 (tx : ByteArray) (nu : Int) (kv : Value) (w : World) (ht : tx.size ≤ 127) :
    Calls Tryd.prog 39 #[.agg #[.int .i64 2, .string tx, .int .i64 nu, kv]] w fun e w' => e = .returned (.string (S [102, 97, 108, 115, 101])) ∧ Below w.heap.size w w' := by
  have HQ := hid (fun W => rquote_any tx W (by omega))
  have hql := quote_len (tx_len ht)
  generalize quoteL tx.data.toList = q at *
  obtain ⟨Q, hQ⟩ : ∃ Q, Q = S q := ⟨_, rfl⟩
  have HQE := hid hQ
  have hQz : Q.size ≤ 600 := by rw [hQ, S_size]; exact hql
  have HQ2 := hid (show ∀ W, Calls Tryd.prog 36 #[.string tx] W fun e w' => e = .returned (.string Q) ∧ Below W.heap.size W w' by rw [hQ]; exact HQ.out)
  clear hQ hql HQ
  have HB := hid (belowA w (.cells #[.int .i64 2, .string tx, .int .i64 nu, kv] 45))
  have HX := hid (heap_alloc_new w (.cells #[.int .i64 2, .string tx, .int .i64 nu, kv] 45))
  go_enter Tryd.func39, Tryd.ntmps39
  go_upto_region 1 with (fail)
  have ⟨x0, x1, x2, x3⟩ := cells4 HX.out
  generalize w.alloc (.cells #[.int .i64 2, .string tx, .int .i64 nu, kv] 45) = X at *
  go_upto_region 2 with (first | (go_at_call 36; refine (HQ2.out _).mono ?_; rintro e w1 ⟨rfl, l1⟩; have L1 := hid l1; clear l1; have ⟨y0, y1, y2, y3⟩ := cells4 ((L1.out.block _ (lt_blk HX.out)).trans HX.out)))
  clear x0 x1 x2 x3
  go_wp2_with (fail)
  go_ret
  refine ⟨?_, bch HB.out L1.out⟩
  rfl
set_option maxHeartbeats 4000000 in
set_option maxRecDepth 100000 in
theorem leaf_10 (tx : ByteArray) (nu : Int) (kv : Value) (w : World) (ht : tx.size ≤ 127) :
    Calls Tryd.prog 39 #[.agg #[.int .i64 10, .string tx, .int .i64 nu, kv]] w fun e w' => e = .returned (.string (S ([116, 111, 108, 101, 114, 97, 116, 101, 100] ++ ([40] ++ (quoteL tx.data.toList ++ [41]))))) ∧ Below w.heap.size w w' := by
  have HQ := hid (fun W => rquote_any tx W (by omega))
  have hql := quote_len (tx_len ht)
  generalize quoteL tx.data.toList = q at *
  obtain ⟨Q, hQ⟩ : ∃ Q, Q = S q := ⟨_, rfl⟩
  have HQE := hid hQ
  have hQz : Q.size ≤ 600 := by rw [hQ, S_size]; exact hql
  have HQ2 := hid (show ∀ W, Calls Tryd.prog 36 #[.string tx] W fun e w' => e = .returned (.string Q) ∧ Below W.heap.size W w' by rw [hQ]; exact HQ.out)
  clear hQ hql HQ
  have HB := hid (belowA w (.cells #[.int .i64 10, .string tx, .int .i64 nu, kv] 45))
  have HX := hid (heap_alloc_new w (.cells #[.int .i64 10, .string tx, .int .i64 nu, kv] 45))
  go_enter Tryd.func39, Tryd.ntmps39
  go_upto_region 1 with (fail)
  have ⟨x0, x1, x2, x3⟩ := cells4 HX.out
  generalize w.alloc (.cells #[.int .i64 10, .string tx, .int .i64 nu, kv] 45) = X at *
  go_upto_region 2 with (first | (go_at_call 36; refine (HQ2.out _).mono ?_; rintro e w1 ⟨rfl, l1⟩; have L1 := hid l1; clear l1; have ⟨y0, y1, y2, y3⟩ := cells4 ((L1.out.block _ (lt_blk HX.out)).trans HX.out)))
  clear x0 x1 x2 x3
  go_wp2_with (fail)
  go_ret
  refine ⟨?_, bch HB.out L1.out⟩
  show Ending.returned (.string (S [116, 111, 108, 101, 114, 97, 116, 101, 100, 40] ++ Q ++ S [41])) = Ending.returned (.string (S ([116, 111, 108, 101, 114, 97, 116, 101, 100] ++ ([40] ++ (q ++ [41])))))
  try rw [HQE.out]
  try simp only [S_app]
  try simp
set_option maxHeartbeats 4000000 in
set_option maxRecDepth 100000 in
theorem leaf_11 (tx : ByteArray) (nu : Int) (kv : Value) (w : World) (ht : tx.size ≤ 127) :
    Calls Tryd.prog 39 #[.agg #[.int .i64 11, .string tx, .int .i64 nu, kv]] w fun e w' => e = .returned (.string (S (quoteL tx.data.toList))) ∧ Below w.heap.size w w' := by
  have HQ := hid (fun W => rquote_any tx W (by omega))
  have hql := quote_len (tx_len ht)
  generalize quoteL tx.data.toList = q at *
  obtain ⟨Q, hQ⟩ : ∃ Q, Q = S q := ⟨_, rfl⟩
  have HQE := hid hQ
  have hQz : Q.size ≤ 600 := by rw [hQ, S_size]; exact hql
  have HQ2 := hid (show ∀ W, Calls Tryd.prog 36 #[.string tx] W fun e w' => e = .returned (.string Q) ∧ Below W.heap.size W w' by rw [hQ]; exact HQ.out)
  clear hQ hql HQ
  have HB := hid (belowA w (.cells #[.int .i64 11, .string tx, .int .i64 nu, kv] 45))
  have HX := hid (heap_alloc_new w (.cells #[.int .i64 11, .string tx, .int .i64 nu, kv] 45))
  go_enter Tryd.func39, Tryd.ntmps39
  go_upto_region 1 with (fail)
  have ⟨x0, x1, x2, x3⟩ := cells4 HX.out
  generalize w.alloc (.cells #[.int .i64 11, .string tx, .int .i64 nu, kv] 45) = X at *
  go_upto_region 2 with (first | (go_at_call 36; refine (HQ2.out _).mono ?_; rintro e w1 ⟨rfl, l1⟩; have L1 := hid l1; clear l1; have ⟨y0, y1, y2, y3⟩ := cells4 ((L1.out.block _ (lt_blk HX.out)).trans HX.out)))
  clear x0 x1 x2 x3
  go_wp2_with (fail)
  go_ret
  refine ⟨?_, bch HB.out L1.out⟩
  show Ending.returned (.string (Q)) = Ending.returned (.string (S (q)))
  try rw [HQE.out]
  try simp only [S_app]
  try simp
set_option maxHeartbeats 4000000 in
set_option maxRecDepth 100000 in
theorem leaf_12 (tx : ByteArray) (nu : Int) (kv : Value) (hnu : -999999999999999999 ≤ nu ∧ nu ≤ 999999999999999999) (w : World) (ht : tx.size ≤ 127) :
    Calls Tryd.prog 39 #[.agg #[.int .i64 12, .string tx, .int .i64 nu, kv]] w fun e w' => e = .returned (.string (S (Lib.itoa nu))) ∧ Below w.heap.size w w' := by
  have HQ := hid (fun W => rquote_any tx W (by omega))
  have hql := quote_len (tx_len ht)
  generalize quoteL tx.data.toList = q at *
  obtain ⟨Q, hQ⟩ : ∃ Q, Q = S q := ⟨_, rfl⟩
  have HQE := hid hQ
  have hQz : Q.size ≤ 600 := by rw [hQ, S_size]; exact hql
  have HQ2 := hid (show ∀ W, Calls Tryd.prog 36 #[.string tx] W fun e w' => e = .returned (.string Q) ∧ Below W.heap.size W w' by rw [hQ]; exact HQ.out)
  clear hQ hql HQ
  have HDG := hid (fun W => rdig_any nu W hnu.1 hnu.2)
  generalize S (Lib.itoa nu) = R at *
  clear hnu
  have HB := hid (belowA w (.cells #[.int .i64 12, .string tx, .int .i64 nu, kv] 45))
  have HX := hid (heap_alloc_new w (.cells #[.int .i64 12, .string tx, .int .i64 nu, kv] 45))
  go_enter Tryd.func39, Tryd.ntmps39
  go_upto_region 1 with (fail)
  have ⟨x0, x1, x2, x3⟩ := cells4 HX.out
  generalize w.alloc (.cells #[.int .i64 12, .string tx, .int .i64 nu, kv] 45) = X at *
  go_upto_region 2 with (first | (go_at_call 36; refine (HQ2.out _).mono ?_; rintro e w1 ⟨rfl, l1⟩; have L1 := hid l1; clear l1; have ⟨y0, y1, y2, y3⟩ := cells4 ((L1.out.block _ (lt_blk HX.out)).trans HX.out)))
  clear x0 x1 x2 x3
  go_wp2_with ((go_at_call 56; refine (HDG.out _).mono ?_; rintro e w2 ⟨rfl, l2⟩; have L2 := hid l2; clear l2))
  go_ret
  refine ⟨?_, bch (bch HB.out L1.out) L2.out⟩
  rfl
set_option maxHeartbeats 4000000 in
set_option maxRecDepth 100000 in
theorem leaf_14 (tx : ByteArray) (nu : Int) (kv : Value) (hnu : 1 ≤ nu ∧ nu ≤ 3) (w : World) (ht : tx.size ≤ 127) :
    Calls Tryd.prog 39 #[.agg #[.int .i64 14, .string tx, .int .i64 nu, kv]] w fun e w' => e = .returned (.string (S (whoL nu ++ ([91] ++ (quoteL tx.data.toList ++ [93]))))) ∧ Below w.heap.size w w' := by
  have HQ := hid (fun W => rquote_any tx W (by omega))
  have hql := quote_len (tx_len ht)
  generalize quoteL tx.data.toList = q at *
  obtain ⟨Q, hQ⟩ : ∃ Q, Q = S q := ⟨_, rfl⟩
  have HQE := hid hQ
  have hQz : Q.size ≤ 600 := by rw [hQ, S_size]; exact hql
  have HQ2 := hid (show ∀ W, Calls Tryd.prog 36 #[.string tx] W fun e w' => e = .returned (.string Q) ∧ Below W.heap.size W w' by rw [hQ]; exact HQ.out)
  clear hQ hql HQ
  have HWO := hid (fun W => rwho_any nu W hnu)
  have hwl := who_len nu
  generalize whoL nu = wo at *
  obtain ⟨O, hO⟩ : ∃ O, O = S wo := ⟨_, rfl⟩
  have HOE := hid hO
  have hOz : O.size ≤ 10 := by rw [hO, S_size]; exact hwl
  rw [← hO] at HWO
  clear hO hwl hnu
  have HB := hid (belowA w (.cells #[.int .i64 14, .string tx, .int .i64 nu, kv] 45))
  have HX := hid (heap_alloc_new w (.cells #[.int .i64 14, .string tx, .int .i64 nu, kv] 45))
  go_enter Tryd.func39, Tryd.ntmps39
  go_upto_region 1 with (fail)
  have ⟨x0, x1, x2, x3⟩ := cells4 HX.out
  generalize w.alloc (.cells #[.int .i64 14, .string tx, .int .i64 nu, kv] 45) = X at *
  go_upto_region 2 with (first | (go_at_call 36; refine (HQ2.out _).mono ?_; rintro e w1 ⟨rfl, l1⟩; have L1 := hid l1; clear l1; have ⟨y0, y1, y2, y3⟩ := cells4 ((L1.out.block _ (lt_blk HX.out)).trans HX.out)))
  clear x0 x1 x2 x3
  go_wp2_with ((go_at_call 57; refine (HWO.out _).mono ?_; rintro e w2 ⟨rfl, hww⟩; have hw2 := hww.symm; clear hww; subst hw2))
  go_ret
  refine ⟨?_, bch HB.out L1.out⟩
  show Ending.returned (.string (O ++ S [91] ++ Q ++ S [93])) = Ending.returned (.string (S (wo ++ ([91] ++ (q ++ [93])))))
  try rw [HQE.out]
  try rw [HOE.out]
  try simp only [S_app]
  try simp
set_option maxHeartbeats 4000000 in
set_option maxRecDepth 100000 in
theorem leaf_15 (tx : ByteArray) (nu : Int) (kv : Value) (hnu : 1 ≤ nu ∧ nu ≤ 3) (w : World) (ht : tx.size ≤ 127) :
    Calls Tryd.prog 39 #[.agg #[.int .i64 15, .string tx, .int .i64 nu, kv]] w fun e w' => e = .returned (.string (S (whoL nu ++ [46, 110, 97, 109, 101]))) ∧ Below w.heap.size w w' := by
  have HQ := hid (fun W => rquote_any tx W (by omega))
  have hql := quote_len (tx_len ht)
  generalize quoteL tx.data.toList = q at *
  obtain ⟨Q, hQ⟩ : ∃ Q, Q = S q := ⟨_, rfl⟩
  have HQE := hid hQ
  have hQz : Q.size ≤ 600 := by rw [hQ, S_size]; exact hql
  have HQ2 := hid (show ∀ W, Calls Tryd.prog 36 #[.string tx] W fun e w' => e = .returned (.string Q) ∧ Below W.heap.size W w' by rw [hQ]; exact HQ.out)
  clear hQ hql HQ
  have HWO := hid (fun W => rwho_any nu W hnu)
  have hwl := who_len nu
  generalize whoL nu = wo at *
  obtain ⟨O, hO⟩ : ∃ O, O = S wo := ⟨_, rfl⟩
  have HOE := hid hO
  have hOz : O.size ≤ 10 := by rw [hO, S_size]; exact hwl
  rw [← hO] at HWO
  clear hO hwl hnu
  have HB := hid (belowA w (.cells #[.int .i64 15, .string tx, .int .i64 nu, kv] 45))
  have HX := hid (heap_alloc_new w (.cells #[.int .i64 15, .string tx, .int .i64 nu, kv] 45))
  go_enter Tryd.func39, Tryd.ntmps39
  go_upto_region 1 with (fail)
  have ⟨x0, x1, x2, x3⟩ := cells4 HX.out
  generalize w.alloc (.cells #[.int .i64 15, .string tx, .int .i64 nu, kv] 45) = X at *
  go_upto_region 2 with (first | (go_at_call 36; refine (HQ2.out _).mono ?_; rintro e w1 ⟨rfl, l1⟩; have L1 := hid l1; clear l1; have ⟨y0, y1, y2, y3⟩ := cells4 ((L1.out.block _ (lt_blk HX.out)).trans HX.out)))
  clear x0 x1 x2 x3
  go_wp2_with ((go_at_call 57; refine (HWO.out _).mono ?_; rintro e w2 ⟨rfl, hww⟩; have hw2 := hww.symm; clear hww; subst hw2))
  go_ret
  refine ⟨?_, bch HB.out L1.out⟩
  show Ending.returned (.string (O ++ S [46, 110, 97, 109, 101])) = Ending.returned (.string (S (wo ++ [46, 110, 97, 109, 101])))
  try rw [HQE.out]
  try rw [HOE.out]
  try simp only [S_app]
  try simp
set_option maxHeartbeats 4000000 in
set_option maxRecDepth 100000 in
theorem leaf_16 (tx : ByteArray) (nu : Int) (kv : Value) (hnu : 1 ≤ nu ∧ nu ≤ 3) (w : World) (ht : tx.size ≤ 127) :
    Calls Tryd.prog 39 #[.agg #[.int .i64 16, .string tx, .int .i64 nu, kv]] w fun e w' => e = .returned (.string (S (whoL nu ++ [46, 107, 101, 121, 115]))) ∧ Below w.heap.size w w' := by
  have HQ := hid (fun W => rquote_any tx W (by omega))
  have hql := quote_len (tx_len ht)
  generalize quoteL tx.data.toList = q at *
  obtain ⟨Q, hQ⟩ : ∃ Q, Q = S q := ⟨_, rfl⟩
  have HQE := hid hQ
  have hQz : Q.size ≤ 600 := by rw [hQ, S_size]; exact hql
  have HQ2 := hid (show ∀ W, Calls Tryd.prog 36 #[.string tx] W fun e w' => e = .returned (.string Q) ∧ Below W.heap.size W w' by rw [hQ]; exact HQ.out)
  clear hQ hql HQ
  have HWO := hid (fun W => rwho_any nu W hnu)
  have hwl := who_len nu
  generalize whoL nu = wo at *
  obtain ⟨O, hO⟩ : ∃ O, O = S wo := ⟨_, rfl⟩
  have HOE := hid hO
  have hOz : O.size ≤ 10 := by rw [hO, S_size]; exact hwl
  rw [← hO] at HWO
  clear hO hwl hnu
  have HB := hid (belowA w (.cells #[.int .i64 16, .string tx, .int .i64 nu, kv] 45))
  have HX := hid (heap_alloc_new w (.cells #[.int .i64 16, .string tx, .int .i64 nu, kv] 45))
  go_enter Tryd.func39, Tryd.ntmps39
  go_upto_region 1 with (fail)
  have ⟨x0, x1, x2, x3⟩ := cells4 HX.out
  generalize w.alloc (.cells #[.int .i64 16, .string tx, .int .i64 nu, kv] 45) = X at *
  go_upto_region 2 with (first | (go_at_call 36; refine (HQ2.out _).mono ?_; rintro e w1 ⟨rfl, l1⟩; have L1 := hid l1; clear l1; have ⟨y0, y1, y2, y3⟩ := cells4 ((L1.out.block _ (lt_blk HX.out)).trans HX.out)))
  clear x0 x1 x2 x3
  go_wp2_with ((go_at_call 57; refine (HWO.out _).mono ?_; rintro e w2 ⟨rfl, hww⟩; have hw2 := hww.symm; clear hww; subst hw2))
  go_ret
  refine ⟨?_, bch HB.out L1.out⟩
  show Ending.returned (.string (O ++ S [46, 107, 101, 121, 115])) = Ending.returned (.string (S (wo ++ [46, 107, 101, 121, 115])))
  try rw [HQE.out]
  try rw [HOE.out]
  try simp only [S_app]
  try simp
set_option maxHeartbeats 4000000 in
set_option maxRecDepth 100000 in
theorem leaf_17 (tx : ByteArray) (nu : Int) (kv : Value) (hnu : 1 ≤ nu ∧ nu ≤ 3) (w : World) (ht : tx.size ≤ 127) :
    Calls Tryd.prog 39 #[.agg #[.int .i64 17, .string tx, .int .i64 nu, kv]] w fun e w' => e = .returned (.string (S (whoL nu ++ [46, 116, 97, 105, 110, 116, 115]))) ∧ Below w.heap.size w w' := by
  have HQ := hid (fun W => rquote_any tx W (by omega))
  have hql := quote_len (tx_len ht)
  generalize quoteL tx.data.toList = q at *
  obtain ⟨Q, hQ⟩ : ∃ Q, Q = S q := ⟨_, rfl⟩
  have HQE := hid hQ
  have hQz : Q.size ≤ 600 := by rw [hQ, S_size]; exact hql
  have HQ2 := hid (show ∀ W, Calls Tryd.prog 36 #[.string tx] W fun e w' => e = .returned (.string Q) ∧ Below W.heap.size W w' by rw [hQ]; exact HQ.out)
  clear hQ hql HQ
  have HWO := hid (fun W => rwho_any nu W hnu)
  have hwl := who_len nu
  generalize whoL nu = wo at *
  obtain ⟨O, hO⟩ : ∃ O, O = S wo := ⟨_, rfl⟩
  have HOE := hid hO
  have hOz : O.size ≤ 10 := by rw [hO, S_size]; exact hwl
  rw [← hO] at HWO
  clear hO hwl hnu
  have HB := hid (belowA w (.cells #[.int .i64 17, .string tx, .int .i64 nu, kv] 45))
  have HX := hid (heap_alloc_new w (.cells #[.int .i64 17, .string tx, .int .i64 nu, kv] 45))
  go_enter Tryd.func39, Tryd.ntmps39
  go_upto_region 1 with (fail)
  have ⟨x0, x1, x2, x3⟩ := cells4 HX.out
  generalize w.alloc (.cells #[.int .i64 17, .string tx, .int .i64 nu, kv] 45) = X at *
  go_upto_region 2 with (first | (go_at_call 36; refine (HQ2.out _).mono ?_; rintro e w1 ⟨rfl, l1⟩; have L1 := hid l1; clear l1; have ⟨y0, y1, y2, y3⟩ := cells4 ((L1.out.block _ (lt_blk HX.out)).trans HX.out)))
  clear x0 x1 x2 x3
  go_wp2_with ((go_at_call 57; refine (HWO.out _).mono ?_; rintro e w2 ⟨rfl, hww⟩; have hw2 := hww.symm; clear hww; subst hw2))
  go_ret
  refine ⟨?_, bch HB.out L1.out⟩
  show Ending.returned (.string (O ++ S [46, 116, 97, 105, 110, 116, 115])) = Ending.returned (.string (S (wo ++ [46, 116, 97, 105, 110, 116, 115])))
  try rw [HQE.out]
  try rw [HOE.out]
  try simp only [S_app]
  try simp
set_option maxHeartbeats 4000000 in
set_option maxRecDepth 100000 in
theorem leaf_18 (tx : ByteArray) (nu : Int) (kv : Value) (hnu : 1 ≤ nu ∧ nu ≤ 3) (w : World) (ht : tx.size ≤ 127) :
    Calls Tryd.prog 39 #[.agg #[.int .i64 18, .string tx, .int .i64 nu, kv]] w fun e w' => e = .returned (.string (S ((whoL nu ++ [46, 99, 97, 112]) ++ ([40] ++ (quoteL tx.data.toList ++ [41]))))) ∧ Below w.heap.size w w' := by
  have HQ := hid (fun W => rquote_any tx W (by omega))
  have hql := quote_len (tx_len ht)
  generalize quoteL tx.data.toList = q at *
  obtain ⟨Q, hQ⟩ : ∃ Q, Q = S q := ⟨_, rfl⟩
  have HQE := hid hQ
  have hQz : Q.size ≤ 600 := by rw [hQ, S_size]; exact hql
  have HQ2 := hid (show ∀ W, Calls Tryd.prog 36 #[.string tx] W fun e w' => e = .returned (.string Q) ∧ Below W.heap.size W w' by rw [hQ]; exact HQ.out)
  clear hQ hql HQ
  have HWO := hid (fun W => rwho_any nu W hnu)
  have hwl := who_len nu
  generalize whoL nu = wo at *
  obtain ⟨O, hO⟩ : ∃ O, O = S wo := ⟨_, rfl⟩
  have HOE := hid hO
  have hOz : O.size ≤ 10 := by rw [hO, S_size]; exact hwl
  rw [← hO] at HWO
  clear hO hwl hnu
  have HB := hid (belowA w (.cells #[.int .i64 18, .string tx, .int .i64 nu, kv] 45))
  have HX := hid (heap_alloc_new w (.cells #[.int .i64 18, .string tx, .int .i64 nu, kv] 45))
  go_enter Tryd.func39, Tryd.ntmps39
  go_upto_region 1 with (fail)
  have ⟨x0, x1, x2, x3⟩ := cells4 HX.out
  generalize w.alloc (.cells #[.int .i64 18, .string tx, .int .i64 nu, kv] 45) = X at *
  go_upto_region 2 with (first | (go_at_call 36; refine (HQ2.out _).mono ?_; rintro e w1 ⟨rfl, l1⟩; have L1 := hid l1; clear l1; have ⟨y0, y1, y2, y3⟩ := cells4 ((L1.out.block _ (lt_blk HX.out)).trans HX.out)))
  clear x0 x1 x2 x3
  go_wp2_with ((go_at_call 57; refine (HWO.out _).mono ?_; rintro e w2 ⟨rfl, hww⟩; have hw2 := hww.symm; clear hww; subst hw2))
  go_ret
  refine ⟨?_, bch HB.out L1.out⟩
  show Ending.returned (.string (O ++ S [46, 99, 97, 112, 40] ++ Q ++ S [41])) = Ending.returned (.string (S ((wo ++ [46, 99, 97, 112]) ++ ([40] ++ (q ++ [41])))))
  try rw [HQE.out]
  try rw [HOE.out]
  try simp only [S_app]
  try simp
end Go.Proofs.YtdnoagebcolgbaaDoor.L
