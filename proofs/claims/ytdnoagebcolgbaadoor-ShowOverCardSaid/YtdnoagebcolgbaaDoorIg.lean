import Derived.Test.YtdnoagebcolgbaaDoorIf
namespace Go.Proofs.YtdnoagebcolgbaaDoor.L
open Go.RowKit Go.Shelf
set_option linter.unusedVariables false
theorem kid_plain (T : List Pt) (X : List (List UInt8)) (k x : Int) (h : k ≠ 3 ∧ k ≠ 4 ∧ k ≠ 5) : kidL T X k x = X.getD x.toNat [] := by
  unfold kidL
  rw [if_neg]
  unfold brB
  simp [h.1, h.2.1, h.2.2]
set_option maxHeartbeats 4000000 in
set_option maxRecDepth 100000 in
theorem rt_3 (a : Option Addr) (L cap : Nat) (tx : ByteArray) (nu : Int) (ka : Option Addr) (m kc gt n : Nat) (w : World) (ht : tx.size ≤ 127) (KS : List (List UInt8)) (hJ : ∀ W sep, Below w.heap.size w W → sep.length ≤ 10 → Calls Tryd.prog 37 #[.agg #[.slice a L cap], .agg #[.int .i64 3, .string tx, .int .i64 nu, .slice ka m kc], .slice (some ⟨gt, 0, none⟩) n n, .string (S sep)] W fun e w' => e = .returned (.string (S (Lib.join KS sep))) ∧ Below W.heap.size W w') (hJL : ∀ sep, sep.length ≤ 10 → (Lib.join KS sep).length ≤ 5000000) :
    Calls Tryd.prog 26 #[.agg #[.slice a L cap], .agg #[.int .i64 3, .string tx, .int .i64 nu, .slice ka m kc], .slice (some ⟨gt, 0, none⟩) n n] w fun e w' => e = .returned (.string (S ([33] ++ Lib.join KS []))) ∧ Below w.heap.size w w' := by
  have HQ := hid (fun W => rquote_any tx W (by omega))
  have hql := quote_len (tx_len ht)
  generalize quoteL tx.data.toList = q at *
  obtain ⟨Q, hQ⟩ : ∃ Q, Q = S q := ⟨_, rfl⟩
  have HQE := hid hQ
  have hQz : Q.size ≤ 600 := by rw [hQ, S_size]; exact hql
  have HQ2 := hid (show ∀ W, Calls Tryd.prog 36 #[.string tx] W fun e w' => e = .returned (.string Q) ∧ Below W.heap.size W w' by rw [hQ]; exact HQ.out)
  clear hQ hql HQ
  have HJ := hid (fun W hb => hJ W [] hb (by simp))
  have hjl := hJL [] (by simp)
  clear hJ hJL
  generalize Lib.join KS [] = jl at *
  obtain ⟨J, hJe⟩ : ∃ J, J = S jl := ⟨_, rfl⟩
  have HJE := hid hJe
  have hJz : J.size ≤ 5000000 := by rw [hJe, S_size]; exact hjl
  have HJ2 := hid (show ∀ W, Below w.heap.size w W → Calls Tryd.prog 37 #[.agg #[.slice a L cap], .agg #[.int .i64 3, .string tx, .int .i64 nu, .slice ka m kc], .slice (some ⟨gt, 0, none⟩) n n, .string (S [])] W fun e w' => e = .returned (.string J) ∧ Below W.heap.size W w' by rw [hJe]; exact HJ.out)
  clear hJe hjl HJ
  have HB0 := hid (belowA w (.cells #[.slice a L cap] 24))
  have HX0 := hid (Boxed.new w 24 (.slice a L cap))
  have HS0 := hid (show (w.alloc (.cells #[.slice a L cap] 24)).heap.size = w.heap.size + 1 by simp)
  go_enter Tryd.func26, Tryd.ntmps26
  go_upto_region 1 with (fail)
  generalize hY0 : w.alloc (.cells #[.slice a L cap] 24) = Y at *
  clear hY0
  have HB1 := hid (belowA Y (.cells #[.int .i64 3, .string tx, .int .i64 nu, .slice ka m kc] 45))
  have HX1 := hid (heap_alloc_new Y (.cells #[.int .i64 3, .string tx, .int .i64 nu, .slice ka m kc] 45))
  have HXV := hid (boxed_low HX0.out HB1.out)
  generalize hV0 : Y.alloc (.cells #[.int .i64 3, .string tx, .int .i64 nu, .slice ka m kc] 45) = V at *
  clear hV0
  rw [HS0.out] at HX1
  have HBV := hid (show Below w.heap.size w V from bch HB0.out HB1.out)
  generalize hpb : w.heap.size + 1 = pb at *
  have HPB := hid hpb
  clear hpb HB1 HX0
  have ⟨x0, x1, x2, x3⟩ := cells4 HX1.out
  go_upto_region 2 with (go_at_call 36; refine (HQ2.out _).mono ?_; rintro e w1 ⟨rfl, l1⟩; have L1 := hid l1; clear l1; have yt := (boxed_low HXV.out L1.out).cell; have ⟨y0, y1, y2, y3⟩ := cells4 ((L1.out.block _ (lt_blk HX1.out)).trans HX1.out))
  clear x0 x1 x2 x3
  have HB3 := hid (show Below w.heap.size w w1 from bch HBV.out L1.out)
  go_wp2_with (go_at_call 37; refine (HJ2.out _ HB3.out).mono ?_; rintro e w2 ⟨rfl, l2⟩; have L2 := hid l2; clear l2)
  go_ret
  refine ⟨?_, bch (bch HBV.out L1.out) L2.out⟩
  show Ending.returned (.string (S [33] ++ J)) = Ending.returned (.string (S ([33] ++ jl)))
  rw [HJE.out]
  try simp only [S_app]
  try simp
set_option maxHeartbeats 4000000 in
set_option maxRecDepth 100000 in
theorem rt_4 (a : Option Addr) (L cap : Nat) (tx : ByteArray) (nu : Int) (ka : Option Addr) (m kc gt n : Nat) (w : World) (ht : tx.size ≤ 127) (KS : List (List UInt8)) (hJ : ∀ W sep, Below w.heap.size w W → sep.length ≤ 10 → Calls Tryd.prog 37 #[.agg #[.slice a L cap], .agg #[.int .i64 4, .string tx, .int .i64 nu, .slice ka m kc], .slice (some ⟨gt, 0, none⟩) n n, .string (S sep)] W fun e w' => e = .returned (.string (S (Lib.join KS sep))) ∧ Below W.heap.size W w') (hJL : ∀ sep, sep.length ≤ 10 → (Lib.join KS sep).length ≤ 5000000) :
    Calls Tryd.prog 26 #[.agg #[.slice a L cap], .agg #[.int .i64 4, .string tx, .int .i64 nu, .slice ka m kc], .slice (some ⟨gt, 0, none⟩) n n] w fun e w' => e = .returned (.string (S (Lib.join KS [32, 38, 38, 32]))) ∧ Below w.heap.size w w' := by
  have HQ := hid (fun W => rquote_any tx W (by omega))
  have hql := quote_len (tx_len ht)
  generalize quoteL tx.data.toList = q at *
  obtain ⟨Q, hQ⟩ : ∃ Q, Q = S q := ⟨_, rfl⟩
  have HQE := hid hQ
  have hQz : Q.size ≤ 600 := by rw [hQ, S_size]; exact hql
  have HQ2 := hid (show ∀ W, Calls Tryd.prog 36 #[.string tx] W fun e w' => e = .returned (.string Q) ∧ Below W.heap.size W w' by rw [hQ]; exact HQ.out)
  clear hQ hql HQ
  have HJ := hid (fun W hb => hJ W [32, 38, 38, 32] hb (by simp))
  have hjl := hJL [32, 38, 38, 32] (by simp)
  clear hJ hJL
  generalize Lib.join KS [32, 38, 38, 32] = jl at *
  obtain ⟨J, hJe⟩ : ∃ J, J = S jl := ⟨_, rfl⟩
  have HJE := hid hJe
  have hJz : J.size ≤ 5000000 := by rw [hJe, S_size]; exact hjl
  have HJ2 := hid (show ∀ W, Below w.heap.size w W → Calls Tryd.prog 37 #[.agg #[.slice a L cap], .agg #[.int .i64 4, .string tx, .int .i64 nu, .slice ka m kc], .slice (some ⟨gt, 0, none⟩) n n, .string (S [32, 38, 38, 32])] W fun e w' => e = .returned (.string J) ∧ Below W.heap.size W w' by rw [hJe]; exact HJ.out)
  clear hJe hjl HJ
  have HB0 := hid (belowA w (.cells #[.slice a L cap] 24))
  have HX0 := hid (Boxed.new w 24 (.slice a L cap))
  have HS0 := hid (show (w.alloc (.cells #[.slice a L cap] 24)).heap.size = w.heap.size + 1 by simp)
  go_enter Tryd.func26, Tryd.ntmps26
  go_upto_region 1 with (fail)
  generalize hY0 : w.alloc (.cells #[.slice a L cap] 24) = Y at *
  clear hY0
  have HB1 := hid (belowA Y (.cells #[.int .i64 4, .string tx, .int .i64 nu, .slice ka m kc] 45))
  have HX1 := hid (heap_alloc_new Y (.cells #[.int .i64 4, .string tx, .int .i64 nu, .slice ka m kc] 45))
  have HXV := hid (boxed_low HX0.out HB1.out)
  generalize hV0 : Y.alloc (.cells #[.int .i64 4, .string tx, .int .i64 nu, .slice ka m kc] 45) = V at *
  clear hV0
  rw [HS0.out] at HX1
  have HBV := hid (show Below w.heap.size w V from bch HB0.out HB1.out)
  generalize hpb : w.heap.size + 1 = pb at *
  have HPB := hid hpb
  clear hpb HB1 HX0
  have ⟨x0, x1, x2, x3⟩ := cells4 HX1.out
  go_upto_region 2 with (go_at_call 36; refine (HQ2.out _).mono ?_; rintro e w1 ⟨rfl, l1⟩; have L1 := hid l1; clear l1; have yt := (boxed_low HXV.out L1.out).cell; have ⟨y0, y1, y2, y3⟩ := cells4 ((L1.out.block _ (lt_blk HX1.out)).trans HX1.out))
  clear x0 x1 x2 x3
  have HB3 := hid (show Below w.heap.size w w1 from bch HBV.out L1.out)
  go_wp2_with (go_at_call 37; refine (HJ2.out _ HB3.out).mono ?_; rintro e w2 ⟨rfl, l2⟩; have L2 := hid l2; clear l2)
  go_ret
  refine ⟨?_, bch (bch HBV.out L1.out) L2.out⟩
  show Ending.returned (.string (J)) = Ending.returned (.string (S (jl)))
  rw [HJE.out]
  try simp only [S_app]
  try simp
set_option maxHeartbeats 4000000 in
set_option maxRecDepth 100000 in
theorem rt_5 (a : Option Addr) (L cap : Nat) (tx : ByteArray) (nu : Int) (ka : Option Addr) (m kc gt n : Nat) (w : World) (ht : tx.size ≤ 127) (KS : List (List UInt8)) (hJ : ∀ W sep, Below w.heap.size w W → sep.length ≤ 10 → Calls Tryd.prog 37 #[.agg #[.slice a L cap], .agg #[.int .i64 5, .string tx, .int .i64 nu, .slice ka m kc], .slice (some ⟨gt, 0, none⟩) n n, .string (S sep)] W fun e w' => e = .returned (.string (S (Lib.join KS sep))) ∧ Below W.heap.size W w') (hJL : ∀ sep, sep.length ≤ 10 → (Lib.join KS sep).length ≤ 5000000) :
    Calls Tryd.prog 26 #[.agg #[.slice a L cap], .agg #[.int .i64 5, .string tx, .int .i64 nu, .slice ka m kc], .slice (some ⟨gt, 0, none⟩) n n] w fun e w' => e = .returned (.string (S (Lib.join KS [32, 124, 124, 32]))) ∧ Below w.heap.size w w' := by
  have HQ := hid (fun W => rquote_any tx W (by omega))
  have hql := quote_len (tx_len ht)
  generalize quoteL tx.data.toList = q at *
  obtain ⟨Q, hQ⟩ : ∃ Q, Q = S q := ⟨_, rfl⟩
  have HQE := hid hQ
  have hQz : Q.size ≤ 600 := by rw [hQ, S_size]; exact hql
  have HQ2 := hid (show ∀ W, Calls Tryd.prog 36 #[.string tx] W fun e w' => e = .returned (.string Q) ∧ Below W.heap.size W w' by rw [hQ]; exact HQ.out)
  clear hQ hql HQ
  have HJ := hid (fun W hb => hJ W [32, 124, 124, 32] hb (by simp))
  have hjl := hJL [32, 124, 124, 32] (by simp)
  clear hJ hJL
  generalize Lib.join KS [32, 124, 124, 32] = jl at *
  obtain ⟨J, hJe⟩ : ∃ J, J = S jl := ⟨_, rfl⟩
  have HJE := hid hJe
  have hJz : J.size ≤ 5000000 := by rw [hJe, S_size]; exact hjl
  have HJ2 := hid (show ∀ W, Below w.heap.size w W → Calls Tryd.prog 37 #[.agg #[.slice a L cap], .agg #[.int .i64 5, .string tx, .int .i64 nu, .slice ka m kc], .slice (some ⟨gt, 0, none⟩) n n, .string (S [32, 124, 124, 32])] W fun e w' => e = .returned (.string J) ∧ Below W.heap.size W w' by rw [hJe]; exact HJ.out)
  clear hJe hjl HJ
  have HB0 := hid (belowA w (.cells #[.slice a L cap] 24))
  have HX0 := hid (Boxed.new w 24 (.slice a L cap))
  have HS0 := hid (show (w.alloc (.cells #[.slice a L cap] 24)).heap.size = w.heap.size + 1 by simp)
  go_enter Tryd.func26, Tryd.ntmps26
  go_upto_region 1 with (fail)
  generalize hY0 : w.alloc (.cells #[.slice a L cap] 24) = Y at *
  clear hY0
  have HB1 := hid (belowA Y (.cells #[.int .i64 5, .string tx, .int .i64 nu, .slice ka m kc] 45))
  have HX1 := hid (heap_alloc_new Y (.cells #[.int .i64 5, .string tx, .int .i64 nu, .slice ka m kc] 45))
  have HXV := hid (boxed_low HX0.out HB1.out)
  generalize hV0 : Y.alloc (.cells #[.int .i64 5, .string tx, .int .i64 nu, .slice ka m kc] 45) = V at *
  clear hV0
  rw [HS0.out] at HX1
  have HBV := hid (show Below w.heap.size w V from bch HB0.out HB1.out)
  generalize hpb : w.heap.size + 1 = pb at *
  have HPB := hid hpb
  clear hpb HB1 HX0
  have ⟨x0, x1, x2, x3⟩ := cells4 HX1.out
  go_upto_region 2 with (go_at_call 36; refine (HQ2.out _).mono ?_; rintro e w1 ⟨rfl, l1⟩; have L1 := hid l1; clear l1; have yt := (boxed_low HXV.out L1.out).cell; have ⟨y0, y1, y2, y3⟩ := cells4 ((L1.out.block _ (lt_blk HX1.out)).trans HX1.out))
  clear x0 x1 x2 x3
  have HB3 := hid (show Below w.heap.size w w1 from bch HBV.out L1.out)
  go_wp2_with (go_at_call 37; refine (HJ2.out _ HB3.out).mono ?_; rintro e w2 ⟨rfl, l2⟩; have L2 := hid l2; clear l2)
  go_ret
  refine ⟨?_, bch (bch HBV.out L1.out) L2.out⟩
  show Ending.returned (.string (J)) = Ending.returned (.string (S (jl)))
  rw [HJE.out]
  try simp only [S_app]
  try simp
set_option maxHeartbeats 4000000 in
set_option maxRecDepth 100000 in
theorem rt_13 (a : Option Addr) (L cap : Nat) (tx : ByteArray) (nu : Int) (ka : Option Addr) (m kc gt n : Nat) (w : World) (ht : tx.size ≤ 127) (KS : List (List UInt8)) (hJ : ∀ W sep, Below w.heap.size w W → sep.length ≤ 10 → Calls Tryd.prog 37 #[.agg #[.slice a L cap], .agg #[.int .i64 13, .string tx, .int .i64 nu, .slice ka m kc], .slice (some ⟨gt, 0, none⟩) n n, .string (S sep)] W fun e w' => e = .returned (.string (S (Lib.join KS sep))) ∧ Below W.heap.size W w') (hJL : ∀ sep, sep.length ≤ 10 → (Lib.join KS sep).length ≤ 5000000) :
    Calls Tryd.prog 26 #[.agg #[.slice a L cap], .agg #[.int .i64 13, .string tx, .int .i64 nu, .slice ka m kc], .slice (some ⟨gt, 0, none⟩) n n] w fun e w' => e = .returned (.string (S ([123] ++ (Lib.join KS [44, 32] ++ [125])))) ∧ Below w.heap.size w w' := by
  have HQ := hid (fun W => rquote_any tx W (by omega))
  have hql := quote_len (tx_len ht)
  generalize quoteL tx.data.toList = q at *
  obtain ⟨Q, hQ⟩ : ∃ Q, Q = S q := ⟨_, rfl⟩
  have HQE := hid hQ
  have hQz : Q.size ≤ 600 := by rw [hQ, S_size]; exact hql
  have HQ2 := hid (show ∀ W, Calls Tryd.prog 36 #[.string tx] W fun e w' => e = .returned (.string Q) ∧ Below W.heap.size W w' by rw [hQ]; exact HQ.out)
  clear hQ hql HQ
  have HJ := hid (fun W hb => hJ W [44, 32] hb (by simp))
  have hjl := hJL [44, 32] (by simp)
  clear hJ hJL
  generalize Lib.join KS [44, 32] = jl at *
  obtain ⟨J, hJe⟩ : ∃ J, J = S jl := ⟨_, rfl⟩
  have HJE := hid hJe
  have hJz : J.size ≤ 5000000 := by rw [hJe, S_size]; exact hjl
  have HJ2 := hid (show ∀ W, Below w.heap.size w W → Calls Tryd.prog 37 #[.agg #[.slice a L cap], .agg #[.int .i64 13, .string tx, .int .i64 nu, .slice ka m kc], .slice (some ⟨gt, 0, none⟩) n n, .string (S [44, 32])] W fun e w' => e = .returned (.string J) ∧ Below W.heap.size W w' by rw [hJe]; exact HJ.out)
  clear hJe hjl HJ
  have HB0 := hid (belowA w (.cells #[.slice a L cap] 24))
  have HX0 := hid (Boxed.new w 24 (.slice a L cap))
  have HS0 := hid (show (w.alloc (.cells #[.slice a L cap] 24)).heap.size = w.heap.size + 1 by simp)
  go_enter Tryd.func26, Tryd.ntmps26
  go_upto_region 1 with (fail)
  generalize hY0 : w.alloc (.cells #[.slice a L cap] 24) = Y at *
  clear hY0
  have HB1 := hid (belowA Y (.cells #[.int .i64 13, .string tx, .int .i64 nu, .slice ka m kc] 45))
  have HX1 := hid (heap_alloc_new Y (.cells #[.int .i64 13, .string tx, .int .i64 nu, .slice ka m kc] 45))
  have HXV := hid (boxed_low HX0.out HB1.out)
  generalize hV0 : Y.alloc (.cells #[.int .i64 13, .string tx, .int .i64 nu, .slice ka m kc] 45) = V at *
  clear hV0
  rw [HS0.out] at HX1
  have HBV := hid (show Below w.heap.size w V from bch HB0.out HB1.out)
  generalize hpb : w.heap.size + 1 = pb at *
  have HPB := hid hpb
  clear hpb HB1 HX0
  have ⟨x0, x1, x2, x3⟩ := cells4 HX1.out
  go_upto_region 2 with (go_at_call 36; refine (HQ2.out _).mono ?_; rintro e w1 ⟨rfl, l1⟩; have L1 := hid l1; clear l1; have yt := (boxed_low HXV.out L1.out).cell; have ⟨y0, y1, y2, y3⟩ := cells4 ((L1.out.block _ (lt_blk HX1.out)).trans HX1.out))
  clear x0 x1 x2 x3
  have HB3 := hid (show Below w.heap.size w w1 from bch HBV.out L1.out)
  go_wp2_with (go_at_call 37; refine (HJ2.out _ HB3.out).mono ?_; rintro e w2 ⟨rfl, l2⟩; have L2 := hid l2; clear l2)
  go_ret
  refine ⟨?_, bch (bch HBV.out L1.out) L2.out⟩
  show Ending.returned (.string (S [123] ++ J ++ S [125])) = Ending.returned (.string (S ([123] ++ (jl ++ [125]))))
  rw [HJE.out]
  try simp only [S_app]
  try simp
set_option maxHeartbeats 4000000 in
set_option maxRecDepth 100000 in
theorem rt_7a (a : Option Addr) (L cap : Nat) (tx : ByteArray) (ka : Option Addr) (m kc gt n : Nat) (w : World) (ht : tx.size ≤ 127) (KS : List (List UInt8)) (hJ : ∀ W sep, Below w.heap.size w W → sep.length ≤ 10 → Calls Tryd.prog 37 #[.agg #[.slice a L cap], .agg #[.int .i64 7, .string tx, .int .i64 1, .slice ka m kc], .slice (some ⟨gt, 0, none⟩) n n, .string (S sep)] W fun e w' => e = .returned (.string (S (Lib.join KS sep))) ∧ Below W.heap.size W w') (hJL : ∀ sep, sep.length ≤ 10 → (Lib.join KS sep).length ≤ 5000000) :
    Calls Tryd.prog 26 #[.agg #[.slice a L cap], .agg #[.int .i64 7, .string tx, .int .i64 1, .slice ka m kc], .slice (some ⟨gt, 0, none⟩) n n] w fun e w' => e = .returned (.string (S (Lib.join KS [32, 110, 111, 116, 105, 110, 32]))) ∧ Below w.heap.size w w' := by
  have HQ := hid (fun W => rquote_any tx W (by omega))
  have hql := quote_len (tx_len ht)
  generalize quoteL tx.data.toList = q at *
  obtain ⟨Q, hQ⟩ : ∃ Q, Q = S q := ⟨_, rfl⟩
  have HQE := hid hQ
  have hQz : Q.size ≤ 600 := by rw [hQ, S_size]; exact hql
  have HQ2 := hid (show ∀ W, Calls Tryd.prog 36 #[.string tx] W fun e w' => e = .returned (.string Q) ∧ Below W.heap.size W w' by rw [hQ]; exact HQ.out)
  clear hQ hql HQ
  have HJ := hid (fun W hb => hJ W [32, 110, 111, 116, 105, 110, 32] hb (by simp))
  have hjl := hJL [32, 110, 111, 116, 105, 110, 32] (by simp)
  clear hJ hJL
  generalize Lib.join KS [32, 110, 111, 116, 105, 110, 32] = jl at *
  obtain ⟨J, hJe⟩ : ∃ J, J = S jl := ⟨_, rfl⟩
  have HJE := hid hJe
  have hJz : J.size ≤ 5000000 := by rw [hJe, S_size]; exact hjl
  have HJ2 := hid (show ∀ W, Below w.heap.size w W → Calls Tryd.prog 37 #[.agg #[.slice a L cap], .agg #[.int .i64 7, .string tx, .int .i64 1, .slice ka m kc], .slice (some ⟨gt, 0, none⟩) n n, .string (S [32, 110, 111, 116, 105, 110, 32])] W fun e w' => e = .returned (.string J) ∧ Below W.heap.size W w' by rw [hJe]; exact HJ.out)
  clear hJe hjl HJ
  have HB0 := hid (belowA w (.cells #[.slice a L cap] 24))
  have HX0 := hid (Boxed.new w 24 (.slice a L cap))
  have HS0 := hid (show (w.alloc (.cells #[.slice a L cap] 24)).heap.size = w.heap.size + 1 by simp)
  go_enter Tryd.func26, Tryd.ntmps26
  go_upto_region 1 with (fail)
  generalize hY0 : w.alloc (.cells #[.slice a L cap] 24) = Y at *
  clear hY0
  have HB1 := hid (belowA Y (.cells #[.int .i64 7, .string tx, .int .i64 1, .slice ka m kc] 45))
  have HX1 := hid (heap_alloc_new Y (.cells #[.int .i64 7, .string tx, .int .i64 1, .slice ka m kc] 45))
  have HXV := hid (boxed_low HX0.out HB1.out)
  generalize hV0 : Y.alloc (.cells #[.int .i64 7, .string tx, .int .i64 1, .slice ka m kc] 45) = V at *
  clear hV0
  rw [HS0.out] at HX1
  have HBV := hid (show Below w.heap.size w V from bch HB0.out HB1.out)
  generalize hpb : w.heap.size + 1 = pb at *
  have HPB := hid hpb
  clear hpb HB1 HX0
  have ⟨x0, x1, x2, x3⟩ := cells4 HX1.out
  go_upto_region 2 with (go_at_call 36; refine (HQ2.out _).mono ?_; rintro e w1 ⟨rfl, l1⟩; have L1 := hid l1; clear l1; have yt := (boxed_low HXV.out L1.out).cell; have ⟨y0, y1, y2, y3⟩ := cells4 ((L1.out.block _ (lt_blk HX1.out)).trans HX1.out))
  clear x0 x1 x2 x3
  have HB3 := hid (show Below w.heap.size w w1 from bch HBV.out L1.out)
  go_wp2_with (go_at_call 37; refine (HJ2.out _ HB3.out).mono ?_; rintro e w2 ⟨rfl, l2⟩; have L2 := hid l2; clear l2)
  go_ret
  refine ⟨?_, bch (bch HBV.out L1.out) L2.out⟩
  show Ending.returned (.string (J)) = Ending.returned (.string (S (jl)))
  rw [HJE.out]
  try simp only [S_app]
  try simp
set_option maxHeartbeats 4000000 in
set_option maxRecDepth 100000 in
theorem rt_7b (a : Option Addr) (L cap : Nat) (tx : ByteArray) (ka : Option Addr) (m kc gt n : Nat) (w : World) (ht : tx.size ≤ 127) (KS : List (List UInt8)) (hJ : ∀ W sep, Below w.heap.size w W → sep.length ≤ 10 → Calls Tryd.prog 37 #[.agg #[.slice a L cap], .agg #[.int .i64 7, .string tx, .int .i64 0, .slice ka m kc], .slice (some ⟨gt, 0, none⟩) n n, .string (S sep)] W fun e w' => e = .returned (.string (S (Lib.join KS sep))) ∧ Below W.heap.size W w') (hJL : ∀ sep, sep.length ≤ 10 → (Lib.join KS sep).length ≤ 5000000) :
    Calls Tryd.prog 26 #[.agg #[.slice a L cap], .agg #[.int .i64 7, .string tx, .int .i64 0, .slice ka m kc], .slice (some ⟨gt, 0, none⟩) n n] w fun e w' => e = .returned (.string (S (Lib.join KS [32, 105, 110, 32]))) ∧ Below w.heap.size w w' := by
  have HQ := hid (fun W => rquote_any tx W (by omega))
  have hql := quote_len (tx_len ht)
  generalize quoteL tx.data.toList = q at *
  obtain ⟨Q, hQ⟩ : ∃ Q, Q = S q := ⟨_, rfl⟩
  have HQE := hid hQ
  have hQz : Q.size ≤ 600 := by rw [hQ, S_size]; exact hql
  have HQ2 := hid (show ∀ W, Calls Tryd.prog 36 #[.string tx] W fun e w' => e = .returned (.string Q) ∧ Below W.heap.size W w' by rw [hQ]; exact HQ.out)
  clear hQ hql HQ
  have HJ := hid (fun W hb => hJ W [32, 105, 110, 32] hb (by simp))
  have hjl := hJL [32, 105, 110, 32] (by simp)
  clear hJ hJL
  generalize Lib.join KS [32, 105, 110, 32] = jl at *
  obtain ⟨J, hJe⟩ : ∃ J, J = S jl := ⟨_, rfl⟩
  have HJE := hid hJe
  have hJz : J.size ≤ 5000000 := by rw [hJe, S_size]; exact hjl
  have HJ2 := hid (show ∀ W, Below w.heap.size w W → Calls Tryd.prog 37 #[.agg #[.slice a L cap], .agg #[.int .i64 7, .string tx, .int .i64 0, .slice ka m kc], .slice (some ⟨gt, 0, none⟩) n n, .string (S [32, 105, 110, 32])] W fun e w' => e = .returned (.string J) ∧ Below W.heap.size W w' by rw [hJe]; exact HJ.out)
  clear hJe hjl HJ
  have HB0 := hid (belowA w (.cells #[.slice a L cap] 24))
  have HX0 := hid (Boxed.new w 24 (.slice a L cap))
  have HS0 := hid (show (w.alloc (.cells #[.slice a L cap] 24)).heap.size = w.heap.size + 1 by simp)
  go_enter Tryd.func26, Tryd.ntmps26
  go_upto_region 1 with (fail)
  generalize hY0 : w.alloc (.cells #[.slice a L cap] 24) = Y at *
  clear hY0
  have HB1 := hid (belowA Y (.cells #[.int .i64 7, .string tx, .int .i64 0, .slice ka m kc] 45))
  have HX1 := hid (heap_alloc_new Y (.cells #[.int .i64 7, .string tx, .int .i64 0, .slice ka m kc] 45))
  have HXV := hid (boxed_low HX0.out HB1.out)
  generalize hV0 : Y.alloc (.cells #[.int .i64 7, .string tx, .int .i64 0, .slice ka m kc] 45) = V at *
  clear hV0
  rw [HS0.out] at HX1
  have HBV := hid (show Below w.heap.size w V from bch HB0.out HB1.out)
  generalize hpb : w.heap.size + 1 = pb at *
  have HPB := hid hpb
  clear hpb HB1 HX0
  have ⟨x0, x1, x2, x3⟩ := cells4 HX1.out
  go_upto_region 2 with (go_at_call 36; refine (HQ2.out _).mono ?_; rintro e w1 ⟨rfl, l1⟩; have L1 := hid l1; clear l1; have yt := (boxed_low HXV.out L1.out).cell; have ⟨y0, y1, y2, y3⟩ := cells4 ((L1.out.block _ (lt_blk HX1.out)).trans HX1.out))
  clear x0 x1 x2 x3
  have HB3 := hid (show Below w.heap.size w w1 from bch HBV.out L1.out)
  go_wp2_with (go_at_call 37; refine (HJ2.out _ HB3.out).mono ?_; rintro e w2 ⟨rfl, l2⟩; have L2 := hid l2; clear l2)
  go_ret
  refine ⟨?_, bch (bch HBV.out L1.out) L2.out⟩
  show Ending.returned (.string (J)) = Ending.returned (.string (S (jl)))
  rw [HJE.out]
  try simp only [S_app]
  try simp
end Go.Proofs.YtdnoagebcolgbaaDoor.L
