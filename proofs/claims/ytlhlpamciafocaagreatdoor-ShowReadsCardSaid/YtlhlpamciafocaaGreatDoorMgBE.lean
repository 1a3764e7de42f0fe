import Derived.Test.YtlhlpamciafocaaGreatDoorMgBD
namespace Go.Proofs.YtlhlpamciafocaaGreatDoor.L.Sw
open Go.RowKit Go.Shelf
set_option linter.unusedVariables false
set_option maxHeartbeats 4000000 in
set_option maxRecDepth 100000 in
theorem cond_8 (tx : ByteArray) (nu : Int) (kv : Value) (g : Nat) (a : List UInt8) (ha : a.length ≤ 4098) (w : World) (ht : tx.size ≤ 127) (hK : Kd w g [a]) :
    Calls Tryz.prog 30 #[.agg #[.int .i64 8, .string tx, .int .i64 nu, kv], .slice (some ⟨g, 0, none⟩) 1 1] w fun e w' => e = .returned (.string (S ([110, 101, 97, 114] ++ ([40] ++ ((quoteL tx.data.toList ++ ([44, 32] ++ a)) ++ [41]))))) ∧ Below w.heap.size w w' := by
  have HQ := hid (fun W => quote_any tx W (by omega))
  have hql := quote_len (tx_len ht)
  generalize quoteL tx.data.toList = q at *
  have HB := hid (belowA w (.cells #[.int .i64 8, .string tx, .int .i64 nu, kv] 50))
  have HC := hid (cells4 (heap_alloc_new w (.cells #[.int .i64 8, .string tx, .int .i64 nu, kv] 50)))
  have HXL := hid (lt_blk (heap_alloc_new w (.cells #[.int .i64 8, .string tx, .int .i64 nu, kv] 50)))
  have HW := hid (fun (V : World) (bk : Nat) (h1 : ∀ j x, [q, a][j]? = some x → V.cell? ⟨bk, j, none⟩ = some (.string (S x))) (h2 : bk < V.heap.size) => call_any [110, 101, 97, 114] bk [q, a] 2 V rfl h1 h2 (by simp) (by intro x hx; simp at hx; rcases hx with rfl | rfl <;> omega) (by simp))
  simp only [join_two] at HW
  generalize S ([110, 101, 97, 114] ++ ([40] ++ ((q ++ ([44, 32] ++ a)) ++ [41]))) = R at *
  go_enter Tryz.func30, Tryz.ntmps30
  go_upto_region 1 with (fail)
  have ⟨x0, x1, x2, x3⟩ := HC.out
  have HK := hid (hK.low HB.out)
  have y0 := HK.out.cell 0 _ rfl
  have HGL := hid HK.out.lt
  clear hK
  generalize w.alloc (.cells #[.int .i64 8, .string tx, .int .i64 nu, kv] 50) = X at *
  go_upto_region 17 with (fail)
  go_region_held3 (fun Y => Y.cell? ⟨w.heap.size, 1, none⟩ = some (.string tx) ∧ Y.cell? ⟨g, 0, none⟩ = some (.string (S a))) (first | exact ⟨x1, y0⟩ | (refine ⟨?_, ?_⟩ <;> assumption) | go_keep)
    (first
      | (go_at_call 47; refine (HQ.out _).mono ?_; rintro e w1 ⟨rfl, l1⟩; have a1 := (l1.cell (p := ⟨w.heap.size, 1, none⟩) HXL.out).trans x1; have a2 := (l1.cell (p := ⟨g, 0, none⟩) HGL.out).trans y0; have L1 := hid l1; clear l1)
      | (go_at_call 46; refine (HW.out _ _ (by exact new_txt w1 [q, a]) (by exact lt_blk (heap_alloc_new w1 _))).mono ?_; rintro e w2 ⟨rfl, l2⟩; have M2 := hid (show Below X.heap.size X w2 from by first | exact bch (bch (undrew L1.out) (belowA w1 _)) l2 | exact bch (bch (undrew L1.out) (belowA w1 _)) (undrew l2)); clear l2; have b1 := (M2.out.cell (p := ⟨w.heap.size, 1, none⟩) HXL.out).trans x1; have b2 := (M2.out.cell (p := ⟨g, 0, none⟩) HGL.out).trans y0))
  go_wp2_with fail
  go_ret
  exact ⟨rfl, bch HB.out M2.out⟩
set_option maxHeartbeats 4000000 in
set_option maxRecDepth 100000 in
theorem cond_9 (tx : ByteArray) (nu : Int) (kv : Value) (g : Nat) (a : List UInt8) (ha : a.length ≤ 4098) (w : World) (ht : tx.size ≤ 127) (hK : Kd w g [a]) :
    Calls Tryz.prog 30 #[.agg #[.int .i64 9, .string tx, .int .i64 nu, kv], .slice (some ⟨g, 0, none⟩) 1 1] w fun e w' => e = .returned (.string (S ([97, 112, 97, 114, 116] ++ ([40] ++ ((quoteL tx.data.toList ++ ([44, 32] ++ a)) ++ [41]))))) ∧ Below w.heap.size w w' := by
  have HQ := hid (fun W => quote_any tx W (by omega))
  have hql := quote_len (tx_len ht)
  generalize quoteL tx.data.toList = q at *
  have HB := hid (belowA w (.cells #[.int .i64 9, .string tx, .int .i64 nu, kv] 50))
  have HC := hid (cells4 (heap_alloc_new w (.cells #[.int .i64 9, .string tx, .int .i64 nu, kv] 50)))
  have HXL := hid (lt_blk (heap_alloc_new w (.cells #[.int .i64 9, .string tx, .int .i64 nu, kv] 50)))
  have HW := hid (fun (V : World) (bk : Nat) (h1 : ∀ j x, [q, a][j]? = some x → V.cell? ⟨bk, j, none⟩ = some (.string (S x))) (h2 : bk < V.heap.size) => call_any [97, 112, 97, 114, 116] bk [q, a] 2 V rfl h1 h2 (by simp) (by intro x hx; simp at hx; rcases hx with rfl | rfl <;> omega) (by simp))
  simp only [join_two] at HW
  generalize S ([97, 112, 97, 114, 116] ++ ([40] ++ ((q ++ ([44, 32] ++ a)) ++ [41]))) = R at *
  go_enter Tryz.func30, Tryz.ntmps30
  go_upto_region 1 with (fail)
  have ⟨x0, x1, x2, x3⟩ := HC.out
  have HK := hid (hK.low HB.out)
  have y0 := HK.out.cell 0 _ rfl
  have HGL := hid HK.out.lt
  clear hK
  generalize w.alloc (.cells #[.int .i64 9, .string tx, .int .i64 nu, kv] 50) = X at *
  go_upto_region 19 with (fail)
  go_region_held3 (fun Y => Y.cell? ⟨w.heap.size, 1, none⟩ = some (.string tx) ∧ Y.cell? ⟨g, 0, none⟩ = some (.string (S a))) (first | exact ⟨x1, y0⟩ | (refine ⟨?_, ?_⟩ <;> assumption) | go_keep)
    (first
      | (go_at_call 47; refine (HQ.out _).mono ?_; rintro e w1 ⟨rfl, l1⟩; have a1 := (l1.cell (p := ⟨w.heap.size, 1, none⟩) HXL.out).trans x1; have a2 := (l1.cell (p := ⟨g, 0, none⟩) HGL.out).trans y0; have L1 := hid l1; clear l1)
      | (go_at_call 46; refine (HW.out _ _ (by exact new_txt w1 [q, a]) (by exact lt_blk (heap_alloc_new w1 _))).mono ?_; rintro e w2 ⟨rfl, l2⟩; have M2 := hid (show Below X.heap.size X w2 from by first | exact bch (bch (undrew L1.out) (belowA w1 _)) l2 | exact bch (bch (undrew L1.out) (belowA w1 _)) (undrew l2)); clear l2; have b1 := (M2.out.cell (p := ⟨w.heap.size, 1, none⟩) HXL.out).trans x1; have b2 := (M2.out.cell (p := ⟨g, 0, none⟩) HGL.out).trans y0))
  go_wp2_with fail
  go_ret
  exact ⟨rfl, bch HB.out M2.out⟩
set_option maxHeartbeats 4000000 in
set_option maxRecDepth 100000 in
theorem term_20 (tx : ByteArray) (nu : Int) (kv : Value) (g : Nat) (a : List UInt8) (ha : a.length ≤ 4098) (w : World) (ht : tx.size ≤ 127) (hK : Kd w g [a]) :
    Calls Tryz.prog 48 #[.agg #[.int .i64 20, .string tx, .int .i64 nu, kv], .slice (some ⟨g, 0, none⟩) 1 1] w fun e w' => e = .returned (.string (S ([99, 111, 117, 110, 116] ++ ([40] ++ ((quoteL tx.data.toList ++ ([44, 32] ++ a)) ++ [41]))))) ∧ Below w.heap.size w w' := by
  have HQ := hid (fun W => quote_any tx W (by omega))
  have hql := quote_len (tx_len ht)
  generalize quoteL tx.data.toList = q at *
  have HB := hid (belowA w (.cells #[.int .i64 20, .string tx, .int .i64 nu, kv] 50))
  have HC := hid (cells4 (heap_alloc_new w (.cells #[.int .i64 20, .string tx, .int .i64 nu, kv] 50)))
  have HXL := hid (lt_blk (heap_alloc_new w (.cells #[.int .i64 20, .string tx, .int .i64 nu, kv] 50)))
  have HW := hid (fun (V : World) (bk : Nat) (h1 : ∀ j x, [q, a][j]? = some x → V.cell? ⟨bk, j, none⟩ = some (.string (S x))) (h2 : bk < V.heap.size) => call_any [99, 111, 117, 110, 116] bk [q, a] 2 V rfl h1 h2 (by simp) (by intro x hx; simp at hx; rcases hx with rfl | rfl <;> omega) (by simp))
  simp only [join_two] at HW
  generalize S ([99, 111, 117, 110, 116] ++ ([40] ++ ((q ++ ([44, 32] ++ a)) ++ [41]))) = R at *
  go_enter Tryz.func48, Tryz.ntmps48
  go_upto_region 1 with (fail)
  have ⟨x0, x1, x2, x3⟩ := HC.out
  have HK := hid (hK.low HB.out)
  have y0 := HK.out.cell 0 _ rfl
  have HGL := hid HK.out.lt
  clear hK
  generalize w.alloc (.cells #[.int .i64 20, .string tx, .int .i64 nu, kv] 50) = X at *
  go_upto_region 11 with (fail)
  go_region_held3 (fun Y => Y.cell? ⟨w.heap.size, 1, none⟩ = some (.string tx) ∧ Y.cell? ⟨g, 0, none⟩ = some (.string (S a))) (first | exact ⟨x1, y0⟩ | (refine ⟨?_, ?_⟩ <;> assumption) | go_keep)
    (first
      | (go_at_call 47; refine (HQ.out _).mono ?_; rintro e w1 ⟨rfl, l1⟩; have a1 := (l1.cell (p := ⟨w.heap.size, 1, none⟩) HXL.out).trans x1; have a2 := (l1.cell (p := ⟨g, 0, none⟩) HGL.out).trans y0; have L1 := hid l1; clear l1)
      | (go_at_call 46; refine (HW.out _ _ (by exact new_txt w1 [q, a]) (by exact lt_blk (heap_alloc_new w1 _))).mono ?_; rintro e w2 ⟨rfl, l2⟩; have M2 := hid (show Below X.heap.size X w2 from by first | exact bch (bch (undrew L1.out) (belowA w1 _)) l2 | exact bch (bch (undrew L1.out) (belowA w1 _)) (undrew l2)); clear l2; have b1 := (M2.out.cell (p := ⟨w.heap.size, 1, none⟩) HXL.out).trans x1; have b2 := (M2.out.cell (p := ⟨g, 0, none⟩) HGL.out).trans y0))
  go_wp2_with fail
  go_ret
  exact ⟨rfl, bch HB.out M2.out⟩
set_option maxHeartbeats 4000000 in
set_option maxRecDepth 100000 in
theorem cond_6 (tx : ByteArray) (nu : Int) (kv : Value) (g : Nat) (a b : List UInt8) (ha : a.length ≤ 4098) (hb : b.length ≤ 4098) (hnu : 1 ≤ nu ∧ nu ≤ 6) (w : World) (hK : Kd w g [a, b]) :
    Calls Tryz.prog 30 #[.agg #[.int .i64 6, .string tx, .int .i64 nu, kv], .slice (some ⟨g, 0, none⟩) 2 2] w fun e w' => e = .returned (.string (S (a ++ ([32] ++ (sgnL nu ++ ([32] ++ b)))))) ∧ Below w.heap.size w w' := by
  have HQ := hid (fun W => cmp_any nu W hnu)
  have hql : (sgnL nu).length ≤ 10 := by
    unfold sgnL
    repeat' split
    all_goals simp
  generalize sgnL nu = q at *
  have HB := hid (belowA w (.cells #[.int .i64 6, .string tx, .int .i64 nu, kv] 50))
  have HC := hid (cells4 (heap_alloc_new w (.cells #[.int .i64 6, .string tx, .int .i64 nu, kv] 50)))
  have HXL := hid (lt_blk (heap_alloc_new w (.cells #[.int .i64 6, .string tx, .int .i64 nu, kv] 50)))
  have HW := hid (fun (V : World) (bk : Nat) (h1 : ∀ j x, [a, [32], q, [32], b][j]? = some x → V.cell? ⟨bk, j, none⟩ = some (.string (S x))) (h2 : bk < V.heap.size) => write_any bk [a, [32], q, [32], b] 5 V rfl h1 h2 (by simp) (by intro x hx; simp at hx; rcases hx with rfl | rfl | rfl | rfl | rfl <;> first | omega | simp))
  simp only [List.flatten_cons, List.flatten_nil, List.append_nil] at HW
  clear hnu
  go_enter Tryz.func30, Tryz.ntmps30
  go_upto_region 1 with (fail)
  have ⟨x0, x1, x2, x3⟩ := HC.out
  have HK := hid (hK.low HB.out)
  have y0 := HK.out.cell 0 _ rfl
  have y1 := HK.out.cell 1 _ rfl
  have HGL := hid HK.out.lt
  clear hK
  generalize w.alloc (.cells #[.int .i64 6, .string tx, .int .i64 nu, kv] 50) = X at *
  go_upto_region 13 with (fail)
  go_region_held3 (fun Y => Y.cell? ⟨w.heap.size, 2, none⟩ = some (.int .i64 nu) ∧ Y.cell? ⟨g, 0, none⟩ = some (.string (S a)) ∧ Y.cell? ⟨g, 1, none⟩ = some (.string (S b))) (first | exact ⟨x2, y0, y1⟩ | (refine ⟨?_, ?_, ?_⟩ <;> assumption) | go_keep)
    (first
      | (go_at_call 44; refine (HQ.out _).mono ?_; rintro e w1 ⟨rfl, hww⟩; have hw2 := hww.symm; clear hww; subst hw2)
      | (go_at_call 42; refine (HW.out _ _ (by exact new_txt X [a, [32], q, [32], b]) (by exact lt_blk (heap_alloc_new X _))).mono ?_; rintro e w2 ⟨rfl, l2⟩; have M2 := hid (show Below X.heap.size X w2 from bch (belowA X _) (undrew l2)); clear l2; have b1 := (M2.out.cell (p := ⟨w.heap.size, 2, none⟩) HXL.out).trans x2; have b2 := (M2.out.cell (p := ⟨g, 0, none⟩) HGL.out).trans y0; have b3 := (M2.out.cell (p := ⟨g, 1, none⟩) HGL.out).trans y1))
  go_wp2_with fail
  go_ret
  exact ⟨rfl, bch HB.out M2.out⟩
set_option maxHeartbeats 4000000 in
set_option maxRecDepth 100000 in
theorem cond_7 (tx : ByteArray) (nu : Int) (kv : Value) (g : Nat) (a b : List UInt8) (ha : a.length ≤ 4098) (hb : b.length ≤ 4098) (hnu : nu = 0 ∨ nu = 1) (w : World) (hK : Kd w g [a, b]) :
    Calls Tryz.prog 30 #[.agg #[.int .i64 7, .string tx, .int .i64 nu, kv], .slice (some ⟨g, 0, none⟩) 2 2] w fun e w' => e = .returned (.string (S (a ++ ([32] ++ (memL nu ++ ([32] ++ b)))))) ∧ Below w.heap.size w w' := by
  have HQ := hid (fun W => mem_any nu W hnu)
  have hql : (memL nu).length ≤ 10 := by
    unfold memL
    repeat' split
    all_goals simp
  generalize memL nu = q at *
  have HB := hid (belowA w (.cells #[.int .i64 7, .string tx, .int .i64 nu, kv] 50))
  have HC := hid (cells4 (heap_alloc_new w (.cells #[.int .i64 7, .string tx, .int .i64 nu, kv] 50)))
  have HXL := hid (lt_blk (heap_alloc_new w (.cells #[.int .i64 7, .string tx, .int .i64 nu, kv] 50)))
  have HW := hid (fun (V : World) (bk : Nat) (h1 : ∀ j x, [a, [32], q, [32], b][j]? = some x → V.cell? ⟨bk, j, none⟩ = some (.string (S x))) (h2 : bk < V.heap.size) => write_any bk [a, [32], q, [32], b] 5 V rfl h1 h2 (by simp) (by intro x hx; simp at hx; rcases hx with rfl | rfl | rfl | rfl | rfl <;> first | omega | simp))
  simp only [List.flatten_cons, List.flatten_nil, List.append_nil] at HW
  clear hnu
  go_enter Tryz.func30, Tryz.ntmps30
  go_upto_region 1 with (fail)
  have ⟨x0, x1, x2, x3⟩ := HC.out
  have HK := hid (hK.low HB.out)
  have y0 := HK.out.cell 0 _ rfl
  have y1 := HK.out.cell 1 _ rfl
  have HGL := hid HK.out.lt
  clear hK
  generalize w.alloc (.cells #[.int .i64 7, .string tx, .int .i64 nu, kv] 50) = X at *
  go_upto_region 15 with (fail)
  go_region_held3 (fun Y => Y.cell? ⟨w.heap.size, 2, none⟩ = some (.int .i64 nu) ∧ Y.cell? ⟨g, 0, none⟩ = some (.string (S a)) ∧ Y.cell? ⟨g, 1, none⟩ = some (.string (S b))) (first | exact ⟨x2, y0, y1⟩ | (refine ⟨?_, ?_, ?_⟩ <;> assumption) | go_keep)
    (first
      | (go_at_call 45; refine (HQ.out _).mono ?_; rintro e w1 ⟨rfl, hww⟩; have hw2 := hww.symm; clear hww; subst hw2)
      | (go_at_call 42; refine (HW.out _ _ (by exact new_txt X [a, [32], q, [32], b]) (by exact lt_blk (heap_alloc_new X _))).mono ?_; rintro e w2 ⟨rfl, l2⟩; have M2 := hid (show Below X.heap.size X w2 from bch (belowA X _) (undrew l2)); clear l2; have b1 := (M2.out.cell (p := ⟨w.heap.size, 2, none⟩) HXL.out).trans x2; have b2 := (M2.out.cell (p := ⟨g, 0, none⟩) HGL.out).trans y0; have b3 := (M2.out.cell (p := ⟨g, 1, none⟩) HGL.out).trans y1))
  go_wp2_with fail
  go_ret
  exact ⟨rfl, bch HB.out M2.out⟩
set_option maxHeartbeats 4000000 in
set_option maxRecDepth 100000 in
theorem ask_18 (tx : ByteArray) (nu : Int) (kv : Value) (wo : List UInt8) (hwo : wo.length ≤ 10) (w : World) (ht : tx.size ≤ 127) :
    Calls Tryz.prog 65 #[.agg #[.int .i64 18, .string tx, .int .i64 nu, kv], .string (S wo)] w fun e w' => e = .returned (.string (S ((wo ++ [46, 99, 97, 112]) ++ ([40] ++ (quoteL tx.data.toList ++ [41]))))) ∧ Below w.heap.size w w' := by
  have HQ := hid (fun W => quote_any tx W (by omega))
  have hql := quote_len (tx_len ht)
  generalize quoteL tx.data.toList = q at *
  have HB := hid (belowA w (.cells #[.int .i64 18, .string tx, .int .i64 nu, kv] 50))
  have HC := hid (cells4 (heap_alloc_new w (.cells #[.int .i64 18, .string tx, .int .i64 nu, kv] 50)))
  have HXL := hid (lt_blk (heap_alloc_new w (.cells #[.int .i64 18, .string tx, .int .i64 nu, kv] 50)))
  have HV := hid (fun (V : World) (bk : Nat) (h1 : ∀ j x, [wo, [46, 99, 97, 112]][j]? = some x → V.cell? ⟨bk, j, none⟩ = some (.string (S x))) (h2 : bk < V.heap.size) => write_any bk [wo, [46, 99, 97, 112]] 2 V rfl h1 h2 (by simp) (by intro x hx; simp at hx; rcases hx with rfl | rfl <;> first | omega | simp))
  simp only [List.flatten_cons, List.flatten_nil, List.append_nil] at HV
  have hwl : (wo ++ [46, 99, 97, 112]).length ≤ 20 := by simp; omega
  generalize wo ++ [46, 99, 97, 112] = u at *
  have HW := hid (fun (V : World) (bk : Nat) (h1 : ∀ j x, [q][j]? = some x → V.cell? ⟨bk, j, none⟩ = some (.string (S x))) (h2 : bk < V.heap.size) => call_any u bk [q] 1 V rfl h1 h2 (by simp) (by intro x hx; simp at hx; rcases hx with rfl; omega) (by omega))
  simp only [Lib.join_one] at HW
  go_enter Tryz.func65, Tryz.ntmps65
  go_upto_region 1 with (fail)
  have ⟨x0, x1, x2, x3⟩ := HC.out
  generalize w.alloc (.cells #[.int .i64 18, .string tx, .int .i64 nu, kv] 50) = X at *
  go_upto_region 11 with (fail)
  go_region_held3 (fun Y => Y.cell? ⟨w.heap.size, 1, none⟩ = some (.string tx)) (first | exact x1 | assumption | go_keep)
    (first
      | (go_at_call 42; refine (HV.out _ _ (by exact new_txt X [wo, [46, 99, 97, 112]]) (by exact lt_blk (heap_alloc_new X _))).mono ?_; rintro e w1 ⟨rfl, l1⟩; have M1 := hid (show Below X.heap.size X w1 from by first | exact bch (belowA X _) l1 | exact bch (belowA X _) (undrew l1)); clear l1; have a1 := (M1.out.cell (p := ⟨w.heap.size, 1, none⟩) HXL.out).trans x1)
      | (go_at_call 47; refine (HQ.out _).mono ?_; rintro e w2 ⟨rfl, l2⟩; have M2 := hid (show Below X.heap.size X w2 from by first | exact bch M1.out l2 | exact bch M1.out (undrew l2)); clear l2; have a2 := (M2.out.cell (p := ⟨w.heap.size, 1, none⟩) HXL.out).trans x1)
      | (go_at_call 46; refine (HW.out _ _ (by exact new_txt w2 [q]) (by exact lt_blk (heap_alloc_new w2 _))).mono ?_; rintro e w3 ⟨rfl, l3⟩; have M3 := hid (show Below X.heap.size X w3 from by first | exact bch (bch M2.out (belowA w2 _)) l3 | exact bch (bch M2.out (belowA w2 _)) (undrew l3)); clear l3; have a3 := (M3.out.cell (p := ⟨w.heap.size, 1, none⟩) HXL.out).trans x1))
  go_wp2_with fail
  go_ret
  exact ⟨rfl, bch HB.out M3.out⟩
end Go.Proofs.YtlhlpamciafocaaGreatDoor.L.Sw
namespace Go.Proofs.YtlhlpamciafocaaGreatDoor.L.Sw
open Go.RowKit Go.Shelf
set_option linter.unusedVariables false
theorem who_len (n : Int) : (whoL n).length ≤ 10 := by
  unfold whoL
  repeat' split
  all_goals simp
set_option maxHeartbeats 4000000 in
set_option maxRecDepth 100000 in
theorem term_14 (tx : ByteArray) (nu : Int) (kv : Value) (kl : Value) (hnu : 1 ≤ nu ∧ nu ≤ 3) (w : World) (ht : tx.size ≤ 127) :
    Calls Tryz.prog 48 #[.agg #[.int .i64 14, .string tx, .int .i64 nu, kv], kl] w fun e w' => e = .returned (.string (S (whoL nu ++ ([91] ++ (quoteL tx.data.toList ++ [93]))))) ∧ Below w.heap.size w w' := by
  have HQ := hid (fun W => who_any nu W hnu)
  have HA := hid (fun W => ask_14 tx nu kv (whoL nu) (who_len nu) W ht)
  generalize S (whoL nu ++ ([91] ++ (quoteL tx.data.toList ++ [93]))) = r at *
  generalize whoL nu = wo at *
  have HB := hid (belowA w (.cells #[.int .i64 14, .string tx, .int .i64 nu, kv] 50))
  have HC := hid (cells4 (heap_alloc_new w (.cells #[.int .i64 14, .string tx, .int .i64 nu, kv] 50)))
  have HXL := hid (lt_blk (heap_alloc_new w (.cells #[.int .i64 14, .string tx, .int .i64 nu, kv] 50)))
  clear hnu ht
  go_enter Tryz.func48, Tryz.ntmps48
  go_upto_region 1 with (fail)
  have ⟨x0, x1, x2, x3⟩ := HC.out
  generalize w.alloc (.cells #[.int .i64 14, .string tx, .int .i64 nu, kv] 50) = X at *
  go_upto_region 12 with (fail)
  go_region_held3 (fun Y => Y.cell? ⟨w.heap.size, 0, none⟩ = some (.int .i64 14) ∧ Y.cell? ⟨w.heap.size, 1, none⟩ = some (.string tx) ∧ Y.cell? ⟨w.heap.size, 2, none⟩ = some (.int .i64 nu) ∧ Y.cell? ⟨w.heap.size, 3, none⟩ = some kv) (first | exact ⟨x0, x1, x2, x3⟩ | (refine ⟨?_, ?_, ?_, ?_⟩ <;> assumption) | go_keep)
    (first
      | (go_at_call 66; refine (HQ.out _).mono ?_; rintro e w1 ⟨rfl, hww⟩; have hw2 := hww.symm; clear hww; subst hw2)
      | (go_at_call 65; refine (HA.out _).mono ?_; rintro e w2 ⟨rfl, l2⟩; have M2 := hid (show Below X.heap.size X w2 from by first | exact l2 | exact undrew l2); clear l2; have b0 := (M2.out.cell (p := ⟨w.heap.size, 0, none⟩) HXL.out).trans x0; have b1 := (M2.out.cell (p := ⟨w.heap.size, 1, none⟩) HXL.out).trans x1; have b2 := (M2.out.cell (p := ⟨w.heap.size, 2, none⟩) HXL.out).trans x2; have b3 := (M2.out.cell (p := ⟨w.heap.size, 3, none⟩) HXL.out).trans x3))
  go_wp2_with fail
  go_ret
  exact ⟨rfl, bch HB.out M2.out⟩
set_option maxHeartbeats 4000000 in
set_option maxRecDepth 100000 in
theorem term_15 (tx : ByteArray) (nu : Int) (kv : Value) (kl : Value) (hnu : 1 ≤ nu ∧ nu ≤ 3) (w : World) (ht : tx.size ≤ 127) :
    Calls Tryz.prog 48 #[.agg #[.int .i64 15, .string tx, .int .i64 nu, kv], kl] w fun e w' => e = .returned (.string (S (whoL nu ++ [46, 110, 97, 109, 101]))) ∧ Below w.heap.size w w' := by
  have HQ := hid (fun W => who_any nu W hnu)
  have HA := hid (fun W => ask_15 tx nu kv (whoL nu) (who_len nu) W ht)
  generalize S (whoL nu ++ [46, 110, 97, 109, 101]) = r at *
  generalize whoL nu = wo at *
  have HB := hid (belowA w (.cells #[.int .i64 15, .string tx, .int .i64 nu, kv] 50))
  have HC := hid (cells4 (heap_alloc_new w (.cells #[.int .i64 15, .string tx, .int .i64 nu, kv] 50)))
  have HXL := hid (lt_blk (heap_alloc_new w (.cells #[.int .i64 15, .string tx, .int .i64 nu, kv] 50)))
  clear hnu ht
  go_enter Tryz.func48, Tryz.ntmps48
  go_upto_region 1 with (fail)
  have ⟨x0, x1, x2, x3⟩ := HC.out
  generalize w.alloc (.cells #[.int .i64 15, .string tx, .int .i64 nu, kv] 50) = X at *
  go_upto_region 12 with (fail)
  go_region_held3 (fun Y => Y.cell? ⟨w.heap.size, 0, none⟩ = some (.int .i64 15) ∧ Y.cell? ⟨w.heap.size, 1, none⟩ = some (.string tx) ∧ Y.cell? ⟨w.heap.size, 2, none⟩ = some (.int .i64 nu) ∧ Y.cell? ⟨w.heap.size, 3, none⟩ = some kv) (first | exact ⟨x0, x1, x2, x3⟩ | (refine ⟨?_, ?_, ?_, ?_⟩ <;> assumption) | go_keep)
    (first
      | (go_at_call 66; refine (HQ.out _).mono ?_; rintro e w1 ⟨rfl, hww⟩; have hw2 := hww.symm; clear hww; subst hw2)
      | (go_at_call 65; refine (HA.out _).mono ?_; rintro e w2 ⟨rfl, l2⟩; have M2 := hid (show Below X.heap.size X w2 from by first | exact l2 | exact undrew l2); clear l2; have b0 := (M2.out.cell (p := ⟨w.heap.size, 0, none⟩) HXL.out).trans x0; have b1 := (M2.out.cell (p := ⟨w.heap.size, 1, none⟩) HXL.out).trans x1; have b2 := (M2.out.cell (p := ⟨w.heap.size, 2, none⟩) HXL.out).trans x2; have b3 := (M2.out.cell (p := ⟨w.heap.size, 3, none⟩) HXL.out).trans x3))
  go_wp2_with fail
  go_ret
  exact ⟨rfl, bch HB.out M2.out⟩
set_option maxHeartbeats 4000000 in
set_option maxRecDepth 100000 in
theorem term_16 (tx : ByteArray) (nu : Int) (kv : Value) (kl : Value) (hnu : 1 ≤ nu ∧ nu ≤ 3) (w : World) (ht : tx.size ≤ 127) :
    Calls Tryz.prog 48 #[.agg #[.int .i64 16, .string tx, .int .i64 nu, kv], kl] w fun e w' => e = .returned (.string (S (whoL nu ++ [46, 107, 101, 121, 115]))) ∧ Below w.heap.size w w' := by
  have HQ := hid (fun W => who_any nu W hnu)
  have HA := hid (fun W => ask_16 tx nu kv (whoL nu) (who_len nu) W ht)
  generalize S (whoL nu ++ [46, 107, 101, 121, 115]) = r at *
  generalize whoL nu = wo at *
  have HB := hid (belowA w (.cells #[.int .i64 16, .string tx, .int .i64 nu, kv] 50))
  have HC := hid (cells4 (heap_alloc_new w (.cells #[.int .i64 16, .string tx, .int .i64 nu, kv] 50)))
  have HXL := hid (lt_blk (heap_alloc_new w (.cells #[.int .i64 16, .string tx, .int .i64 nu, kv] 50)))
  clear hnu ht
  go_enter Tryz.func48, Tryz.ntmps48
  go_upto_region 1 with (fail)
  have ⟨x0, x1, x2, x3⟩ := HC.out
  generalize w.alloc (.cells #[.int .i64 16, .string tx, .int .i64 nu, kv] 50) = X at *
  go_upto_region 12 with (fail)
  go_region_held3 (fun Y => Y.cell? ⟨w.heap.size, 0, none⟩ = some (.int .i64 16) ∧ Y.cell? ⟨w.heap.size, 1, none⟩ = some (.string tx) ∧ Y.cell? ⟨w.heap.size, 2, none⟩ = some (.int .i64 nu) ∧ Y.cell? ⟨w.heap.size, 3, none⟩ = some kv) (first | exact ⟨x0, x1, x2, x3⟩ | (refine ⟨?_, ?_, ?_, ?_⟩ <;> assumption) | go_keep)
    (first
      | (go_at_call 66; refine (HQ.out _).mono ?_; rintro e w1 ⟨rfl, hww⟩; have hw2 := hww.symm; clear hww; subst hw2)
      | (go_at_call 65; refine (HA.out _).mono ?_; rintro e w2 ⟨rfl, l2⟩; have M2 := hid (show Below X.heap.size X w2 from by first | exact l2 | exact undrew l2); clear l2; have b0 := (M2.out.cell (p := ⟨w.heap.size, 0, none⟩) HXL.out).trans x0; have b1 := (M2.out.cell (p := ⟨w.heap.size, 1, none⟩) HXL.out).trans x1; have b2 := (M2.out.cell (p := ⟨w.heap.size, 2, none⟩) HXL.out).trans x2; have b3 := (M2.out.cell (p := ⟨w.heap.size, 3, none⟩) HXL.out).trans x3))
  go_wp2_with fail
  go_ret
  exact ⟨rfl, bch HB.out M2.out⟩
set_option maxHeartbeats 4000000 in
set_option maxRecDepth 100000 in
theorem term_17 (tx : ByteArray) (nu : Int) (kv : Value) (kl : Value) (hnu : 1 ≤ nu ∧ nu ≤ 3) (w : World) (ht : tx.size ≤ 127) :
    Calls Tryz.prog 48 #[.agg #[.int .i64 17, .string tx, .int .i64 nu, kv], kl] w fun e w' => e = .returned (.string (S (whoL nu ++ [46, 116, 97, 105, 110, 116, 115]))) ∧ Below w.heap.size w w' := by
  have HQ := hid (fun W => who_any nu W hnu)
  have HA := hid (fun W => ask_17 tx nu kv (whoL nu) (who_len nu) W ht)
  generalize S (whoL nu ++ [46, 116, 97, 105, 110, 116, 115]) = r at *
  generalize whoL nu = wo at *
  have HB := hid (belowA w (.cells #[.int .i64 17, .string tx, .int .i64 nu, kv] 50))
  have HC := hid (cells4 (heap_alloc_new w (.cells #[.int .i64 17, .string tx, .int .i64 nu, kv] 50)))
  have HXL := hid (lt_blk (heap_alloc_new w (.cells #[.int .i64 17, .string tx, .int .i64 nu, kv] 50)))
  clear hnu ht
  go_enter Tryz.func48, Tryz.ntmps48
  go_upto_region 1 with (fail)
  have ⟨x0, x1, x2, x3⟩ := HC.out
  generalize w.alloc (.cells #[.int .i64 17, .string tx, .int .i64 nu, kv] 50) = X at *
  go_upto_region 12 with (fail)
  go_region_held3 (fun Y => Y.cell? ⟨w.heap.size, 0, none⟩ = some (.int .i64 17) ∧ Y.cell? ⟨w.heap.size, 1, none⟩ = some (.string tx) ∧ Y.cell? ⟨w.heap.size, 2, none⟩ = some (.int .i64 nu) ∧ Y.cell? ⟨w.heap.size, 3, none⟩ = some kv) (first | exact ⟨x0, x1, x2, x3⟩ | (refine ⟨?_, ?_, ?_, ?_⟩ <;> assumption) | go_keep)
    (first
      | (go_at_call 66; refine (HQ.out _).mono ?_; rintro e w1 ⟨rfl, hww⟩; have hw2 := hww.symm; clear hww; subst hw2)
      | (go_at_call 65; refine (HA.out _).mono ?_; rintro e w2 ⟨rfl, l2⟩; have M2 := hid (show Below X.heap.size X w2 from by first | exact l2 | exact undrew l2); clear l2; have b0 := (M2.out.cell (p := ⟨w.heap.size, 0, none⟩) HXL.out).trans x0; have b1 := (M2.out.cell (p := ⟨w.heap.size, 1, none⟩) HXL.out).trans x1; have b2 := (M2.out.cell (p := ⟨w.heap.size, 2, none⟩) HXL.out).trans x2; have b3 := (M2.out.cell (p := ⟨w.heap.size, 3, none⟩) HXL.out).trans x3))
  go_wp2_with fail
  go_ret
  exact ⟨rfl, bch HB.out M2.out⟩
set_option maxHeartbeats 4000000 in
set_option maxRecDepth 100000 in
theorem term_18 (tx : ByteArray) (nu : Int) (kv : Value) (kl : Value) (hnu : 1 ≤ nu ∧ nu ≤ 3) (w : World) (ht : tx.size ≤ 127) :
    Calls Tryz.prog 48 #[.agg #[.int .i64 18, .string tx, .int .i64 nu, kv], kl] w fun e w' => e = .returned (.string (S ((whoL nu ++ [46, 99, 97, 112]) ++ ([40] ++ (quoteL tx.data.toList ++ [41]))))) ∧ Below w.heap.size w w' := by
  have HQ := hid (fun W => who_any nu W hnu)
  have HA := hid (fun W => ask_18 tx nu kv (whoL nu) (who_len nu) W ht)
  generalize S ((whoL nu ++ [46, 99, 97, 112]) ++ ([40] ++ (quoteL tx.data.toList ++ [41]))) = r at *
  generalize whoL nu = wo at *
  have HB := hid (belowA w (.cells #[.int .i64 18, .string tx, .int .i64 nu, kv] 50))
  have HC := hid (cells4 (heap_alloc_new w (.cells #[.int .i64 18, .string tx, .int .i64 nu, kv] 50)))
  have HXL := hid (lt_blk (heap_alloc_new w (.cells #[.int .i64 18, .string tx, .int .i64 nu, kv] 50)))
  clear hnu ht
  go_enter Tryz.func48, Tryz.ntmps48
  go_upto_region 1 with (fail)
  have ⟨x0, x1, x2, x3⟩ := HC.out
  generalize w.alloc (.cells #[.int .i64 18, .string tx, .int .i64 nu, kv] 50) = X at *
  go_upto_region 12 with (fail)
  go_region_held3 (fun Y => Y.cell? ⟨w.heap.size, 0, none⟩ = some (.int .i64 18) ∧ Y.cell? ⟨w.heap.size, 1, none⟩ = some (.string tx) ∧ Y.cell? ⟨w.heap.size, 2, none⟩ = some (.int .i64 nu) ∧ Y.cell? ⟨w.heap.size, 3, none⟩ = some kv) (first | exact ⟨x0, x1, x2, x3⟩ | (refine ⟨?_, ?_, ?_, ?_⟩ <;> assumption) | go_keep)
    (first
      | (go_at_call 66; refine (HQ.out _).mono ?_; rintro e w1 ⟨rfl, hww⟩; have hw2 := hww.symm; clear hww; subst hw2)
      | (go_at_call 65; refine (HA.out _).mono ?_; rintro e w2 ⟨rfl, l2⟩; have M2 := hid (show Below X.heap.size X w2 from by first | exact l2 | exact undrew l2); clear l2; have b0 := (M2.out.cell (p := ⟨w.heap.size, 0, none⟩) HXL.out).trans x0; have b1 := (M2.out.cell (p := ⟨w.heap.size, 1, none⟩) HXL.out).trans x1; have b2 := (M2.out.cell (p := ⟨w.heap.size, 2, none⟩) HXL.out).trans x2; have b3 := (M2.out.cell (p := ⟨w.heap.size, 3, none⟩) HXL.out).trans x3))
  go_wp2_with fail
  go_ret
  exact ⟨rfl, bch HB.out M2.out⟩
set_option maxHeartbeats 4000000 in
set_option maxRecDepth 100000 in
theorem ct_11 (tx : ByteArray) (nu : Int) (kv : Value) (kl : Value) (r : ByteArray) (w : World) (hT : ∀ W, Below w.heap.size w W → Calls Tryz.prog 48 #[.agg #[.int .i64 11, .string tx, .int .i64 nu, kv], kl] W fun e w' => e = .returned (.string r) ∧ Below W.heap.size W w') :
    Calls Tryz.prog 30 #[.agg #[.int .i64 11, .string tx, .int .i64 nu, kv], kl] w fun e w' => e = .returned (.string r) ∧ Below w.heap.size w w' := by
  have HB := hid (belowA w (.cells #[.int .i64 11, .string tx, .int .i64 nu, kv] 50))
  have HC := hid (cells4 (heap_alloc_new w (.cells #[.int .i64 11, .string tx, .int .i64 nu, kv] 50)))
  have HA := hid (hT _ HB.out)
  clear hT
  go_enter Tryz.func30, Tryz.ntmps30
  go_upto_region 1 with (fail)
  have ⟨x0, x1, x2, x3⟩ := HC.out
  generalize w.alloc (.cells #[.int .i64 11, .string tx, .int .i64 nu, kv] 50) = X at *
  go_wp2_with (go_at_call 48; refine HA.out.mono ?_; rintro e w2 ⟨rfl, l2⟩; have L2 := hid l2; clear l2)
  go_ret
  exact ⟨rfl, bch HB.out L2.out⟩
set_option maxHeartbeats 4000000 in
set_option maxRecDepth 100000 in
theorem ct_12 (tx : ByteArray) (nu : Int) (kv : Value) (kl : Value) (r : ByteArray) (w : World) (hT : ∀ W, Below w.heap.size w W → Calls Tryz.prog 48 #[.agg #[.int .i64 12, .string tx, .int .i64 nu, kv], kl] W fun e w' => e = .returned (.string r) ∧ Below W.heap.size W w') :
    Calls Tryz.prog 30 #[.agg #[.int .i64 12, .string tx, .int .i64 nu, kv], kl] w fun e w' => e = .returned (.string r) ∧ Below w.heap.size w w' := by
  have HB := hid (belowA w (.cells #[.int .i64 12, .string tx, .int .i64 nu, kv] 50))
  have HC := hid (cells4 (heap_alloc_new w (.cells #[.int .i64 12, .string tx, .int .i64 nu, kv] 50)))
  have HA := hid (hT _ HB.out)
  clear hT
  go_enter Tryz.func30, Tryz.ntmps30
  go_upto_region 1 with (fail)
  have ⟨x0, x1, x2, x3⟩ := HC.out
  generalize w.alloc (.cells #[.int .i64 12, .string tx, .int .i64 nu, kv] 50) = X at *
  go_wp2_with (go_at_call 48; refine HA.out.mono ?_; rintro e w2 ⟨rfl, l2⟩; have L2 := hid l2; clear l2)
  go_ret
  exact ⟨rfl, bch HB.out L2.out⟩
set_option maxHeartbeats 4000000 in
set_option maxRecDepth 100000 in
theorem ct_13 (tx : ByteArray) (nu : Int) (kv : Value) (kl : Value) (r : ByteArray) (w : World) (hT : ∀ W, Below w.heap.size w W → Calls Tryz.prog 48 #[.agg #[.int .i64 13, .string tx, .int .i64 nu, kv], kl] W fun e w' => e = .returned (.string r) ∧ Below W.heap.size W w') :
    Calls Tryz.prog 30 #[.agg #[.int .i64 13, .string tx, .int .i64 nu, kv], kl] w fun e w' => e = .returned (.string r) ∧ Below w.heap.size w w' := by
  have HB := hid (belowA w (.cells #[.int .i64 13, .string tx, .int .i64 nu, kv] 50))
  have HC := hid (cells4 (heap_alloc_new w (.cells #[.int .i64 13, .string tx, .int .i64 nu, kv] 50)))
  have HA := hid (hT _ HB.out)
  clear hT
  go_enter Tryz.func30, Tryz.ntmps30
  go_upto_region 1 with (fail)
  have ⟨x0, x1, x2, x3⟩ := HC.out
  generalize w.alloc (.cells #[.int .i64 13, .string tx, .int .i64 nu, kv] 50) = X at *
  go_wp2_with (go_at_call 48; refine HA.out.mono ?_; rintro e w2 ⟨rfl, l2⟩; have L2 := hid l2; clear l2)
  go_ret
  exact ⟨rfl, bch HB.out L2.out⟩
set_option maxHeartbeats 4000000 in
set_option maxRecDepth 100000 in
theorem ct_14 (tx : ByteArray) (nu : Int) (kv : Value) (kl : Value) (r : ByteArray) (w : World) (hT : ∀ W, Below w.heap.size w W → Calls Tryz.prog 48 #[.agg #[.int .i64 14, .string tx, .int .i64 nu, kv], kl] W fun e w' => e = .returned (.string r) ∧ Below W.heap.size W w') :
    Calls Tryz.prog 30 #[.agg #[.int .i64 14, .string tx, .int .i64 nu, kv], kl] w fun e w' => e = .returned (.string r) ∧ Below w.heap.size w w' := by
  have HB := hid (belowA w (.cells #[.int .i64 14, .string tx, .int .i64 nu, kv] 50))
  have HC := hid (cells4 (heap_alloc_new w (.cells #[.int .i64 14, .string tx, .int .i64 nu, kv] 50)))
  have HA := hid (hT _ HB.out)
  clear hT
  go_enter Tryz.func30, Tryz.ntmps30
  go_upto_region 1 with (fail)
  have ⟨x0, x1, x2, x3⟩ := HC.out
  generalize w.alloc (.cells #[.int .i64 14, .string tx, .int .i64 nu, kv] 50) = X at *
  go_wp2_with (go_at_call 48; refine HA.out.mono ?_; rintro e w2 ⟨rfl, l2⟩; have L2 := hid l2; clear l2)
  go_ret
  exact ⟨rfl, bch HB.out L2.out⟩
set_option maxHeartbeats 4000000 in
set_option maxRecDepth 100000 in
theorem ct_15 (tx : ByteArray) (nu : Int) (kv : Value) (kl : Value) (r : ByteArray) (w : World) (hT : ∀ W, Below w.heap.size w W → Calls Tryz.prog 48 #[.agg #[.int .i64 15, .string tx, .int .i64 nu, kv], kl] W fun e w' => e = .returned (.string r) ∧ Below W.heap.size W w') :
    Calls Tryz.prog 30 #[.agg #[.int .i64 15, .string tx, .int .i64 nu, kv], kl] w fun e w' => e = .returned (.string r) ∧ Below w.heap.size w w' := by
  have HB := hid (belowA w (.cells #[.int .i64 15, .string tx, .int .i64 nu, kv] 50))
  have HC := hid (cells4 (heap_alloc_new w (.cells #[.int .i64 15, .string tx, .int .i64 nu, kv] 50)))
  have HA := hid (hT _ HB.out)
  clear hT
  go_enter Tryz.func30, Tryz.ntmps30
  go_upto_region 1 with (fail)
  have ⟨x0, x1, x2, x3⟩ := HC.out
  generalize w.alloc (.cells #[.int .i64 15, .string tx, .int .i64 nu, kv] 50) = X at *
  go_wp2_with (go_at_call 48; refine HA.out.mono ?_; rintro e w2 ⟨rfl, l2⟩; have L2 := hid l2; clear l2)
  go_ret
  exact ⟨rfl, bch HB.out L2.out⟩
set_option maxHeartbeats 4000000 in
set_option maxRecDepth 100000 in
theorem ct_16 (tx : ByteArray) (nu : Int) (kv : Value) (kl : Value) (r : ByteArray) (w : World) (hT : ∀ W, Below w.heap.size w W → Calls Tryz.prog 48 #[.agg #[.int .i64 16, .string tx, .int .i64 nu, kv], kl] W fun e w' => e = .returned (.string r) ∧ Below W.heap.size W w') :
    Calls Tryz.prog 30 #[.agg #[.int .i64 16, .string tx, .int .i64 nu, kv], kl] w fun e w' => e = .returned (.string r) ∧ Below w.heap.size w w' := by
  have HB := hid (belowA w (.cells #[.int .i64 16, .string tx, .int .i64 nu, kv] 50))
  have HC := hid (cells4 (heap_alloc_new w (.cells #[.int .i64 16, .string tx, .int .i64 nu, kv] 50)))
  have HA := hid (hT _ HB.out)
  clear hT
  go_enter Tryz.func30, Tryz.ntmps30
  go_upto_region 1 with (fail)
  have ⟨x0, x1, x2, x3⟩ := HC.out
  generalize w.alloc (.cells #[.int .i64 16, .string tx, .int .i64 nu, kv] 50) = X at *
  go_wp2_with (go_at_call 48; refine HA.out.mono ?_; rintro e w2 ⟨rfl, l2⟩; have L2 := hid l2; clear l2)
  go_ret
  exact ⟨rfl, bch HB.out L2.out⟩
set_option maxHeartbeats 4000000 in
set_option maxRecDepth 100000 in
theorem ct_17 (tx : ByteArray) (nu : Int) (kv : Value) (kl : Value) (r : ByteArray) (w : World) (hT : ∀ W, Below w.heap.size w W → Calls Tryz.prog 48 #[.agg #[.int .i64 17, .string tx, .int .i64 nu, kv], kl] W fun e w' => e = .returned (.string r) ∧ Below W.heap.size W w') :
    Calls Tryz.prog 30 #[.agg #[.int .i64 17, .string tx, .int .i64 nu, kv], kl] w fun e w' => e = .returned (.string r) ∧ Below w.heap.size w w' := by
  have HB := hid (belowA w (.cells #[.int .i64 17, .string tx, .int .i64 nu, kv] 50))
  have HC := hid (cells4 (heap_alloc_new w (.cells #[.int .i64 17, .string tx, .int .i64 nu, kv] 50)))
  have HA := hid (hT _ HB.out)
  clear hT
  go_enter Tryz.func30, Tryz.ntmps30
  go_upto_region 1 with (fail)
  have ⟨x0, x1, x2, x3⟩ := HC.out
  generalize w.alloc (.cells #[.int .i64 17, .string tx, .int .i64 nu, kv] 50) = X at *
  go_wp2_with (go_at_call 48; refine HA.out.mono ?_; rintro e w2 ⟨rfl, l2⟩; have L2 := hid l2; clear l2)
  go_ret
  exact ⟨rfl, bch HB.out L2.out⟩
set_option maxHeartbeats 4000000 in
set_option maxRecDepth 100000 in
theorem ct_18 (tx : ByteArray) (nu : Int) (kv : Value) (kl : Value) (r : ByteArray) (w : World) (hT : ∀ W, Below w.heap.size w W → Calls Tryz.prog 48 #[.agg #[.int .i64 18, .string tx, .int .i64 nu, kv], kl] W fun e w' => e = .returned (.string r) ∧ Below W.heap.size W w') :
    Calls Tryz.prog 30 #[.agg #[.int .i64 18, .string tx, .int .i64 nu, kv], kl] w fun e w' => e = .returned (.string r) ∧ Below w.heap.size w w' := by
  have HB := hid (belowA w (.cells #[.int .i64 18, .string tx, .int .i64 nu, kv] 50))
  have HC := hid (cells4 (heap_alloc_new w (.cells #[.int .i64 18, .string tx, .int .i64 nu, kv] 50)))
  have HA := hid (hT _ HB.out)
  clear hT
  go_enter Tryz.func30, Tryz.ntmps30
  go_upto_region 1 with (fail)
  have ⟨x0, x1, x2, x3⟩ := HC.out
  generalize w.alloc (.cells #[.int .i64 18, .string tx, .int .i64 nu, kv] 50) = X at *
  go_wp2_with (go_at_call 48; refine HA.out.mono ?_; rintro e w2 ⟨rfl, l2⟩; have L2 := hid l2; clear l2)
  go_ret
  exact ⟨rfl, bch HB.out L2.out⟩
set_option maxHeartbeats 4000000 in
set_option maxRecDepth 100000 in
theorem ct_19 (tx : ByteArray) (nu : Int) (kv : Value) (kl : Value) (r : ByteArray) (w : World) (hT : ∀ W, Below w.heap.size w W → Calls Tryz.prog 48 #[.agg #[.int .i64 19, .string tx, .int .i64 nu, kv], kl] W fun e w' => e = .returned (.string r) ∧ Below W.heap.size W w') :
    Calls Tryz.prog 30 #[.agg #[.int .i64 19, .string tx, .int .i64 nu, kv], kl] w fun e w' => e = .returned (.string r) ∧ Below w.heap.size w w' := by
  have HB := hid (belowA w (.cells #[.int .i64 19, .string tx, .int .i64 nu, kv] 50))
  have HC := hid (cells4 (heap_alloc_new w (.cells #[.int .i64 19, .string tx, .int .i64 nu, kv] 50)))
  have HA := hid (hT _ HB.out)
  clear hT
  go_enter Tryz.func30, Tryz.ntmps30
  go_upto_region 1 with (fail)
  have ⟨x0, x1, x2, x3⟩ := HC.out
  generalize w.alloc (.cells #[.int .i64 19, .string tx, .int .i64 nu, kv] 50) = X at *
  go_wp2_with (go_at_call 48; refine HA.out.mono ?_; rintro e w2 ⟨rfl, l2⟩; have L2 := hid l2; clear l2)
  go_ret
  exact ⟨rfl, bch HB.out L2.out⟩
set_option maxHeartbeats 4000000 in
set_option maxRecDepth 100000 in
theorem ct_20 (tx : ByteArray) (nu : Int) (kv : Value) (kl : Value) (r : ByteArray) (w : World) (hT : ∀ W, Below w.heap.size w W → Calls Tryz.prog 48 #[.agg #[.int .i64 20, .string tx, .int .i64 nu, kv], kl] W fun e w' => e = .returned (.string r) ∧ Below W.heap.size W w') :
    Calls Tryz.prog 30 #[.agg #[.int .i64 20, .string tx, .int .i64 nu, kv], kl] w fun e w' => e = .returned (.string r) ∧ Below w.heap.size w w' := by
  have HB := hid (belowA w (.cells #[.int .i64 20, .string tx, .int .i64 nu, kv] 50))
  have HC := hid (cells4 (heap_alloc_new w (.cells #[.int .i64 20, .string tx, .int .i64 nu, kv] 50)))
  have HA := hid (hT _ HB.out)
  clear hT
  go_enter Tryz.func30, Tryz.ntmps30
  go_upto_region 1 with (fail)
  have ⟨x0, x1, x2, x3⟩ := HC.out
  generalize w.alloc (.cells #[.int .i64 20, .string tx, .int .i64 nu, kv] 50) = X at *
  go_wp2_with (go_at_call 48; refine HA.out.mono ?_; rintro e w2 ⟨rfl, l2⟩; have L2 := hid l2; clear l2)
  go_ret
  exact ⟨rfl, bch HB.out L2.out⟩
theorem one_kid {l : List (List UInt8)} (h : l.length = 1) : ∃ a, l = [a] := List.length_eq_one_iff.1 h
theorem two_kids {l : List (List UInt8)} (h : l.length = 2) : ∃ a b, l = [a, b] := by
  match l, h with
  | [a, b], _ => exact ⟨a, b, rfl⟩
theorem holds_size {k : Int} {tx : ByteArray} {nu : Int} (h : holdsB k tx nu = true) : tx.size ≤ 127 := by
  unfold holdsB at h
  repeat' split at h
  all_goals simp at h
  all_goals first | omega | (have := size_nil (s := tx) (by simp [h]); omega) | skip
/-- conditionText of a part that is right. -/
theorem ctext_any (k : Int) (tx : ByteArray) (nu : Int) (kv : Value) (g n : Nat) (ks : List (List UInt8)) (w : World) (hlen : n = ks.length) (hK : Kd w g ks) (hl : ∀ x, x ∈ ks → x.length ≤ 4098) (hn : ks.length ≤ 1000) (hv : TabW w)
    (hk : kidsB k ks.length = true) (h1 : 1 ≤ k) (h2 : k ≤ 20) (hh : holdsB k tx nu = true) :
    Calls Tryz.prog 30 #[.agg #[.int .i64 k, .string tx, .int .i64 nu, kv], .slice (some ⟨g, 0, none⟩) n n] w fun e w' => e = .returned (.string (S (txK k (quoteL tx.data.toList) nu ks))) ∧ Below w.heap.size w w' := by
  subst hlen
  have hc : k = 1 ∨ k = 2 ∨ k = 3 ∨ k = 4 ∨ k = 5 ∨ k = 6 ∨ k = 7 ∨ k = 8 ∨ k = 9 ∨ k = 10 ∨ k = 11 ∨ k = 12 ∨ k = 13 ∨ k = 14 ∨ k = 15 ∨ k = 16 ∨ k = 17 ∨ k = 18 ∨ k = 19 ∨ k = 20 := by omega
  have ht : tx.size ≤ 127 := holds_size hh
  rcases hc with rfl | rfl | rfl | rfl | rfl | rfl | rfl | rfl | rfl | rfl | rfl | rfl | rfl | rfl | rfl | rfl | rfl | rfl | rfl | rfl
  · exact cond_1 tx nu kv _ w ht
  · exact cond_2 tx nu kv _ w ht
  · obtain ⟨a, rfl⟩ := one_kid (show ks.length = 1 by simp [kidsB] at hk; omega)
    exact cond_3 tx nu kv g a (hl a (by simp)) w ht hK
  · exact cond_4 tx nu kv g _ ks rfl hn hl w ht hK
  · exact cond_5 tx nu kv g _ ks rfl hn hl w ht hK
  · obtain ⟨a, b, rfl⟩ := two_kids (show ks.length = 2 by simp [kidsB] at hk; omega)
    exact cond_6 tx nu kv g a b (hl a (by simp)) (hl b (by simp)) (by simp [holdsB] at hh; omega) w hK
  · obtain ⟨a, b, rfl⟩ := two_kids (show ks.length = 2 by simp [kidsB] at hk; omega)
    exact cond_7 tx nu kv g a b (hl a (by simp)) (hl b (by simp)) (by simp [holdsB] at hh; omega) w hK
  · obtain ⟨a, rfl⟩ := one_kid (show ks.length = 1 by simp [kidsB] at hk; omega)
    exact cond_8 tx nu kv g a (hl a (by simp)) w ht hK
  · obtain ⟨a, rfl⟩ := one_kid (show ks.length = 1 by simp [kidsB] at hk; omega)
    exact cond_9 tx nu kv g a (hl a (by simp)) w ht hK
  · exact cond_10 tx nu kv _ w ht
  · exact ct_11 tx nu kv _ _ w (fun W hb => term_11 tx nu kv _ W ht)
  · exact ct_12 tx nu kv _ _ w (fun W hb => term_12 tx nu kv _ (by simp [holdsB] at hh; omega) W ht (hv.low hb))
  · exact ct_13 tx nu kv _ _ w (fun W hb => term_13 tx nu kv g _ ks rfl hn hl W ht (hK.low hb))
  · exact ct_14 tx nu kv _ _ w (fun W hb => term_14 tx nu kv _ (by simp [holdsB] at hh; omega) W ht)
  · exact ct_15 tx nu kv _ _ w (fun W hb => term_15 tx nu kv _ (by simp [holdsB] at hh; omega) W ht)
  · exact ct_16 tx nu kv _ _ w (fun W hb => term_16 tx nu kv _ (by simp [holdsB] at hh; omega) W ht)
  · exact ct_17 tx nu kv _ _ w (fun W hb => term_17 tx nu kv _ (by simp [holdsB] at hh; omega) W ht)
  · exact ct_18 tx nu kv _ _ w (fun W hb => term_18 tx nu kv _ (by simp [holdsB] at hh; omega) W ht)
  · obtain ⟨a, rfl⟩ := one_kid (show ks.length = 1 by simp [kidsB] at hk; omega)
    exact ct_19 tx nu kv _ _ w (fun W hb => term_19 tx nu kv g a (hl a (by simp)) W ht (hK.low hb))
  · obtain ⟨a, rfl⟩ := one_kid (show ks.length = 1 by simp [kidsB] at hk; omega)
    exact ct_20 tx nu kv _ _ w (fun W hb => term_20 tx nu kv g a (hl a (by simp)) W ht (hK.low hb))
end Go.Proofs.YtlhlpamciafocaaGreatDoor.L.Sw
