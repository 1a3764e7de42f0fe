import Derived.Test.YtlhlpamciafocaaGreatDoorMgAZ
namespace Go.Proofs.YtlhlpamciafocaaGreatDoor.L.Sw
open Go.RowKit Go.Shelf
set_option linter.unusedVariables false
set_option maxHeartbeats 4000000 in
theorem cmp_any (n : Int) (w : World) (h : 1 ≤ n ∧ n ≤ 6) : Calls Tryz.prog 44 #[.int .i64 n] w fun e w' => e = .returned (.string (S (sgnL n))) ∧ w' = w := by
  have hn : n = 1 ∨ n = 2 ∨ n = 3 ∨ n = 4 ∨ n = 5 ∨ n = 6 := by omega
  rcases hn with rfl | rfl | rfl | rfl | rfl | rfl
  · go_enter Tryz.func44, Tryz.ntmps44
    go_wp2_with fail
    go_ret
    exact ⟨rfl, rfl⟩
  · go_enter Tryz.func44, Tryz.ntmps44
    go_wp2_with fail
    go_ret
    exact ⟨rfl, rfl⟩
  · go_enter Tryz.func44, Tryz.ntmps44
    go_wp2_with fail
    go_ret
    exact ⟨rfl, rfl⟩
  · go_enter Tryz.func44, Tryz.ntmps44
    go_wp2_with fail
    go_ret
    exact ⟨rfl, rfl⟩
  · go_enter Tryz.func44, Tryz.ntmps44
    go_wp2_with fail
    go_ret
    exact ⟨rfl, rfl⟩
  · go_enter Tryz.func44, Tryz.ntmps44
    go_wp2_with fail
    go_ret
    exact ⟨rfl, rfl⟩
set_option maxHeartbeats 4000000 in
theorem mem_any (n : Int) (w : World) (h : n = 0 ∨ n = 1) : Calls Tryz.prog 45 #[.int .i64 n] w fun e w' => e = .returned (.string (S (memL n))) ∧ w' = w := by
  have hn : n = 0 ∨ n = 1 := by omega
  rcases hn with rfl | rfl
  · go_enter Tryz.func45, Tryz.ntmps45
    go_wp2_with fail
    go_ret
    exact ⟨rfl, rfl⟩
  · go_enter Tryz.func45, Tryz.ntmps45
    go_wp2_with fail
    go_ret
    exact ⟨rfl, rfl⟩
set_option maxHeartbeats 4000000 in
theorem who_any (n : Int) (w : World) (h : 1 ≤ n ∧ n ≤ 3) : Calls Tryz.prog 66 #[.int .i64 n] w fun e w' => e = .returned (.string (S (whoL n))) ∧ w' = w := by
  have hn : n = 1 ∨ n = 2 ∨ n = 3 := by omega
  rcases hn with rfl | rfl | rfl
  · go_enter Tryz.func66, Tryz.ntmps66
    go_wp2_with fail
    go_ret
    exact ⟨rfl, rfl⟩
  · go_enter Tryz.func66, Tryz.ntmps66
    go_wp2_with fail
    go_ret
    exact ⟨rfl, rfl⟩
  · go_enter Tryz.func66, Tryz.ntmps66
    go_wp2_with fail
    go_ret
    exact ⟨rfl, rfl⟩
/-- The table on Itoa's road. -/
def TabW (w : World) : Prop := Lib.TabIs Tryz.prog w "internal/strconv.uint64pow10" .u64 Lib.pow10Tab
theorem TabW.low {w w' : World} (h : TabW w) (hb : Below w.heap.size w w') : TabW w' := var_low h hb
theorem below_grow (w : World) (k : Nat) (os : Array Obj) : Below w.heap.size w (Sort.grow (w.drewN k) os) := by
  refine ⟨rfl, rfl, rfl, ?_, fun j hj => ?_⟩
  · show w.heap.size ≤ (w.heap ++ os).size
    simp
  · show (w.heap ++ os)[j]? = _
    rw [Array.getElem?_append_left hj]
theorem itoa_any (n : Int) (h0 : -999999999999999999 ≤ n) (h1 : n ≤ 999999999999999999) (w : World) (hv : TabW w) : Calls Tryz.prog 64 #[.int .i64 n] w fun e w' => e = .returned (.string (S (Lib.itoa n))) ∧ Below w.heap.size w w' := by
  refine (show Calls Tryz.prog 64 _ _ _ from Any.strconv_Itoa laysM171 n (by omega) (by omega) w hv).mono ?_
  rintro e w' ⟨rfl, k, os, rfl⟩
  exact ⟨rfl, below_grow w k os⟩
set_option maxHeartbeats 4000000 in
set_option maxRecDepth 100000 in
theorem term_11 (tx : ByteArray) (nu : Int) (kv : Value) (kl : Value) (w : World) (ht : tx.size ≤ 127) :
    Calls Tryz.prog 48 #[.agg #[.int .i64 11, .string tx, .int .i64 nu, kv], kl] w fun e w' => e = .returned (.string (S (quoteL tx.data.toList))) ∧ Below w.heap.size w w' := by
  have HQ := hid (fun W => quote_any tx W (by omega))
  have hql := quote_len (tx_len ht)
  generalize quoteL tx.data.toList = q at *
  have HB := hid (belowA w (.cells #[.int .i64 11, .string tx, .int .i64 nu, kv] 50))
  have HC := hid (cells4 (heap_alloc_new w (.cells #[.int .i64 11, .string tx, .int .i64 nu, kv] 50)))
  go_enter Tryz.func48, Tryz.ntmps48
  go_upto_region 1 with (fail)
  have ⟨x0, x1, x2, x3⟩ := HC.out
  generalize w.alloc (.cells #[.int .i64 11, .string tx, .int .i64 nu, kv] 50) = X at *
  go_wp2_with (first | (go_at_call 47; refine (HQ.out _).mono ?_; rintro e w1 ⟨rfl, l1⟩; have L1 := hid l1; clear l1))
  go_ret
  exact ⟨rfl, bch HB.out L1.out⟩
set_option maxHeartbeats 4000000 in
set_option maxRecDepth 100000 in
theorem term_12 (tx : ByteArray) (nu : Int) (kv : Value) (kl : Value) (hn : -999999999999999999 ≤ nu ∧ nu ≤ 999999999999999999) (w : World) (ht : tx.size ≤ 127) (hv : TabW w) :
    Calls Tryz.prog 48 #[.agg #[.int .i64 12, .string tx, .int .i64 nu, kv], kl] w fun e w' => e = .returned (.string (S (Lib.itoa nu))) ∧ Below w.heap.size w w' := by
  have HB := hid (belowA w (.cells #[.int .i64 12, .string tx, .int .i64 nu, kv] 50))
  have HC := hid (cells4 (heap_alloc_new w (.cells #[.int .i64 12, .string tx, .int .i64 nu, kv] 50)))
  have HI := hid (itoa_any nu hn.1 hn.2 _ (hv.low HB.out))
  clear hv hn
  generalize Lib.itoa nu = r at *
  go_enter Tryz.func48, Tryz.ntmps48
  go_upto_region 1 with (fail)
  have ⟨x0, x1, x2, x3⟩ := HC.out
  generalize w.alloc (.cells #[.int .i64 12, .string tx, .int .i64 nu, kv] 50) = X at *
  go_wp2_with (first | (go_at_call 64; refine HI.out.mono ?_; rintro e w1 ⟨rfl, l1⟩; have L1 := hid l1; clear l1))
  go_ret
  exact ⟨rfl, bch HB.out L1.out⟩
set_option maxHeartbeats 4000000 in
set_option maxRecDepth 100000 in
theorem term_13 (tx : ByteArray) (nu : Int) (kv : Value) (g n : Nat) (ks : List (List UInt8)) (hlen : n = ks.length) (hn : ks.length ≤ 1000) (hl : ∀ x, x ∈ ks → x.length ≤ 4098) (w : World) (ht : tx.size ≤ 127) (hK : Kd w g ks) :
    Calls Tryz.prog 48 #[.agg #[.int .i64 13, .string tx, .int .i64 nu, kv], .slice (some ⟨g, 0, none⟩) n n] w fun e w' => e = .returned (.string (S ([123] ++ (Lib.join ks [44, 32] ++ [125])))) ∧ Below w.heap.size w w' := by
  have HB := hid (belowA w (.cells #[.int .i64 13, .string tx, .int .i64 nu, kv] 50))
  have HC := hid (cells4 (heap_alloc_new w (.cells #[.int .i64 13, .string tx, .int .i64 nu, kv] 50)))
  have HK := hid (hK.low HB.out)
  have HJ := hid (join_any g n ks [44, 32] n _ hlen HK.out.cell HK.out.lt hn (by omega) (fun x hx => Nat.le_trans (hl x hx) (by omega)) (by simp))
  have hjl := join_le 4098 (sep := [44, 32]) hl hn (by simp)
  clear hK hl hlen hn HK
  generalize Lib.join ks [44, 32] = J at *
  go_enter Tryz.func48, Tryz.ntmps48
  go_upto_region 1 with (fail)
  have ⟨x0, x1, x2, x3⟩ := HC.out
  generalize w.alloc (.cells #[.int .i64 13, .string tx, .int .i64 nu, kv] 50) = X at *
  have HW := hid (fun (W : World) => write_any W.heap.size [[123], J, [125]] 3 (W.alloc (.cells ([[123], J, [125]].map (fun x => Value.string (S x))).toArray 9)) rfl (new_txt W _) (by simp) (by simp) (by intro x hx; simp at hx; rcases hx with rfl | rfl | rfl <;> first | omega | simp))
  simp only [List.map_cons, List.map_nil, List.flatten_cons, List.flatten_nil, List.append_nil] at HW
  go_wp2_with (first | (go_at_call 43; refine HJ.out.mono ?_; rintro e w1 ⟨rfl, l1⟩; have L1 := hid l1; clear l1) | (go_at_call 42; refine (HW.out _).mono ?_; rintro e w2 ⟨rfl, l2⟩; have L2 := hid l2; clear l2))
  go_ret
  exact ⟨rfl, bch (bch (bch HB.out L1.out) (belowA w1 _)) L2.out⟩
set_option maxHeartbeats 4000000 in
set_option maxRecDepth 100000 in
theorem cond_4 (tx : ByteArray) (nu : Int) (kv : Value) (g n : Nat) (ks : List (List UInt8)) (hlen : n = ks.length) (hn : ks.length ≤ 1000) (hl : ∀ x, x ∈ ks → x.length ≤ 4098) (w : World) (ht : tx.size ≤ 127) (hK : Kd w g ks) :
    Calls Tryz.prog 30 #[.agg #[.int .i64 4, .string tx, .int .i64 nu, kv], .slice (some ⟨g, 0, none⟩) n n] w fun e w' => e = .returned (.string (S (Lib.join ks [32, 38, 38, 32]))) ∧ Below w.heap.size w w' := by
  have HB := hid (belowA w (.cells #[.int .i64 4, .string tx, .int .i64 nu, kv] 50))
  have HC := hid (cells4 (heap_alloc_new w (.cells #[.int .i64 4, .string tx, .int .i64 nu, kv] 50)))
  have HK := hid (hK.low HB.out)
  have HJ := hid (join_any g n ks [32, 38, 38, 32] n _ hlen HK.out.cell HK.out.lt hn (by omega) (fun x hx => Nat.le_trans (hl x hx) (by omega)) (by simp))
  have hjl := join_le 4098 (sep := [32, 38, 38, 32]) hl hn (by simp)
  clear hK hl hlen hn HK
  generalize Lib.join ks [32, 38, 38, 32] = J at *
  go_enter Tryz.func30, Tryz.ntmps30
  go_upto_region 1 with (fail)
  have ⟨x0, x1, x2, x3⟩ := HC.out
  generalize w.alloc (.cells #[.int .i64 4, .string tx, .int .i64 nu, kv] 50) = X at *
  go_wp2_with (first | (go_at_call 43; refine HJ.out.mono ?_; rintro e w1 ⟨rfl, l1⟩; have L1 := hid l1; clear l1))
  go_ret
  exact ⟨rfl, bch HB.out L1.out⟩
set_option maxHeartbeats 4000000 in
set_option maxRecDepth 100000 in
theorem cond_5 (tx : ByteArray) (nu : Int) (kv : Value) (g n : Nat) (ks : List (List UInt8)) (hlen : n = ks.length) (hn : ks.length ≤ 1000) (hl : ∀ x, x ∈ ks → x.length ≤ 4098) (w : World) (ht : tx.size ≤ 127) (hK : Kd w g ks) :
    Calls Tryz.prog 30 #[.agg #[.int .i64 5, .string tx, .int .i64 nu, kv], .slice (some ⟨g, 0, none⟩) n n] w fun e w' => e = .returned (.string (S (Lib.join ks [32, 124, 124, 32]))) ∧ Below w.heap.size w w' := by
  have HB := hid (belowA w (.cells #[.int .i64 5, .string tx, .int .i64 nu, kv] 50))
  have HC := hid (cells4 (heap_alloc_new w (.cells #[.int .i64 5, .string tx, .int .i64 nu, kv] 50)))
  have HK := hid (hK.low HB.out)
  have HJ := hid (join_any g n ks [32, 124, 124, 32] n _ hlen HK.out.cell HK.out.lt hn (by omega) (fun x hx => Nat.le_trans (hl x hx) (by omega)) (by simp))
  have hjl := join_le 4098 (sep := [32, 124, 124, 32]) hl hn (by simp)
  clear hK hl hlen hn HK
  generalize Lib.join ks [32, 124, 124, 32] = J at *
  go_enter Tryz.func30, Tryz.ntmps30
  go_upto_region 1 with (fail)
  have ⟨x0, x1, x2, x3⟩ := HC.out
  generalize w.alloc (.cells #[.int .i64 5, .string tx, .int .i64 nu, kv] 50) = X at *
  go_wp2_with (first | (go_at_call 43; refine HJ.out.mono ?_; rintro e w1 ⟨rfl, l1⟩; have L1 := hid l1; clear l1))
  go_ret
  exact ⟨rfl, bch HB.out L1.out⟩
set_option maxHeartbeats 4000000 in
set_option maxRecDepth 100000 in
theorem cond_1 (tx : ByteArray) (nu : Int) (kv : Value) (kl : Value) (w : World) (ht : tx.size ≤ 127) :
    Calls Tryz.prog 30 #[.agg #[.int .i64 1, .string tx, .int .i64 nu, kv], kl] w fun e w' => e = .returned (.string (S [116, 114, 117, 101])) ∧ Below w.heap.size w w' := by
  have HB := hid (belowA w (.cells #[.int .i64 1, .string tx, .int .i64 nu, kv] 50))
  have HC := hid (cells4 (heap_alloc_new w (.cells #[.int .i64 1, .string tx, .int .i64 nu, kv] 50)))
  go_enter Tryz.func30, Tryz.ntmps30
  go_upto_region 1 with (fail)
  have ⟨x0, x1, x2, x3⟩ := HC.out
  generalize w.alloc (.cells #[.int .i64 1, .string tx, .int .i64 nu, kv] 50) = X at *
  go_wp2_with fail
  go_ret
  exact ⟨rfl, HB.out⟩
set_option maxHeartbeats 4000000 in
set_option maxRecDepth 100000 in
theorem cond_2 (tx : ByteArray) (nu : Int) (kv : Value) (kl : Value) (w : World) (ht : tx.size ≤ 127) :
    Calls Tryz.prog 30 #[.agg #[.int .i64 2, .string tx, .int .i64 nu, kv], kl] w fun e w' => e = .returned (.string (S [102, 97, 108, 115, 101])) ∧ Below w.heap.size w w' := by
  have HB := hid (belowA w (.cells #[.int .i64 2, .string tx, .int .i64 nu, kv] 50))
  have HC := hid (cells4 (heap_alloc_new w (.cells #[.int .i64 2, .string tx, .int .i64 nu, kv] 50)))
  go_enter Tryz.func30, Tryz.ntmps30
  go_upto_region 1 with (fail)
  have ⟨x0, x1, x2, x3⟩ := HC.out
  generalize w.alloc (.cells #[.int .i64 2, .string tx, .int .i64 nu, kv] 50) = X at *
  go_wp2_with fail
  go_ret
  exact ⟨rfl, HB.out⟩
set_option maxHeartbeats 4000000 in
set_option maxRecDepth 100000 in
theorem cond_10 (tx : ByteArray) (nu : Int) (kv : Value) (kl : Value) (w : World) (ht : tx.size ≤ 127) :
    Calls Tryz.prog 30 #[.agg #[.int .i64 10, .string tx, .int .i64 nu, kv], kl] w fun e w' => e = .returned (.string (S ([116, 111, 108, 101, 114, 97, 116, 101, 100] ++ ([40] ++ (quoteL tx.data.toList ++ [41]))))) ∧ Below w.heap.size w w' := by
  have HQ := hid (fun W => quote_any tx W (by omega))
  have hql := quote_len (tx_len ht)
  generalize quoteL tx.data.toList = q at *
  have HB := hid (belowA w (.cells #[.int .i64 10, .string tx, .int .i64 nu, kv] 50))
  have HC := hid (cells4 (heap_alloc_new w (.cells #[.int .i64 10, .string tx, .int .i64 nu, kv] 50)))
  go_enter Tryz.func30, Tryz.ntmps30
  go_upto_region 1 with (fail)
  have ⟨x0, x1, x2, x3⟩ := HC.out
  generalize w.alloc (.cells #[.int .i64 10, .string tx, .int .i64 nu, kv] 50) = X at *
  have HW := hid (fun (W : World) => call_any [116, 111, 108, 101, 114, 97, 116, 101, 100] W.heap.size [q] 1 (W.alloc (.cells ([q].map (fun x => Value.string (S x))).toArray 9)) rfl (new_txt W _) (by simp) (by simp) (by intro x hx; simp at hx; rcases hx with rfl <;> first | omega | simp) (by first | omega | simp))
  simp only [List.map_cons, List.map_nil, Lib.join_one] at HW
  go_wp2_with (first | (go_at_call 47; refine (HQ.out _).mono ?_; rintro e w1 ⟨rfl, l1⟩; have L1 := hid l1; clear l1) | (go_at_call 46; refine (HW.out _).mono ?_; rintro e w2 ⟨rfl, l2⟩; have L2 := hid l2; clear l2))
  go_ret
  exact ⟨rfl, bch (bch (bch HB.out L1.out) (belowA w1 _)) L2.out⟩
set_option maxHeartbeats 4000000 in
set_option maxRecDepth 100000 in
theorem cond_3 (tx : ByteArray) (nu : Int) (kv : Value) (g : Nat) (a : List UInt8) (ha : a.length ≤ 4098) (w : World) (ht : tx.size ≤ 127) (hK : Kd w g [a]) :
    Calls Tryz.prog 30 #[.agg #[.int .i64 3, .string tx, .int .i64 nu, kv], .slice (some ⟨g, 0, none⟩) 1 1] w fun e w' => e = .returned (.string (S ([33] ++ a))) ∧ Below w.heap.size w w' := by
  have HB := hid (belowA w (.cells #[.int .i64 3, .string tx, .int .i64 nu, kv] 50))
  have HC := hid (cells4 (heap_alloc_new w (.cells #[.int .i64 3, .string tx, .int .i64 nu, kv] 50)))
  go_enter Tryz.func30, Tryz.ntmps30
  go_upto_region 1 with (fail)
  have ⟨x0, x1, x2, x3⟩ := HC.out
  have HK := hid (hK.low HB.out)
  have y0 := HK.out.cell 0 _ rfl
  have HGL := hid HK.out.lt
  clear hK
  generalize w.alloc (.cells #[.int .i64 3, .string tx, .int .i64 nu, kv] 50) = X at *
  have HW := hid (fun (W : World) => write_any W.heap.size [[33], a] 2 (W.alloc (.cells ([[33], a].map (fun x => Value.string (S x))).toArray 9)) rfl (new_txt W _) (by simp) (by simp) (by intro x hx; simp at hx; rcases hx with rfl | rfl <;> first | omega | simp))
  simp only [List.map_cons, List.map_nil, List.flatten_cons, List.flatten_nil, List.append_nil] at HW
  go_wp2_with (first | (go_at_call 42; refine (HW.out _).mono ?_; rintro e w2 ⟨rfl, l2⟩; have L2 := hid l2; clear l2))
  go_ret
  exact ⟨rfl, bch (bch HB.out (belowA X _)) L2.out⟩
set_option maxHeartbeats 4000000 in
set_option maxRecDepth 100000 in
theorem term_19 (tx : ByteArray) (nu : Int) (kv : Value) (g : Nat) (a : List UInt8) (ha : a.length ≤ 4098) (w : World) (ht : tx.size ≤ 127) (hK : Kd w g [a]) :
    Calls Tryz.prog 48 #[.agg #[.int .i64 19, .string tx, .int .i64 nu, kv], .slice (some ⟨g, 0, none⟩) 1 1] w fun e w' => e = .returned (.string (S ([105, 110, 116] ++ ([40] ++ (a ++ [41]))))) ∧ Below w.heap.size w w' := by
  have HB := hid (belowA w (.cells #[.int .i64 19, .string tx, .int .i64 nu, kv] 50))
  have HC := hid (cells4 (heap_alloc_new w (.cells #[.int .i64 19, .string tx, .int .i64 nu, kv] 50)))
  go_enter Tryz.func48, Tryz.ntmps48
  go_upto_region 1 with (fail)
  have ⟨x0, x1, x2, x3⟩ := HC.out
  have HK := hid (hK.low HB.out)
  have y0 := HK.out.cell 0 _ rfl
  have HGL := hid HK.out.lt
  clear hK
  generalize w.alloc (.cells #[.int .i64 19, .string tx, .int .i64 nu, kv] 50) = X at *
  have HW := hid (fun (W : World) => call_any [105, 110, 116] W.heap.size [a] 1 (W.alloc (.cells ([a].map (fun x => Value.string (S x))).toArray 9)) rfl (new_txt W _) (by simp) (by simp) (by intro x hx; simp at hx; rcases hx with rfl <;> first | omega | simp) (by first | omega | simp))
  simp only [List.map_cons, List.map_nil, Lib.join_one] at HW
  go_wp2_with (first | (go_at_call 46; refine (HW.out _).mono ?_; rintro e w2 ⟨rfl, l2⟩; have L2 := hid l2; clear l2))
  go_ret
  exact ⟨rfl, bch (bch HB.out (belowA X _)) L2.out⟩
end Go.Proofs.YtlhlpamciafocaaGreatDoor.L.Sw
namespace Go.Proofs.YtlhlpamciafocaaGreatDoor.L.Sw
open Go.RowKit Go.Shelf
set_option linter.unusedVariables false
theorem infoS : (Tryz.prog.info? 9).map (fun i => (i.zero, i.size, i.bytes)) = some (some (.string ⟨#[]⟩), 1, 16) := by kernel_rfl
theorem make_txt (n : Nat) (hn : n ≤ 1000) (w : World) : (Instr.makeSlice 72 (.int .i64 (n : Int)) (.int .i64 (n : Int))).run Tryz.prog w = .ok (.slice (some ⟨w.heap.size, 0, none⟩) n n) (w.alloc (.cells (madeCells #[.string ⟨#[]⟩] n) 9)) := by
  obtain ⟨i, hi, hz, hs, hb⟩ := info_parts infoS
  have h := run_makeSlice (P := Tryz.prog) w 72 9 i (.string ⟨#[]⟩) Tryz.underlying72 hi hz .i64 .i64 n n (by omega) (by omega) (by rw [hs]; omega) (by rw [hb]; omega) (by omega)
  rw [hs] at h
  simpa [Value.cells] using h
end Go.Proofs.YtlhlpamciafocaaGreatDoor.L.Sw
namespace Go.Proofs.YtlhlpamciafocaaGreatDoor.L.Sw
open Go.RowKit Go.Shelf
set_option linter.unusedVariables false
theorem undrew {B : Nat} {w w' : World} (h : Below B w.drew w') : Below B w w' := ⟨h.os, h.tape, h.output, h.size, h.block⟩
end Go.Proofs.YtlhlpamciafocaaGreatDoor.L.Sw
