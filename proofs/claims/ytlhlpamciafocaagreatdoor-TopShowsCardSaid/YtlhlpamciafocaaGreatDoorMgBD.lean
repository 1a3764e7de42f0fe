import Derived.Test.YtlhlpamciafocaaGreatDoorMgBC
namespace Go.Proofs.YtlhlpamciafocaaGreatDoor.L.Sw
open Go.RowKit Go.Shelf
set_option linter.unusedVariables false
set_option maxHeartbeats 4000000 in
theorem cmp_any (n : Int) (w : World) (h : 1 ≤ n ∧ n ≤ 6) : Calls Tryz.prog 44 #[.int .i64 n] w fun e w' => e = .returned (.string (S (sgnL n))) ∧ w' = w := by
  have hn : n = 1 ∨ n = 2 ∨ n = 3 ∨ n = 4 ∨ n = 5 ∨ n = 6 := by omega
  rcases hn with rfl | rfl | rfl | rfl | rfl | rfl
  · go_enter Tryz.func44, Tryz.ntmps44
    go_wp2_with fail
    go_ret
    exact ⟨rfl, rfl⟩
  · go_enter Tryz.func44, Tryz.ntmps44
    go_wp2_with fail
    go_ret
    exact ⟨rfl, rfl⟩
  · go_enter Tryz.func44, Tryz.ntmps44
    go_wp2_with fail
    go_ret
    exact ⟨rfl, rfl⟩
  · go_enter Tryz.func44, Tryz.ntmps44
    go_wp2_with fail
    go_ret
    exact ⟨rfl, rfl⟩
  · go_enter Tryz.func44, Tryz.ntmps44
    go_wp2_with fail
    go_ret
    exact ⟨rfl, rfl⟩
  · go_enter Tryz.func44, Tryz.ntmps44
    go_wp2_with fail
    go_ret
    exact ⟨rfl, rfl⟩
set_option maxHeartbeats 4000000 in
theorem mem_any (n : Int) (w : World) (h : n = 0 ∨ n = 1) : Calls Tryz.prog 45 #[.int .i64 n] w fun e w' => e = .returned (.string (S (memL n))) ∧ w' = w := by
  have hn : n = 0 ∨ n = 1 := by omega
  rcases hn with rfl | rfl
  · go_enter Tryz.func45, Tryz.ntmps45
    go_wp2_with fail
    go_ret
    exact ⟨rfl, rfl⟩
  · go_enter Tryz.func45, Tryz.ntmps45
    go_wp2_with fail
    go_ret
    exact ⟨rfl, rfl⟩
set_option maxHeartbeats 4000000 in
theorem who_any (n : Int) (w : World) (h : 1 ≤ n ∧ n ≤ 3) : Calls Tryz.prog 66 #[.int .i64 n] w fun e w' => e = .returned (.string (S (whoL n))) ∧ w' = w := by
  have hn : n = 1 ∨ n = 2 ∨ n = 3 := by omega
  rcases hn with rfl | rfl | rfl
  · go_enter Tryz.func66, Tryz.ntmps66
    go_wp2_with fail
    go_ret
    exact ⟨rfl, rfl⟩
  · go_enter Tryz.func66, Tryz.ntmps66
    go_wp2_with fail
    go_ret
    exact ⟨rfl, rfl⟩
  · go_enter Tryz.func66, Tryz.ntmps66
    go_wp2_with fail
    go_ret
    exact ⟨rfl, rfl⟩
/-- The table on Itoa's road. -/
def TabW (w : World) : Prop := Lib.TabIs Tryz.prog w "internal/strconv.uint64pow10" .u64 Lib.pow10Tab
theorem TabW.low {w w' : World} (h : TabW w) (hb : Below w.heap.size w w') : TabW w' := var_low h hb
theorem below_grow (w : World) (k : Nat) (os : Array Obj) : Below w.heap.size w (Sort.grow (w.drewN k) os) := by
  refine ⟨rfl, rfl, rfl, ?_, fun j hj => ?_⟩
  · show w.heap.size ≤ (w.heap ++ os).size
    simp
  · show (w.heap ++ os)[j]? = _
    rw [Array.getElem?_append_left hj]
theorem itoa_any (n : Int) (h0 : -999999999999999999 ≤ n) (h1 : n ≤ 999999999999999999) (w : World) (hv : TabW w) : Calls Tryz.prog 64 #[.int .i64 n] w fun e w' => e = .returned (.string (S (Lib.itoa n))) ∧ Below w.heap.size w w' := by
  refine (show Calls Tryz.prog 64 _ _ _ from Any.strconv_Itoa laysM171 n (by omega) (by omega) w hv).mono ?_
  rintro e w' ⟨rfl, k, os, rfl⟩
  exact ⟨rfl, below_grow w k os⟩
set_option maxHeartbeats 4000000 in
set_option maxRecDepth 100000 in
theorem term_11 (tx : ByteArray) (nu : Int) (kv : Value) (kl : Value) (w : World) (ht : tx.size ≤ 127) :
    Calls Tryz.prog 48 #[.agg #[.int .i64 11, .string tx, .int .i64 nu, kv], kl] w fun e w' => e = .returned (.string (S (quoteL tx.data.toList))) ∧ Below w.heap.size w w' := by
  have HQ := hid (fun W => quote_any tx W (by omega))
  have hql := quote_len (tx_len ht)
  generalize quoteL tx.data.toList = q at *
  have HB := hid (belowA w (.cells #[.int .i64 11, .string tx, .int .i64 nu, kv] 50))
  have HC := hid (cells4 (heap_alloc_new w (.cells #[.int .i64 11, .string tx, .int .i64 nu, kv] 50)))
  go_enter Tryz.func48, Tryz.ntmps48
  go_upto_region 1 with (fail)
  have ⟨x0, x1, x2, x3⟩ := HC.out
  generalize w.alloc (.cells #[.int .i64 11, .string tx, .int .i64 nu, kv] 50) = X at *
  go_wp2_with (first | (go_at_call 47; refine (HQ.out _).mono ?_; rintro e w1 ⟨rfl, l1⟩; have L1 := hid l1; clear l1))
  go_ret
  exact ⟨rfl, bch HB.out L1.out⟩
set_option maxHeartbeats 4000000 in
set_option maxRecDepth 100000 in
theorem term_12 (tx : ByteArray) (nu : Int) (kv : Value) (kl : Value) (hn : -999999999999999999 ≤ nu ∧ nu ≤ 999999999999999999) (w : World) (ht : tx.size ≤ 127) (hv : TabW w) :
    Calls Tryz.prog 48 #[.agg #[.int .i64 12, .string tx, .int .i64 nu, kv], kl] w fun e w' => e = .returned (.string (S (Lib.itoa nu))) ∧ Below w.heap.size w w' := by
  have HB := hid (belowA w (.cells #[.int .i64 12, .string tx, .int .i64 nu, kv] 50))
  have HC := hid (cells4 (heap_alloc_new w (.cells #[.int .i64 12, .string tx, .int .i64 nu, kv] 50)))
  have HI := hid (itoa_any nu hn.1 hn.2 _ (hv.low HB.out))
  clear hv hn
  generalize Lib.itoa nu = r at *
  go_enter Tryz.func48, Tryz.ntmps48
  go_upto_region 1 with (fail)
  have ⟨x0, x1, x2, x3⟩ := HC.out
  generalize w.alloc (.cells #[.int .i64 12, .string tx, .int .i64 nu, kv] 50) = X at *
  go_wp2_with (first | (go_at_call 64; refine HI.out.mono ?_; rintro e w1 ⟨rfl, l1⟩; have L1 := hid l1; clear l1))
  go_ret
  exact ⟨rfl, bch HB.out L1.out⟩
set_option maxHeartbeats 4000000 in
set_option maxRecDepth 100000 in
theorem term_13 (tx : ByteArray) (nu : Int) (kv : Value) (g n : Nat) (ks : List (List UInt8)) (hlen : n = ks.length) (hn : ks.length ≤ 1000) (hl : ∀ x, x ∈ ks → x.length ≤ 4098) (w : World) (ht : tx.size ≤ 127) (hK : Kd w g ks) :
    Calls Tryz.prog 48 #[.agg #[.int .i64 13, .string tx, .int .i64 nu, kv], .slice (some ⟨g, 0, none⟩) n n] w fun e w' => e = .returned (.string (S ([123] ++ (Lib.join ks [44, 32] ++ [125])))) ∧ Below w.heap.size w w' := by
  have HB := hid (belowA w (.cells #[.int .i64 13, .string tx, .int .i64 nu, kv] 50))
  have HC := hid (cells4 (heap_alloc_new w (.cells #[.int .i64 13, .string tx, .int .i64 nu, kv] 50)))
  have HK := hid (hK.low HB.out)
  have HJ := hid (join_any g n ks [44, 32] n _ hlen HK.out.cell HK.out.lt hn (by omega) (fun x hx => Nat.le_trans (hl x hx) (by omega)) (by simp))
  have hjl := join_le 4098 (sep := [44, 32]) hl hn (by simp)
  clear hK hl hlen hn HK
  generalize Lib.join ks [44, 32] = J at *
  go_enter Tryz.func48, Tryz.ntmps48
  go_upto_region 1 with (fail)
  have ⟨x0, x1, x2, x3⟩ := HC.out
  generalize w.alloc (.cells #[.int .i64 13, .string tx, .int .i64 nu, kv] 50) = X at *
  have HW := hid (fun (W : World) => write_any W.heap.size [[123], J, [125]] 3 (W.alloc (.cells ([[123], J, [125]].map (fun x => Value.string (S x))).toArray 9)) rfl (new_txt W _) (by simp) (by simp) (by intro x hx; simp at hx; rcases hx with rfl | rfl | rfl <;> first | omega | simp))
  simp only [List.map_cons, List.map_nil, List.flatten_cons, List.flatten_nil, List.append_nil] at HW
  go_wp2_with (first | (go_at_call 43; refine HJ.out.mono ?_; rintro e w1 ⟨rfl, l1⟩; have L1 := hid l1; clear l1) | (go_at_call 42; refine (HW.out _).mono ?_; rintro e w2 ⟨rfl, l2⟩; have L2 := hid l2; clear l2))
  go_ret
  exact ⟨rfl, bch (bch (bch HB.out L1.out) (belowA w1 _)) L2.out⟩
set_option maxHeartbeats 4000000 in
set_option maxRecDepth 100000 in
theorem cond_4 (tx : ByteArray) (nu : Int) (kv : Value) (g n : Nat) (ks : List (List UInt8)) (hlen : n = ks.length) (hn : ks.length ≤ 1000) (hl : ∀ x, x ∈ ks → x.length ≤ 4098) (w : World) (ht : tx.size ≤ 127) (hK : Kd w g ks) :
    Calls Tryz.prog 30 #[.agg #[.int .i64 4, .string tx, .int .i64 nu, kv], .slice (some ⟨g, 0, none⟩) n n] w fun e w' => e = .returned (.string (S (Lib.join ks [32, 38, 38, 32]))) ∧ Below w.heap.size w w' := by
  have HB := hid (belowA w (.cells #[.int .i64 4, .string tx, .int .i64 nu, kv] 50))
  have HC := hid (cells4 (heap_alloc_new w (.cells #[.int .i64 4, .string tx, .int .i64 nu, kv] 50)))
  have HK := hid (hK.low HB.out)
  have HJ := hid (join_any g n ks [32, 38, 38, 32] n _ hlen HK.out.cell HK.out.lt hn (by omega) (fun x hx => Nat.le_trans (hl x hx) (by omega)) (by simp))
  have hjl := join_le 4098 (sep := [32, 38, 38, 32]) hl hn (by simp)
  clear hK hl hlen hn HK
  generalize Lib.join ks [32, 38, 38, 32] = J at *
  go_enter Tryz.func30, Tryz.ntmps30
  go_upto_region 1 with (fail)
  have ⟨x0, x1, x2, x3⟩ := HC.out
  generalize w.alloc (.cells #[.int .i64 4, .string tx, .int .i64 nu, kv] 50) = X at *
  go_wp2_with (first | (go_at_call 43; refine HJ.out.mono ?_; rintro e w1 ⟨rfl, l1⟩; have L1 := hid l1; clear l1))
  go_ret
  exact ⟨rfl, bch HB.out L1.out⟩
set_option maxHeartbeats 4000000 in
set_option maxRecDepth 100000 in
theorem cond_5 (tx : ByteArray) (nu : Int) (kv : Value) (g n : Nat) (ks : List (List UInt8)) (hlen : n = ks.length) (hn : ks.length ≤ 1000) (hl : ∀ x, x ∈ ks → x.length ≤ 4098) (w : World) (ht : tx.size ≤ 127) (hK : Kd w g ks) :
    Calls Tryz.prog 30 #[.agg #[.int .i64 5, .string tx, .int .i64 nu, kv], .slice (some ⟨g, 0, none⟩) n n] w fun e w' => e = .returned (.string (S (Lib.join ks [32, 124, 124, 32]))) ∧ Below w.heap.size w w' := by
  have HB := hid (belowA w (.cells #[.int .i64 5, .string tx, .int .i64 nu, kv] 50))
  have HC := hid (cells4 (heap_alloc_new w (.cells #[.int .i64 5, .string tx, .int .i64 nu, kv] 50)))
  have HK := hid (hK.low HB.out)
  have HJ := hid (join_any g n ks [32, 124, 124, 32] n _ hlen HK.out.cell HK.out.lt hn (by omega) (fun x hx => Nat.le_trans (hl x hx) (by omega)) (by simp))
  have hjl := join_le 4098 (sep := [32, 124, 124, 32]) hl hn (by simp)
  clear hK hl hlen hn HK
  generalize Lib.join ks [32, 124, 124, 32] = J at *
  go_enter Tryz.func30, Tryz.ntmps30
  go_upto_region 1 with (fail)
  have ⟨x0, x1, x2, x3⟩ := HC.out
  generalize w.alloc (.cells #[.int .i64 5, .string tx, .int .i64 nu, kv] 50) = X at *
  go_wp2_with (first | (go_at_call 43; refine HJ.out.mono ?_; rintro e w1 ⟨rfl, l1⟩; have L1 := hid l1; clear l1))
  go_ret
  exact ⟨rfl, bch HB.out L1.out⟩
set_option maxHeartbeats 4000000 in
set_option maxRecDepth 100000 in
theorem cond_1 (tx : ByteArray) (nu : Int) (kv : Value) (kl : Value) (w : World) (ht : tx.size ≤ 127) :
    Calls Tryz.prog 30 #[.agg #[.int .i64 1, .string tx, .int .i64 nu, kv], kl] w fun e w' => e = .returned (.string (S [116, 114, 117, 101])) ∧ Below w.heap.size w w' := by
  have HB := hid (belowA w (.cells #[.int .i64 1, .string tx, .int .i64 nu, kv] 50))
  have HC := hid (cells4 (heap_alloc_new w (.cells #[.int .i64 1, .string tx, .int .i64 nu, kv] 50)))
  go_enter Tryz.func30, Tryz.ntmps30
  go_upto_region 1 with (fail)
  have ⟨x0, x1, x2, x3⟩ := HC.out
  generalize w.alloc (.cells #[.int .i64 1, .string tx, .int .i64 nu, kv] 50) = X at *
  go_wp2_with fail
  go_ret
  exact ⟨rfl, HB.out⟩
set_option maxHeartbeats 4000000 in
set_option maxRecDepth 100000 in
theorem cond_2 (tx : ByteArray) (nu : Int) (kv : Value) (kl : Value) (w : World) (ht : tx.size ≤ 127) :
    Calls Tryz.prog 30 #[.agg #[.int .i64 2, .string tx, .int .i64 nu, kv], kl] w fun e w' => e = .returned (.string (S [102, 97, 108, 115, 101])) ∧ Below w.heap.size w w' := by
  have HB := hid (belowA w (.cells #[.int .i64 2, .string tx, .int .i64 nu, kv] 50))
  have HC := hid (cells4 (heap_alloc_new w (.cells #[.int .i64 2, .string tx, .int .i64 nu, kv] 50)))
  go_enter Tryz.func30, Tryz.ntmps30
  go_upto_region 1 with (fail)
  have ⟨x0, x1, x2, x3⟩ := HC.out
  generalize w.alloc (.cells #[.int .i64 2, .string tx, .int .i64 nu, kv] 50) = X at *
  go_wp2_with fail
  go_ret
  exact ⟨rfl, HB.out⟩
set_option maxHeartbeats 4000000 in
set_option maxRecDepth 100000 in
theorem cond_10 (tx : ByteArray) (nu : Int) (kv : Value) (kl : Value) (w : World) (ht : tx.size ≤ 127) :
    Calls Tryz.prog 30 #[.agg #[.int .i64 10, .string tx, .int .i64 nu, kv], kl] w fun e w' => e = .returned (.string (S ([116, 111, 108, 101, 114, 97, 116, 101, 100] ++ ([40] ++ (quoteL tx.data.toList ++ [41]))))) ∧ Below w.heap.size w w' := by
  have HQ := hid (fun W => quote_any tx W (by omega))
  have hql := quote_len (tx_len ht)
  generalize quoteL tx.data.toList = q at *
  have HB := hid (belowA w (.cells #[.int .i64 10, .string tx, .int .i64 nu, kv] 50))
  have HC := hid (cells4 (heap_alloc_new w (.cells #[.int .i64 10, .string tx, .int .i64 nu, kv] 50)))
  go_enter Tryz.func30, Tryz.ntmps30
  go_upto_region 1 with (fail)
  have ⟨x0, x1, x2, x3⟩ := HC.out
  generalize w.alloc (.cells #[.int .i64 10, .string tx, .int .i64 nu, kv] 50) = X at *
  have HW := hid (fun (W : World) => call_any [116, 111, 108, 101, 114, 97, 116, 101, 100] W.heap.size [q] 1 (W.alloc (.cells ([q].map (fun x => Value.string (S x))).toArray 9)) rfl (new_txt W _) (by simp) (by simp) (by intro x hx; simp at hx; rcases hx with rfl <;> first | omega | simp) (by first | omega | simp))
  simp only [List.map_cons, List.map_nil, Lib.join_one] at HW
  go_wp2_with (first | (go_at_call 47; refine (HQ.out _).mono ?_; rintro e w1 ⟨rfl, l1⟩; have L1 := hid l1; clear l1) | (go_at_call 46; refine (HW.out _).mono ?_; rintro e w2 ⟨rfl, l2⟩; have L2 := hid l2; clear l2))
  go_ret
  exact ⟨rfl, bch (bch (bch HB.out L1.out) (belowA w1 _)) L2.out⟩
set_option maxHeartbeats 4000000 in
set_option maxRecDepth 100000 in
theorem cond_3 (tx : ByteArray) (nu : Int) (kv : Value) (g : Nat) (a : List UInt8) (ha : a.length ≤ 4098) (w : World) (ht : tx.size ≤ 127) (hK : Kd w g [a]) :
    Calls Tryz.prog 30 #[.agg #[.int .i64 3, .string tx, .int .i64 nu, kv], .slice (some ⟨g, 0, none⟩) 1 1] w fun e w' => e = .returned (.string (S ([33] ++ a))) ∧ Below w.heap.size w w' := by
  have HB := hid (belowA w (.cells #[.int .i64 3, .string tx, .int .i64 nu, kv] 50))
  have HC := hid (cells4 (heap_alloc_new w (.cells #[.int .i64 3, .string tx, .int .i64 nu, kv] 50)))
  go_enter Tryz.func30, Tryz.ntmps30
  go_upto_region 1 with (fail)
  have ⟨x0, x1, x2, x3⟩ := HC.out
  have HK := hid (hK.low HB.out)
  have y0 := HK.out.cell 0 _ rfl
  have HGL := hid HK.out.lt
  clear hK
  generalize w.alloc (.cells #[.int .i64 3, .string tx, .int .i64 nu, kv] 50) = X at *
  have HW := hid (fun (W : World) => write_any W.heap.size [[33], a] 2 (W.alloc (.cells ([[33], a].map (fun x => Value.string (S x))).toArray 9)) rfl (new_txt W _) (by simp) (by simp) (by intro x hx; simp at hx; rcases hx with rfl | rfl <;> first | omega | simp))
  simp only [List.map_cons, List.map_nil, List.flatten_cons, List.flatten_nil, List.append_nil] at HW
  go_wp2_with (first | (go_at_call 42; refine (HW.out _).mono ?_; rintro e w2 ⟨rfl, l2⟩; have L2 := hid l2; clear l2))
  go_ret
  exact ⟨rfl, bch (bch HB.out (belowA X _)) L2.out⟩
set_option maxHeartbeats 4000000 in
set_option maxRecDepth 100000 in
theorem term_19 (tx : ByteArray) (nu : Int) (kv : Value) (g : Nat) (a : List UInt8) (ha : a.length ≤ 4098) (w : World) (ht : tx.size ≤ 127) (hK : Kd w g [a]) :
    Calls Tryz.prog 48 #[.agg #[.int .i64 19, .string tx, .int .i64 nu, kv], .slice (some ⟨g, 0, none⟩) 1 1] w fun e w' => e = .returned (.string (S ([105, 110, 116] ++ ([40] ++ (a ++ [41]))))) ∧ Below w.heap.size w w' := by
  have HB := hid (belowA w (.cells #[.int .i64 19, .string tx, .int .i64 nu, kv] 50))
  have HC := hid (cells4 (heap_alloc_new w (.cells #[.int .i64 19, .string tx, .int .i64 nu, kv] 50)))
  go_enter Tryz.func48, Tryz.ntmps48
  go_upto_region 1 with (fail)
  have ⟨x0, x1, x2, x3⟩ := HC.out
  have HK := hid (hK.low HB.out)
  have y0 := HK.out.cell 0 _ rfl
  have HGL := hid HK.out.lt
  clear hK
  generalize w.alloc (.cells #[.int .i64 19, .string tx, .int .i64 nu, kv] 50) = X at *
  have HW := hid (fun (W : World) => call_any [105, 110, 116] W.heap.size [a] 1 (W.alloc (.cells ([a].map (fun x => Value.string (S x))).toArray 9)) rfl (new_txt W _) (by simp) (by simp) (by intro x hx; simp at hx; rcases hx with rfl <;> first | omega | simp) (by first | omega | simp))
  simp only [List.map_cons, List.map_nil, Lib.join_one] at HW
  go_wp2_with (first | (go_at_call 46; refine (HW.out _).mono ?_; rintro e w2 ⟨rfl, l2⟩; have L2 := hid l2; clear l2))
  go_ret
  exact ⟨rfl, bch (bch HB.out (belowA X _)) L2.out⟩
end Go.Proofs.YtlhlpamciafocaaGreatDoor.L.Sw
namespace Go.Proofs.YtlhlpamciafocaaGreatDoor.L.Sw
open Go.RowKit Go.Shelf
set_option linter.unusedVariables false
theorem infoS : (Tryz.prog.info? 9).map (fun i => (i.zero, i.size, i.bytes)) = some (some (.string ⟨#[]⟩), 1, 16) := by kernel_rfl
theorem make_txt (n : Nat) (hn : n ≤ 1000) (w : World) : (Instr.makeSlice 72 (.int .i64 (n : Int)) (.int .i64 (n : Int))).run Tryz.prog w = .ok (.slice (some ⟨w.heap.size, 0, none⟩) n n) (w.alloc (.cells (madeCells #[.string ⟨#[]⟩] n) 9)) := by
  obtain ⟨i, hi, hz, hs, hb⟩ := info_parts infoS
  have h := run_makeSlice (P := Tryz.prog) w 72 9 i (.string ⟨#[]⟩) Tryz.underlying72 hi hz .i64 .i64 n n (by omega) (by omega) (by rw [hs]; omega) (by rw [hb]; omega) (by omega)
  rw [hs] at h
  simpa [Value.cells] using h
theorem make0 (w : World) : (Instr.makeSlice 72 (.int .i64 0) (.int .i64 0)).run Tryz.prog w = .ok (.slice (some ⟨w.heap.size, 0, none⟩) 0 0) (w.alloc (.cells #[] 9)) := by
  have h := make_txt 0 (by decide) w
  rw [show madeCells #[Value.string ⟨#[]⟩] 0 = #[] from by kernel_rfl] at h
  exact h
theorem make1 (w : World) : (Instr.makeSlice 72 (.int .i64 1) (.int .i64 1)).run Tryz.prog w = .ok (.slice (some ⟨w.heap.size, 0, none⟩) 1 1) (w.alloc (.cells #[.string ⟨#[]⟩] 9)) := by
  have h := make_txt 1 (by decide) w
  rw [show madeCells #[Value.string ⟨#[]⟩] 1 = #[.string ⟨#[]⟩] from by kernel_rfl] at h
  exact h
theorem make2 (w : World) : (Instr.makeSlice 72 (.int .i64 2) (.int .i64 2)).run Tryz.prog w = .ok (.slice (some ⟨w.heap.size, 0, none⟩) 2 2) (w.alloc (.cells #[.string ⟨#[]⟩, .string ⟨#[]⟩] 9)) := by
  have h := make_txt 2 (by decide) w
  rw [show madeCells #[Value.string ⟨#[]⟩] 2 = #[.string ⟨#[]⟩, .string ⟨#[]⟩] from by kernel_rfl] at h
  exact h
set_option maxHeartbeats 4000000 in
set_option maxRecDepth 100000 in
theorem kid_none (pv tv : Value) (kd : Int) (tx : ByteArray) (nu : Int) (w : World) :
    Calls Tryz.prog 31 #[pv, tv, .agg #[.int .i64 kd, .string tx, .int .i64 nu, .slice none 0 0]] w fun e w' => (∃ v, e = .returned v) ∧ Below w.heap.size w w' := by
  have M0 := make0
  have hb := (belowA w (.cells #[.int .i64 kd, .string tx, .int .i64 nu, .slice none 0 0] 50)).alloc (by simp) (.cells #[] 9)
  have HB := hid hb
  clear hb
  go_enter Tryz.func31, Tryz.ntmps31
  go_wp2_with fail
  refine wp_loop_rounds 1 ?_
  rw [rounds_succ]
  go_wp2_with fail
  go_ret
  exact ⟨⟨_, rfl⟩, HB.out⟩
set_option maxHeartbeats 4000000 in
set_option maxRecDepth 100000 in
theorem kid_one (gp gt gk : Nat) (tx : ByteArray) (nu : Int) (w : World) (hp : w.cell? ⟨gp, 0, none⟩ = some (.int .i64 1)) (ht : w.cell? ⟨gt, 0, none⟩ = some (.string ⟨#[116, 114, 117, 101]⟩)) (hk : w.cell? ⟨gk, 0, none⟩ = some (.int .i64 0)) :
    Calls Tryz.prog 31 #[.slice (some ⟨gp, 0, none⟩) 2 2, .slice (some ⟨gt, 0, none⟩) 2 2, .agg #[.int .i64 3, .string tx, .int .i64 nu, .slice (some ⟨gk, 0, none⟩) 1 1]] w fun e w' => ∃ g, e = .returned (.slice (some ⟨g, 0, none⟩) 1 1) ∧ g < w'.heap.size ∧ w'.cell? ⟨g, 0, none⟩ = some (.string ⟨#[116, 114, 117, 101]⟩) ∧ Below w.heap.size w w' := by
  have M1 := make1
  have HGR := hid grouped_any
  have lp := World.block_lt_of_cell? w _ hp
  have lt := World.block_lt_of_cell? w _ ht
  have lk := World.block_lt_of_cell? w _ hk
  simp only at lp lt lk
  have hb1 := belowA w (.cells #[.int .i64 3, .string tx, .int .i64 nu, .slice (some ⟨gk, 0, none⟩) 1 1] 50)
  have hb := hb1.alloc (by simp) (.cells #[.string ⟨#[]⟩] 9)
  have HB := hid hb
  have HS := hid (show ((w.alloc (.cells #[.int .i64 3, .string tx, .int .i64 nu, .slice (some ⟨gk, 0, none⟩) 1 1] 50)).alloc (.cells #[.string ⟨#[]⟩] 9)).heap.size = w.heap.size + 1 + 1 by simp)
  have HX := hid (show Boxed ((w.alloc (.cells #[.int .i64 3, .string tx, .int .i64 nu, .slice (some ⟨gk, 0, none⟩) 1 1] 50)).alloc (.cells #[.string ⟨#[]⟩] 9)) (w.heap.size + 1) 9 (.string ⟨#[]⟩) by
    have := Boxed.new (w.alloc (.cells #[.int .i64 3, .string tx, .int .i64 nu, .slice (some ⟨gk, 0, none⟩) 1 1] 50)) 9 (.string ⟨#[]⟩)
    rwa [World.size_alloc] at this)
  have HXP := hid (show ((w.alloc (.cells #[.int .i64 3, .string tx, .int .i64 nu, .slice (some ⟨gk, 0, none⟩) 1 1] 50)).alloc (.cells #[.string ⟨#[]⟩] 9)).heap[w.heap.size]? = some (.cells #[.int .i64 3, .string tx, .int .i64 nu, .slice (some ⟨gk, 0, none⟩) 1 1] 50 (0, 0)) from (Below.heap_alloc _ _ _ (by simp)).trans (heap_alloc_new w _))
  clear hb1
  have HPC := hid ((hb.cell (p := ⟨gp, 0, none⟩) lp).trans hp)
  have HTC := hid ((hb.cell (p := ⟨gt, 0, none⟩) lt).trans ht)
  have HKC := hid ((hb.cell (p := ⟨gk, 0, none⟩) lk).trans hk)
  clear hb hp ht hk
  go_enter Tryz.func31, Tryz.ntmps31
  go_upto_region 2 with (fail)
  generalize (w.alloc (.cells #[.int .i64 3, .string tx, .int .i64 nu, .slice (some ⟨gk, 0, none⟩) 1 1] 50)).alloc (.cells #[.string ⟨#[]⟩] 9) = X at *
  have ⟨x0, x1, x2, x3⟩ := cells4 HXP.out
  have xp := HPC.out
  have xt := HTC.out
  have xk := HKC.out
  have xc := HX.out.cell
  have xf := HX.out.frozen
  go_wp2_with fail
  refine wp_loop_rounds 2 ?_
  rw [rounds_succ]
  go_upto_region 6 with (fail)
  have HXY := hid (HX.out.set (.string ⟨#[116, 114, 117, 101]⟩))
  have HBY := hid (HB.out.setCell (p := ⟨w.heap.size + 1, 0, none⟩) (Nat.le_succ _) (.string ⟨#[116, 114, 117, 101]⟩))
  have y0 : (X.setCell ⟨w.heap.size + 1, 0, none⟩ (.string ⟨#[116, 114, 117, 101]⟩)).cell? ⟨w.heap.size, 0, none⟩ = some (.int .i64 3) := (World.cell?_setCell_far _ _ _ _ (Nat.succ_ne_self _)).trans x0
  have yp : (X.setCell ⟨w.heap.size + 1, 0, none⟩ (.string ⟨#[116, 114, 117, 101]⟩)).cell? ⟨gp, 0, none⟩ = some (.int .i64 1) := (World.cell?_setCell_far _ _ _ _ (by show w.heap.size + 1 ≠ gp; omega)).trans xp
  clear x0 x1 x2 x3 xp xt xk xc xf M1
  generalize X.setCell ⟨w.heap.size + 1, 0, none⟩ (.string ⟨#[116, 114, 117, 101]⟩) = Y at *
  have hbr : brB 3 1 = false := rfl
  go_region_held3 (fun Y => Y.cell? ⟨w.heap.size, 0, none⟩ = some (.int .i64 3) ∧ Y.cell? ⟨gp, 0, none⟩ = some (.int .i64 1)) (first | exact ⟨y0, yp⟩ | go_keep | assumption) (first | (go_at_call 49; refine (HGR.out _ _ _).mono ?_; rintro e w1 ⟨rfl, hww⟩; have hw2 := hww.symm; clear hww; subst hw2))
  go_wp2_with fail
  rw [rounds_succ]
  go_wp2_with fail
  go_ret
  exact ⟨w.heap.size + 1, rfl, HXY.out.lt, HXY.out.cell, HBY.out.drew⟩
end Go.Proofs.YtlhlpamciafocaaGreatDoor.L.Sw
namespace Go.Proofs.YtlhlpamciafocaaGreatDoor.L.Sw
open Go.RowKit Go.Shelf
set_option linter.unusedVariables false
theorem undrew {B : Nat} {w w' : World} (h : Below B w.drew w') : Below B w w' := ⟨h.os, h.tape, h.output, h.size, h.block⟩
/-- The fixed tree of awake in memory. -/
structure Fx (w : World) (gp gk : Nat) : Prop where
  row : w.heap[gp]? = some (.cells #[.int .i64 1, .string ⟨#[]⟩, .int .i64 0, .slice none 0 0, .int .i64 3, .string ⟨#[]⟩, .int .i64 0, .slice (some ⟨gk, 0, none⟩) 1 1] 50 (0, 0))
  kid : w.heap[gk]? = some (.cells #[.int .i64 0] 3 (0, 0))
theorem Fx.low {w w' : World} {gp gk : Nat} (h : Fx w gp gk) (k : Below w.heap.size w w') : Fx w' gp gk := ⟨(k.block _ (lt_blk h.row)).trans h.row, (k.block _ (lt_blk h.kid)).trans h.kid⟩
theorem Fx.cells {w : World} {gp gk : Nat} (h : Fx w gp gk) : w.cell? ⟨gp, 0, none⟩ = some (.int .i64 1) ∧ w.cell? ⟨gp, 1, none⟩ = some (.string ⟨#[]⟩) ∧ w.cell? ⟨gp, 2, none⟩ = some (.int .i64 0) ∧ w.cell? ⟨gp, 3, none⟩ = some (.slice none 0 0) ∧ w.cell? ⟨gp, 4, none⟩ = some (.int .i64 3) ∧ w.cell? ⟨gp, 5, none⟩ = some (.string ⟨#[]⟩) ∧ w.cell? ⟨gp, 6, none⟩ = some (.int .i64 0) ∧ w.cell? ⟨gp, 7, none⟩ = some (.slice (some ⟨gk, 0, none⟩) 1 1) ∧ w.cell? ⟨gk, 0, none⟩ = some (.int .i64 0) :=
  ⟨cell_of_row _ _ 0 _ _ _ h.row, cell_of_row _ _ 1 _ _ _ h.row, cell_of_row _ _ 2 _ _ _ h.row, cell_of_row _ _ 3 _ _ _ h.row, cell_of_row _ _ 4 _ _ _ h.row, cell_of_row _ _ 5 _ _ _ h.row, cell_of_row _ _ 6 _ _ _ h.row, cell_of_row _ _ 7 _ _ _ h.row, cell_of_row _ _ 0 _ _ _ h.kid⟩
set_option maxHeartbeats 4000000 in
set_option maxRecDepth 100000 in
theorem textof_fixed (gp gk : Nat) (w : World) (h : Fx w gp gk) :
    Calls Tryz.prog 20 #[.slice (some ⟨gp, 0, none⟩) 2 2] w fun e w' => e = .returned (.tuple #[.string ⟨#[33, 116, 114, 117, 101]⟩, .bool true]) ∧ Below w.heap.size w w' := by
  have M2 := make2
  have HF := hid h
  have hb1 := belowA w (.cells #[.string ⟨#[]⟩, .string ⟨#[]⟩] 9)
  have HB1 := hid hb1
  have HT1 := hid (heap_alloc_new w (.cells #[.string ⟨#[]⟩, .string ⟨#[]⟩] 9))
  have HS1 := hid (show (w.alloc (.cells #[.string ⟨#[]⟩, .string ⟨#[]⟩] 9)).heap.size = w.heap.size + 1 by simp)
  clear hb1 h
  go_enter Tryz.func20, Tryz.ntmps20
  go_upto_region 2 with (fail)
  have HFX := hid (HF.out.low HB1.out)
  generalize hXe : w.alloc (.cells #[.string ⟨#[]⟩, .string ⟨#[]⟩] 9) = X at *
  clear hXe M2
  go_wp2_with fail
  refine wp_loop_rounds 3 ?_
  rw [rounds_succ]
  have ⟨p0, p1, p2, p3, p4, p5, p6, p7, k0⟩ := HFX.out.cells
  have HB2 := hid (belowA X (.cells #[.int .i64 1, .string ⟨#[]⟩, .int .i64 0, .slice none 0 0] 50))
  have HP2 := hid (heap_alloc_new X (.cells #[.int .i64 1, .string ⟨#[]⟩, .int .i64 0, .slice none 0 0] 50))
  have HS2 := hid (show (X.alloc (.cells #[.int .i64 1, .string ⟨#[]⟩, .int .i64 0, .slice none 0 0] 50)).heap.size = X.heap.size + 1 by simp)
  go_upto_region 5 with (fail)
  have HFY := hid (HFX.out.low HB2.out)
  have HTY := hid ((HB2.out.block w.heap.size (by rw [HS1.out]; exact Nat.lt_succ_self _)).trans HT1.out)
  clear p0 p1 p2 p3 p4 p5 p6 p7 k0
  generalize X.alloc (.cells #[.int .i64 1, .string ⟨#[]⟩, .int .i64 0, .slice none 0 0] 50) = Y at *
  have hPl : X.heap.size < Y.heap.size := by rw [HS2.out]; exact Nat.lt_succ_self _
  have hTl : w.heap.size < Y.heap.size := by rw [HS2.out, HS1.out]; omega
  have hTP : w.heap.size ≠ X.heap.size := by rw [HS1.out]; omega
  generalize hPe : X.heap.size = P at *
  have ⟨q0, q1, q2, q3⟩ := cells4 HP2.out
  have HKN := hid kid_none
  have HCT := hid ctext_true
  have HPl := hid hPl
  have HTl := hid hTl
  go_region_held3 (fun Z => Z.cell? ⟨P, 0, none⟩ = some (.int .i64 1) ∧ Z.cell? ⟨P, 1, none⟩ = some (.string ⟨#[]⟩) ∧ Z.cell? ⟨P, 2, none⟩ = some (.int .i64 0) ∧ Z.cell? ⟨P, 3, none⟩ = some (.slice none 0 0)) (first | exact ⟨q0, q1, q2, q3⟩ | (refine ⟨?_, ?_, ?_, ?_⟩ <;> assumption) | go_keep)
    (first
      | (go_at_call 31; refine (HKN.out _ _ _ _ _ _).mono ?_; rintro e w1 ⟨⟨kv, rfl⟩, l1⟩; have a0 := (l1.cell (p := ⟨P, 0, none⟩) HPl.out).trans q0; have a1 := (l1.cell (p := ⟨P, 1, none⟩) HPl.out).trans q1; have a2 := (l1.cell (p := ⟨P, 2, none⟩) HPl.out).trans q2; have a3 := (l1.cell (p := ⟨P, 3, none⟩) HPl.out).trans q3; have L1 := hid l1; clear l1)
      | (go_at_call 30; refine (HCT.out _ _ _ _ _).mono ?_; rintro e w2 ⟨rfl, l2⟩; have L2 := hid (L1.out.trans (l2.mono L1.out.size)); clear l2; have a0 := (L2.out.cell (p := ⟨P, 0, none⟩) HPl.out).trans q0; have a1 := (L2.out.cell (p := ⟨P, 1, none⟩) HPl.out).trans q1; have a2 := (L2.out.cell (p := ⟨P, 2, none⟩) HPl.out).trans q2; have a3 := (L2.out.cell (p := ⟨P, 3, none⟩) HPl.out).trans q3; have HTZ := hid ((L2.out.block w.heap.size HTl.out).trans HTY.out); have t0 := cell_of_row _ _ 0 _ _ _ HTZ.out; have t1 : w2.frozen? ⟨w.heap.size, 0, none⟩ = false := by simp [World.frozen?, HTZ.out]))
  have HBV := hid (show Below w.heap.size w (w2.setCell ⟨w.heap.size, 0, none⟩ (.string ⟨#[116, 114, 117, 101]⟩)) from ((HB1.out.trans (HB2.out.mono (by have := HS1.out; omega))).trans ((show Below Y.heap.size Y w2 from undrew L2.out).mono (Nat.le_of_lt HTl.out))).setCell (p := ⟨w.heap.size, 0, none⟩) (Nat.le_refl _) _)
  have HTV := hid (show (w2.setCell ⟨w.heap.size, 0, none⟩ (.string ⟨#[116, 114, 117, 101]⟩)).heap[w.heap.size]? = some (.cells #[.string ⟨#[116, 114, 117, 101]⟩, .string ⟨#[]⟩] 9 (0, 0)) by
    rw [setCell_eq_setRow _ _ _ _ _ _ _ HTZ.out, setRow_heap _ _ _ _ _ _ HTZ.out]
    rfl)
  have HFV := hid (HF.out.low HBV.out)
  clear a0 a1 a2 a3 t0 t1 hPl hTl hTP q0 q1 q2 q3 HKN HCT
  rename_i hHeld
  clear hHeld
  generalize w2.setCell ⟨w.heap.size, 0, none⟩ (.string ⟨#[116, 114, 117, 101]⟩) = V at *
  have y0 : V.cell? ⟨w.heap.size, 0, none⟩ = some (.string ⟨#[116, 114, 117, 101]⟩) := cell_of_row _ _ 0 _ _ _ HTV.out
  go_wp2_with fail
  rw [rounds_succ]
  have ⟨p0, p1, p2, p3, p4, p5, p6, p7, k0⟩ := HFV.out.cells
  have HB3 := hid (belowA V (.cells #[.int .i64 3, .string ⟨#[]⟩, .int .i64 0, .slice (some ⟨gk, 0, none⟩) 1 1] 50))
  have HP3 := hid (heap_alloc_new V (.cells #[.int .i64 3, .string ⟨#[]⟩, .int .i64 0, .slice (some ⟨gk, 0, none⟩) 1 1] 50))
  have HS3 := hid (show (V.alloc (.cells #[.int .i64 3, .string ⟨#[]⟩, .int .i64 0, .slice (some ⟨gk, 0, none⟩) 1 1] 50)).heap.size = V.heap.size + 1 by simp)
  go_upto_region 5 with (fail)
  have HFU := hid (HFV.out.low HB3.out)
  have HTU := hid ((HB3.out.block w.heap.size (lt_blk HTV.out)).trans HTV.out)
  clear p0 p1 p2 p3 p4 p5 p6 p7 k0 y0
  have HVl := hid (lt_blk HTV.out)
  generalize V.alloc (.cells #[.int .i64 3, .string ⟨#[]⟩, .int .i64 0, .slice (some ⟨gk, 0, none⟩) 1 1] 50) = U at *
  have HRl := hid (show V.heap.size < U.heap.size by rw [HS3.out]; exact Nat.lt_succ_self _)
  have HTl2 := hid (lt_blk HTU.out)
  have hTR : w.heap.size ≠ V.heap.size := Nat.ne_of_lt HVl.out
  generalize hRe : V.heap.size = R at *
  have ⟨q0, q1, q2, q3⟩ := cells4 HP3.out
  have HK1 := hid (kid_one gp w.heap.size gk ⟨#[]⟩ 0 U.drew HFU.out.cells.1 (cell_of_row U _ 0 _ _ _ HTU.out) HFU.out.cells.2.2.2.2.2.2.2.2)
  have HCN := hid ctext_not
  go_region_held3 (fun Z => Z.cell? ⟨R, 0, none⟩ = some (.int .i64 3) ∧ Z.cell? ⟨R, 1, none⟩ = some (.string ⟨#[]⟩) ∧ Z.cell? ⟨R, 2, none⟩ = some (.int .i64 0) ∧ Z.cell? ⟨R, 3, none⟩ = some (.slice (some ⟨gk, 0, none⟩) 1 1)) (first | exact ⟨q0, q1, q2, q3⟩ | (refine ⟨?_, ?_, ?_, ?_⟩ <;> assumption) | go_keep)
    (first
      | (go_at_call 31; refine HK1.out.mono ?_; rintro e w3 ⟨g, rfl, hgl, hgc, l1⟩; have HGL := hid hgl; have HGC := hid hgc; clear hgl hgc; have a0 := (l1.cell (p := ⟨R, 0, none⟩) HRl.out).trans q0; have a1 := (l1.cell (p := ⟨R, 1, none⟩) HRl.out).trans q1; have a2 := (l1.cell (p := ⟨R, 2, none⟩) HRl.out).trans q2; have a3 := (l1.cell (p := ⟨R, 3, none⟩) HRl.out).trans q3; have L1 := hid l1; clear l1)
      | (go_at_call 30; refine (HCN.out _ _ _ _ _ HGL.out HGC.out).mono ?_; rintro e w4 ⟨rfl, l2⟩; have L4 := hid (L1.out.trans (l2.mono L1.out.size)); clear l2; have a0 := (L4.out.cell (p := ⟨R, 0, none⟩) HRl.out).trans q0; have a1 := (L4.out.cell (p := ⟨R, 1, none⟩) HRl.out).trans q1; have a2 := (L4.out.cell (p := ⟨R, 2, none⟩) HRl.out).trans q2; have a3 := (L4.out.cell (p := ⟨R, 3, none⟩) HRl.out).trans q3; have HTZ := hid ((L4.out.block w.heap.size HTl2.out).trans HTU.out); have t0 := cell_of_row _ _ 1 _ _ _ HTZ.out; have t1 : w4.frozen? ⟨w.heap.size, 1, none⟩ = false := by simp [World.frozen?, HTZ.out]))
  have HBF := hid (show Below w.heap.size w (w4.setCell ⟨w.heap.size, 1, none⟩ (.string ⟨#[33, 116, 114, 117, 101]⟩)) from ((HBV.out.trans (HB3.out.mono (by have := HVl.out; omega))).trans ((show Below U.heap.size U w4 from undrew L4.out).mono (Nat.le_of_lt HTl2.out))).setCell (p := ⟨w.heap.size, 1, none⟩) (Nat.le_refl _) _)
  have HTF := hid (show (w4.setCell ⟨w.heap.size, 1, none⟩ (.string ⟨#[33, 116, 114, 117, 101]⟩)).heap[w.heap.size]? = some (.cells #[.string ⟨#[116, 114, 117, 101]⟩, .string ⟨#[33, 116, 114, 117, 101]⟩] 9 (0, 0)) by
    rw [setCell_eq_setRow _ _ _ _ _ _ _ HTZ.out, setRow_heap _ _ _ _ _ _ HTZ.out]
    rfl)
  clear a0 a1 a2 a3 t0 t1 hTR q0 q1 q2 q3 HK1 HCN
  rename_i hHeld
  clear hHeld
  generalize w4.setCell ⟨w.heap.size, 1, none⟩ (.string ⟨#[33, 116, 114, 117, 101]⟩) = F at *
  have y1 : F.cell? ⟨w.heap.size, 1, none⟩ = some (.string ⟨#[33, 116, 114, 117, 101]⟩) := cell_of_row _ _ 1 _ _ _ HTF.out
  go_wp2_with fail
  rw [rounds_succ]
  go_wp2_with fail
  exact bodyPost_ret (v := .tuple #[.string ⟨#[33, 116, 114, 117, 101]⟩, .bool true]) (by simp [results, Tryz.results20]) rfl ⟨rfl, HBF.out⟩
end Go.Proofs.YtlhlpamciafocaaGreatDoor.L.Sw
