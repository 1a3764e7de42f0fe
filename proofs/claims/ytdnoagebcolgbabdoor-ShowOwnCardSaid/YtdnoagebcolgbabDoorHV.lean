import Derived.Test.YtdnoagebcolgbabDoorHU
import Derived.Test.YtdnoagebcolgbabDoorLayN
namespace Go.Proofs.YtdnoagebcolgbabDoor.L
open Go.RowKit Go.Shelf
set_option linter.unusedVariables false
theorem bch {w a b : World} (h1 : Below w.heap.size w a) (h2 : Below a.heap.size a b) : Below w.heap.size w b := h1.trans (h2.mono h1.size)
theorem quote_len {l : List UInt8} (h : l.length ≤ 127) : (quoteL l).length ≤ 600 := by
  have := flat_len l
  unfold quoteL
  rw [List.length_append, List.length_cons]
  simp only [List.length_cons, List.length_nil]
  omega
theorem join_two (a b sep : List UInt8) : Lib.join [a, b] sep = a ++ (sep ++ b) := by
  rw [Lib.join_cons]
  simp [Lib.joinTail]
theorem tx_len {tx : ByteArray} (h : tx.size ≤ 127) : tx.data.toList.length ≤ 127 := by
  rw [Array.length_toList]
  exact h
set_option maxHeartbeats 4000000 in
set_option maxRecDepth 100000 in
theorem ask_14 (tx : ByteArray) (nu : Int) (kv : Value) (wo : List UInt8) (hwo : wo.length ≤ 10) (w : World) (ht : tx.size ≤ 127) :
    Calls Tryd.prog 53 #[.agg #[.int .i64 14, .string tx, .int .i64 nu, kv], .string (S wo)] w fun e w' => e = .returned (.string (S (wo ++ ([91] ++ (quoteL tx.data.toList ++ [93]))))) ∧ Below w.heap.size w w' := by
  have HQ := hid (fun W => quote_any tx W (by omega))
  have hql := quote_len (tx_len ht)
  generalize quoteL tx.data.toList = q at *
  have HB := hid (belowA w (.cells #[.int .i64 14, .string tx, .int .i64 nu, kv] 33))
  have HC := hid (cells4 (heap_alloc_new w (.cells #[.int .i64 14, .string tx, .int .i64 nu, kv] 33)))
  go_enter Tryd.func53, Tryd.ntmps53
  go_upto_region 1 with (fail)
  have ⟨x0, x1, x2, x3⟩ := HC.out
  generalize w.alloc (.cells #[.int .i64 14, .string tx, .int .i64 nu, kv] 33) = X at *
  have HW := hid (fun (W : World) => write_any W.heap.size [wo, [91], q, [93]] 4 (W.alloc (.cells ([wo, [91], q, [93]].map (fun x => Value.string (S x))).toArray 9)) rfl (new_txt W _) (by simp) (by simp) (by intro x hx; simp at hx; rcases hx with rfl | rfl | rfl | rfl <;> first | omega | simp))
  simp only [List.map_cons, List.map_nil, List.flatten_cons, List.flatten_nil, List.append_nil] at HW
  go_wp2_with (first | (go_at_call 37; refine (HQ.out _).mono ?_; rintro e w1 ⟨rfl, l1⟩; have L1 := hid l1; clear l1) | (go_at_call 32; refine (HW.out _).mono ?_; rintro e w2 ⟨rfl, l2⟩; have L2 := hid l2; clear l2))
  go_ret
  exact ⟨rfl, bch (bch (bch HB.out L1.out) (belowA w1 _)) L2.out⟩
set_option maxHeartbeats 4000000 in
set_option maxRecDepth 100000 in
theorem ask_15 (tx : ByteArray) (nu : Int) (kv : Value) (wo : List UInt8) (hwo : wo.length ≤ 10) (w : World) (ht : tx.size ≤ 127) :
    Calls Tryd.prog 53 #[.agg #[.int .i64 15, .string tx, .int .i64 nu, kv], .string (S wo)] w fun e w' => e = .returned (.string (S (wo ++ [46, 110, 97, 109, 101]))) ∧ Below w.heap.size w w' := by
  have HB := hid (belowA w (.cells #[.int .i64 15, .string tx, .int .i64 nu, kv] 33))
  have HC := hid (cells4 (heap_alloc_new w (.cells #[.int .i64 15, .string tx, .int .i64 nu, kv] 33)))
  go_enter Tryd.func53, Tryd.ntmps53
  go_upto_region 1 with (fail)
  have ⟨x0, x1, x2, x3⟩ := HC.out
  generalize w.alloc (.cells #[.int .i64 15, .string tx, .int .i64 nu, kv] 33) = X at *
  have HW := hid (fun (W : World) => write_any W.heap.size [wo, [46, 110, 97, 109, 101]] 2 (W.alloc (.cells ([wo, [46, 110, 97, 109, 101]].map (fun x => Value.string (S x))).toArray 9)) rfl (new_txt W _) (by simp) (by simp) (by intro x hx; simp at hx; rcases hx with rfl | rfl <;> first | omega | simp))
  simp only [List.map_cons, List.map_nil, List.flatten_cons, List.flatten_nil, List.append_nil] at HW
  go_wp2_with (first | (go_at_call 32; refine (HW.out _).mono ?_; rintro e w2 ⟨rfl, l2⟩; have L2 := hid l2; clear l2))
  go_ret
  exact ⟨rfl, bch (bch HB.out (belowA X _)) L2.out⟩
set_option maxHeartbeats 4000000 in
set_option maxRecDepth 100000 in
theorem ask_16 (tx : ByteArray) (nu : Int) (kv : Value) (wo : List UInt8) (hwo : wo.length ≤ 10) (w : World) (ht : tx.size ≤ 127) :
    Calls Tryd.prog 53 #[.agg #[.int .i64 16, .string tx, .int .i64 nu, kv], .string (S wo)] w fun e w' => e = .returned (.string (S (wo ++ [46, 107, 101, 121, 115]))) ∧ Below w.heap.size w w' := by
  have HB := hid (belowA w (.cells #[.int .i64 16, .string tx, .int .i64 nu, kv] 33))
  have HC := hid (cells4 (heap_alloc_new w (.cells #[.int .i64 16, .string tx, .int .i64 nu, kv] 33)))
  go_enter Tryd.func53, Tryd.ntmps53
  go_upto_region 1 with (fail)
  have ⟨x0, x1, x2, x3⟩ := HC.out
  generalize w.alloc (.cells #[.int .i64 16, .string tx, .int .i64 nu, kv] 33) = X at *
  have HW := hid (fun (W : World) => write_any W.heap.size [wo, [46, 107, 101, 121, 115]] 2 (W.alloc (.cells ([wo, [46, 107, 101, 121, 115]].map (fun x => Value.string (S x))).toArray 9)) rfl (new_txt W _) (by simp) (by simp) (by intro x hx; simp at hx; rcases hx with rfl | rfl <;> first | omega | simp))
  simp only [List.map_cons, List.map_nil, List.flatten_cons, List.flatten_nil, List.append_nil] at HW
  go_wp2_with (first | (go_at_call 32; refine (HW.out _).mono ?_; rintro e w2 ⟨rfl, l2⟩; have L2 := hid l2; clear l2))
  go_ret
  exact ⟨rfl, bch (bch HB.out (belowA X _)) L2.out⟩
set_option maxHeartbeats 4000000 in
set_option maxRecDepth 100000 in
theorem ask_17 (tx : ByteArray) (nu : Int) (kv : Value) (wo : List UInt8) (hwo : wo.length ≤ 10) (w : World) (ht : tx.size ≤ 127) :
    Calls Tryd.prog 53 #[.agg #[.int .i64 17, .string tx, .int .i64 nu, kv], .string (S wo)] w fun e w' => e = .returned (.string (S (wo ++ [46, 116, 97, 105, 110, 116, 115]))) ∧ Below w.heap.size w w' := by
  have HB := hid (belowA w (.cells #[.int .i64 17, .string tx, .int .i64 nu, kv] 33))
  have HC := hid (cells4 (heap_alloc_new w (.cells #[.int .i64 17, .string tx, .int .i64 nu, kv] 33)))
  go_enter Tryd.func53, Tryd.ntmps53
  go_upto_region 1 with (fail)
  have ⟨x0, x1, x2, x3⟩ := HC.out
  generalize w.alloc (.cells #[.int .i64 17, .string tx, .int .i64 nu, kv] 33) = X at *
  have HW := hid (fun (W : World) => write_any W.heap.size [wo, [46, 116, 97, 105, 110, 116, 115]] 2 (W.alloc (.cells ([wo, [46, 116, 97, 105, 110, 116, 115]].map (fun x => Value.string (S x))).toArray 9)) rfl (new_txt W _) (by simp) (by simp) (by intro x hx; simp at hx; rcases hx with rfl | rfl <;> first | omega | simp))
  simp only [List.map_cons, List.map_nil, List.flatten_cons, List.flatten_nil, List.append_nil] at HW
  go_wp2_with (first | (go_at_call 32; refine (HW.out _).mono ?_; rintro e w2 ⟨rfl, l2⟩; have L2 := hid l2; clear l2))
  go_ret
  exact ⟨rfl, bch (bch HB.out (belowA X _)) L2.out⟩
end Go.Proofs.YtdnoagebcolgbabDoor.L
