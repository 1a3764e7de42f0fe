import Derived.Shelf.Strings.OnBuilder
import Derived.Test.YtlhlpamciafocaaGreatDoorProg
import Derived.Test.YtlhlpamciafocaaGreatDoorMgBB
import Derived.Deep.RegionHeld3
import Derived.Test.YtlhlpamciafocaaGreatDoorMgAD
namespace Go.Proofs.YtlhlpamciafocaaGreatDoor
open Go.Shelf
def lays156_ren : Go.Shelf.Ren := ⟨fun | 156 => 43 | 165 => 59 | 166 => 60 | 169 => 61 | 240 => 75 | 241 => 76 | 276 => 89 | 277 => 90 | n => n, fun | 31 => 72 | 9 => 9 | 3 => 3 | 4 => 4 | 0 => 0 | 20 => 20 | 72 => 113 | 76 => 38 | 70 => 110 | 37 => 111 | 75 => 27 | 127 => 127 | 164 => 132 | 5 => 5 | 80 => 32 | n => n, fun | n => n⟩
theorem lays156 : Go.Proofs.Lays.n156 Tryz.prog lays156_ren := {
  mixed := by kernel_rfl
  f156 := Tryz.func43.trans (congrArg some (by kernel_rfl))
  f165 := Tryz.func59.trans (congrArg some (by kernel_rfl))
  f166 := Tryz.func60.trans (congrArg some (by kernel_rfl))
  f169 := Tryz.func61.trans (congrArg some (by kernel_rfl))
  f240 := Tryz.func75.trans (congrArg some (by kernel_rfl))
  f241 := Tryz.func76.trans (congrArg some (by kernel_rfl))
  f276 := Tryz.func89.trans (congrArg some (by kernel_rfl))
  f277 := Tryz.func90.trans (congrArg some (by kernel_rfl))
  t0 := Tryz.underlying0
  a0 := Tryz.isAgg0
  z0 := Tryz.sizeOf0
  v0 := Tryz.zeroValue0
  t3 := Tryz.underlying3
  a3 := Tryz.isAgg3
  z3 := Tryz.sizeOf3
  v3 := Tryz.zeroValue3
  t4 := Tryz.underlying4
  a4 := Tryz.isAgg4
  z4 := Tryz.sizeOf4
  v4 := Tryz.zeroValue4
  t9 := Tryz.underlying9
  a9 := Tryz.isAgg9
  z9 := Tryz.sizeOf9
  v9 := Tryz.zeroValue9
  t20 := Tryz.underlying20
  a20 := Tryz.isAgg20
  z20 := Tryz.sizeOf20
  v20 := Tryz.zeroValue20
  t31 := Tryz.underlying72
  a31 := Tryz.isAgg72
  z31 := Tryz.sizeOf72
  v31 := Tryz.zeroValue72
  t37 := Tryz.underlying111
  a37 := Tryz.isAgg111
  z37 := Tryz.sizeOf111
  v37 := Tryz.zeroValue111
  t70 := Tryz.underlying110
  a70 := Tryz.isAgg110
  z70 := Tryz.sizeOf110
  v70 := Tryz.zeroValue110
  t72 := Tryz.underlying113
  a72 := Tryz.isAgg113
  z72 := Tryz.sizeOf113
  v72 := Tryz.zeroValue113
  t75 := Tryz.underlying27
  a75 := Tryz.isAgg27
  z75 := Tryz.sizeOf27
  v75 := Tryz.zeroValue27
  t76 := Tryz.underlying38
  a76 := Tryz.isAgg38
  z76 := Tryz.sizeOf38
  v76 := Tryz.zeroValue38
  t127 := Tryz.underlying127
  a127 := Tryz.isAgg127
  z127 := Tryz.sizeOf127
  v127 := Tryz.zeroValue127
  t164 := Tryz.underlying132
  a164 := Tryz.isAgg132
  z164 := Tryz.sizeOf132
  v164 := Tryz.zeroValue132 }
end Go.Proofs.YtlhlpamciafocaaGreatDoor
namespace Go.Proofs.YtlhlpamciafocaaGreatDoor.L.Sw
open Go.RowKit Go.Shelf
set_option linter.unusedVariables false
theorem bx156 : Builder.Extra Tryz.prog lays156_ren := { sizeBuilder := by kernel_rfl, liesBuilder := by kernel_rfl, t5 := Tryz.underlying5, a5 := Tryz.isAgg5, z5 := Tryz.sizeOf5, v5 := Tryz.zeroValue5, infoByte := by kernel_rfl, cellsByte := by kernel_rfl, sizeByte := by kernel_rfl, neB5 := by decide }
theorem join_nt (bk : Nat) (w : World) (h0 : w.cell? ⟨bk, 0, none⟩ = some (.string ⟨#[33]⟩)) (h1 : w.cell? ⟨bk, 1, none⟩ = some (.string ⟨#[116, 114, 117, 101]⟩)) (hb : bk < w.heap.size) :
    Calls Tryz.prog 43 #[.slice (some ⟨bk, 0, none⟩) 2 2, .string ⟨#[]⟩] w fun e w' => e = .returned (.string ⟨#[33, 116, 114, 117, 101]⟩) ∧ Below w.heap.size w w' := by
  refine (Any.strings_Join lays156 bx156 bk 0 2 [⟨#[33]⟩, ⟨#[116, 114, 117, 101]⟩] ⟨#[]⟩ w ?_ hb (by decide) (by decide) (by decide)).mono ?_
  · intro j x hx
    match j, hx with
    | 0, hx => cases hx; exact h0
    | 1, hx => cases hx; exact h1
  · rintro e w' ⟨he, hl⟩
    exact ⟨he, hl⟩
set_option maxHeartbeats 4000000 in
theorem write_nt (bk : Nat) (w : World) (h0 : w.cell? ⟨bk, 0, none⟩ = some (.string ⟨#[33]⟩)) (h1 : w.cell? ⟨bk, 1, none⟩ = some (.string ⟨#[116, 114, 117, 101]⟩)) (hb : bk < w.heap.size) :
    Calls Tryz.prog 42 #[.slice (some ⟨bk, 0, none⟩) 2 2] w fun e w' => e = .returned (.string ⟨#[33, 116, 114, 117, 101]⟩) ∧ Below w.heap.size w w' := by
  have HJ := hid (join_nt bk w h0 h1 hb)
  clear h0 h1
  go_enter Tryz.func42, Tryz.ntmps42
  go_wp2_with (go_at_call 43; refine HJ.out.mono ?_; rintro e w1 ⟨rfl, l1⟩; have L1 := hid l1; clear l1)
  go_ret
  exact ⟨rfl, L1.out⟩
set_option maxHeartbeats 4000000 in
set_option maxRecDepth 100000 in
theorem ctext_true (tx : ByteArray) (nu : Int) (kv : Value) (sl : Value) (w : World) :
    Calls Tryz.prog 30 #[.agg #[.int .i64 1, .string tx, .int .i64 nu, kv], sl] w fun e w' => e = .returned (.string ⟨#[116, 114, 117, 101]⟩) ∧ Below w.heap.size w w' := by
  have HB := hid (belowA w (.cells #[.int .i64 1, .string tx, .int .i64 nu, kv] 50))
  go_enter Tryz.func30, Tryz.ntmps30
  go_wp2_with fail
  go_ret
  exact ⟨rfl, HB.out⟩
set_option maxHeartbeats 4000000 in
set_option maxRecDepth 100000 in
theorem ctext_not (tx : ByteArray) (nu : Int) (kv : Value) (g : Nat) (w : World) (hg : g < w.heap.size) (hc : w.cell? ⟨g, 0, none⟩ = some (.string ⟨#[116, 114, 117, 101]⟩)) :
    Calls Tryz.prog 30 #[.agg #[.int .i64 3, .string tx, .int .i64 nu, kv], .slice (some ⟨g, 0, none⟩) 1 1] w fun e w' => e = .returned (.string ⟨#[33, 116, 114, 117, 101]⟩) ∧ Below w.heap.size w w' := by
  have HB := hid (belowA w (.cells #[.int .i64 3, .string tx, .int .i64 nu, kv] 50))
  have HC := hid hc
  have HGL := hid hg
  go_enter Tryz.func30, Tryz.ntmps30
  go_upto_region 1 with (fail)
  have xc := (HB.out.cell (p := ⟨g, 0, none⟩) HGL.out).trans HC.out
  have x0 := (cells4 (heap_alloc_new w (.cells #[.int .i64 3, .string tx, .int .i64 nu, kv] 50))).1
  clear hg hc
  generalize hX : w.alloc (.cells #[.int .i64 3, .string tx, .int .i64 nu, kv] 50) = X at *
  clear hX
  have HBX := hid (belowA X (.cells #[.string ⟨#[33]⟩, .string ⟨#[116, 114, 117, 101]⟩] 9))
  have HW := hid (write_nt X.heap.size (X.alloc (.cells #[.string ⟨#[33]⟩, .string ⟨#[116, 114, 117, 101]⟩] 9)) (cell_of_row _ _ 0 _ _ _ (heap_alloc_new X _)) (cell_of_row _ _ 1 _ _ _ (heap_alloc_new X _)) (by simp))
  go_wp2_with (go_at_call 42; refine HW.out.mono ?_; rintro e w1 ⟨rfl, l1⟩; have L1 := hid l1; clear l1)
  go_ret
  exact ⟨rfl, (HB.out.trans (HBX.out.mono HB.out.size)).trans (L1.out.mono (Nat.le_trans HB.out.size HBX.out.size))⟩
end Go.Proofs.YtlhlpamciafocaaGreatDoor.L.Sw
namespace Go.Proofs.YtlhlpamciafocaaGreatDoor.L.Sw
open Go.RowKit Go.Shelf
set_option linter.unusedVariables false
theorem cells_new (w : World) (cs : List Value) (t : TypeId) : ∀ (j : Nat) (u : Value), cs[j]? = some u → (w.alloc (.cells cs.toArray t)).cell? ((⟨w.heap.size, 0, none⟩ : Addr).add j) = some u := by
  intro j u h
  rw [Go.WideShapes.add_plain]
  rw [cell_of_row (w.alloc (.cells cs.toArray t)) w.heap.size (0 + j) _ _ _ (heap_alloc_new w _)]
  simpa using h
end Go.Proofs.YtlhlpamciafocaaGreatDoor.L.Sw
namespace Go.Proofs.YtlhlpamciafocaaGreatDoor.L.Sw
open Go.RowKit Go.Shelf
set_option linter.unusedVariables false
theorem map_S (xs : List (List UInt8)) : (xs.map S).map (·.data.toList) = xs := by
  induction xs with
  | nil => rfl
  | cons x xs ih => rw [List.map_cons, List.map_cons, ih]
/-- strings.Join. -/
theorem join_any (bk c : Nat) (xs : List (List UInt8)) (sep : List UInt8) (n : Nat) (w : World) (hlen : n = xs.length) (h : ∀ j x, xs[j]? = some x → w.cell? ⟨bk, j, none⟩ = some (.string (S x))) (hb : bk < w.heap.size) (hn : xs.length ≤ 1000) (hc : xs.length ≤ c) (hl : ∀ x, x ∈ xs → x.length ≤ 20000000) (hs : sep.length ≤ 10) :
    Calls Tryz.prog 43 #[.slice (some ⟨bk, 0, none⟩) n c, .string (S sep)] w fun e w' => e = .returned (.string (S (Lib.join xs sep))) ∧ Below w.heap.size w w' := by
  have hj := join_le 20000000 hl hn hs
  have := Any.strings_Join lays156 bx156 bk 0 c (xs.map S) (S sep) w (by
    intro j x hx
    rw [List.getElem?_map] at hx
    cases e : xs[j]? with
    | none => rw [e] at hx; cases hx
    | some y =>
      rw [e] at hx
      cases hx
      rw [Nat.zero_add]
      exact h j y e) hb (by rw [List.length_map]; omega) (by rw [List.length_map]; exact hc) (by rw [map_S]; show (Lib.join xs sep).length ≤ _; omega)
  rw [map_S, List.length_map, ← hlen] at this
  exact this
theorem join_flat (xs : List (List UInt8)) : Lib.join xs [] = xs.flatten := by
  cases xs with
  | nil => rfl
  | cons x r => rw [Lib.join_cons]; simp [Lib.joinTail]
theorem cells_txt {w : World} {bk : Nat} {xs : List (List UInt8)} (h : ∀ (j : Nat) (u : Value), (xs.map (fun x => Value.string (S x)))[j]? = some u → w.cell? ((⟨bk, 0, none⟩ : Addr).add j) = some u) : ∀ j x, xs[j]? = some x → w.cell? ⟨bk, j, none⟩ = some (.string (S x)) := by
  intro j x hx
  have := h j (.string (S x)) (by rw [List.getElem?_map, hx]; rfl)
  rw [Go.WideShapes.add_plain] at this
  simpa using this
/-- A list of texts just laid. -/
theorem new_txt (w : World) (xs : List (List UInt8)) : ∀ j x, xs[j]? = some x → (w.alloc (.cells (xs.map (fun x => Value.string (S x))).toArray 9)).cell? ⟨w.heap.size, j, none⟩ = some (.string (S x)) := cells_txt (cells_new w _ 9)
set_option maxHeartbeats 4000000 in
theorem write_any (bk : Nat) (xs : List (List UInt8)) (n : Nat) (w : World) (hlen : n = xs.length) (h : ∀ j x, xs[j]? = some x → w.cell? ⟨bk, j, none⟩ = some (.string (S x))) (hb : bk < w.heap.size) (hn : xs.length ≤ 1000) (hl : ∀ x, x ∈ xs → x.length ≤ 20000000) :
    Calls Tryz.prog 42 #[.slice (some ⟨bk, 0, none⟩) n n] w fun e w' => e = .returned (.string (S xs.flatten)) ∧ Below w.heap.size w w' := by
  have HJ := hid (join_any bk n xs [] n w hlen h hb hn (by omega) hl (by simp))
  rw [join_flat] at HJ
  clear h hl hlen
  generalize S xs.flatten = R at *
  go_enter Tryz.func42, Tryz.ntmps42
  go_wp2_with (go_at_call 43; refine HJ.out.mono ?_; rintro e w1 ⟨rfl, l1⟩; have L1 := hid l1; clear l1)
  go_ret
  exact ⟨rfl, L1.out⟩
set_option maxHeartbeats 4000000 in
theorem call_any (word : List UInt8) (bk : Nat) (xs : List (List UInt8)) (n : Nat) (w : World) (hlen : n = xs.length) (h : ∀ j x, xs[j]? = some x → w.cell? ⟨bk, j, none⟩ = some (.string (S x))) (hb : bk < w.heap.size) (hn : xs.length ≤ 2) (hl : ∀ x, x ∈ xs → x.length ≤ 4500) (hw : word.length ≤ 100) :
    Calls Tryz.prog 46 #[.string (S word), .slice (some ⟨bk, 0, none⟩) n n] w fun e w' => e = .returned (.string (S (word ++ ([40] ++ (Lib.join xs [44, 32] ++ [41]))))) ∧ Below w.heap.size w w' := by
  have hjl : (Lib.join xs [44, 32]).length ≤ 10000 := by
    cases xs with
    | nil => simp [Lib.join_nil]
    | cons x r =>
      rw [Lib.join_length]
      have h1 := lens_le (m := 4500) (x :: r) hl
      have h3 : (x :: r).length * 4500 ≤ 2 * 4500 := Nat.mul_le_mul_right _ hn
      simp at hn
      simp
      omega
  have HJ := hid (join_any bk n xs [44, 32] n w hlen h hb (by omega) (by omega) (fun x hx => Nat.le_trans (hl x hx) (by omega)) (by simp))
  clear h hl hlen hb hn
  generalize Lib.join xs [44, 32] = J at *
  have HW := hid (fun (W : World) => write_any W.heap.size [word, [40], J, [41]] 4 (W.alloc (.cells ([word, [40], J, [41]].map (fun x => Value.string (S x))).toArray 9)) rfl (new_txt W _) (by simp) (by simp) (by intro x hx; simp at hx; rcases hx with rfl | rfl | rfl | rfl <;> first | omega | simp))
  simp only [List.map_cons, List.map_nil, List.flatten_cons, List.flatten_nil, List.append_nil] at HW
  clear hjl hw
  generalize hR : S (word ++ ([40] ++ (J ++ [41]))) = R at *
  clear hR
  go_enter Tryz.func46, Tryz.ntmps46
  go_wp2_with (first | (go_at_call 43; refine HJ.out.mono ?_; rintro e w1 ⟨rfl, l1⟩; have L1 := hid l1; clear l1) | (go_at_call 42; refine (HW.out _).mono ?_; rintro e w2 ⟨rfl, l2⟩; have L2 := hid l2; clear l2))
  go_ret
  exact ⟨rfl, L1.out.trans (((belowA w1 _).trans (L2.out.mono (belowA w1 _).size)).mono L1.out.size)⟩
/-- The kids' texts in memory. -/
structure Kd (w : World) (g : Nat) (ks : List (List UInt8)) : Prop where
  lt : g < w.heap.size
  cell : ∀ j x, ks[j]? = some x → w.cell? ⟨g, j, none⟩ = some (.string (S x))
theorem Kd.low {w w' : World} {g : Nat} {ks : List (List UInt8)} (h : Kd w g ks) (hb : Below w.heap.size w w') : Kd w' g ks :=
  ⟨Nat.lt_of_lt_of_le h.lt hb.size, fun j x hx => (hb.cell (p := ⟨g, j, none⟩) h.lt).trans (h.cell j x hx)⟩
end Go.Proofs.YtlhlpamciafocaaGreatDoor.L.Sw
namespace Go.Proofs.YtlhlpamciafocaaGreatDoor.L.Sw
open Go.RowKit Go.Shelf
set_option linter.unusedVariables false
theorem bch {w a b : World} (h1 : Below w.heap.size w a) (h2 : Below a.heap.size a b) : Below w.heap.size w b := h1.trans (h2.mono h1.size)
theorem quote_len {l : List UInt8} (h : l.length ≤ 127) : (quoteL l).length ≤ 600 := by
  have := flat_len l
  unfold quoteL
  rw [List.length_append, List.length_cons]
  simp only [List.length_cons, List.length_nil]
  omega
theorem join_two (a b sep : List UInt8) : Lib.join [a, b] sep = a ++ (sep ++ b) := by
  rw [Lib.join_cons]
  simp [Lib.joinTail]
theorem tx_len {tx : ByteArray} (h : tx.size ≤ 127) : tx.data.toList.length ≤ 127 := by
  rw [Array.length_toList]
  exact h
set_option maxHeartbeats 4000000 in
set_option maxRecDepth 100000 in
theorem ask_14 (tx : ByteArray) (nu : Int) (kv : Value) (wo : List UInt8) (hwo : wo.length ≤ 10) (w : World) (ht : tx.size ≤ 127) :
    Calls Tryz.prog 65 #[.agg #[.int .i64 14, .string tx, .int .i64 nu, kv], .string (S wo)] w fun e w' => e = .returned (.string (S (wo ++ ([91] ++ (quoteL tx.data.toList ++ [93]))))) ∧ Below w.heap.size w w' := by
  have HQ := hid (fun W => quote_any tx W (by omega))
  have hql := quote_len (tx_len ht)
  generalize quoteL tx.data.toList = q at *
  have HB := hid (belowA w (.cells #[.int .i64 14, .string tx, .int .i64 nu, kv] 50))
  have HC := hid (cells4 (heap_alloc_new w (.cells #[.int .i64 14, .string tx, .int .i64 nu, kv] 50)))
  go_enter Tryz.func65, Tryz.ntmps65
  go_upto_region 1 with (fail)
  have ⟨x0, x1, x2, x3⟩ := HC.out
  generalize w.alloc (.cells #[.int .i64 14, .string tx, .int .i64 nu, kv] 50) = X at *
  have HW := hid (fun (W : World) => write_any W.heap.size [wo, [91], q, [93]] 4 (W.alloc (.cells ([wo, [91], q, [93]].map (fun x => Value.string (S x))).toArray 9)) rfl (new_txt W _) (by simp) (by simp) (by intro x hx; simp at hx; rcases hx with rfl | rfl | rfl | rfl <;> first | omega | simp))
  simp only [List.map_cons, List.map_nil, List.flatten_cons, List.flatten_nil, List.append_nil] at HW
  go_wp2_with (first | (go_at_call 47; refine (HQ.out _).mono ?_; rintro e w1 ⟨rfl, l1⟩; have L1 := hid l1; clear l1) | (go_at_call 42; refine (HW.out _).mono ?_; rintro e w2 ⟨rfl, l2⟩; have L2 := hid l2; clear l2))
  go_ret
  exact ⟨rfl, bch (bch (bch HB.out L1.out) (belowA w1 _)) L2.out⟩
set_option maxHeartbeats 4000000 in
set_option maxRecDepth 100000 in
theorem ask_15 (tx : ByteArray) (nu : Int) (kv : Value) (wo : List UInt8) (hwo : wo.length ≤ 10) (w : World) (ht : tx.size ≤ 127) :
    Calls Tryz.prog 65 #[.agg #[.int .i64 15, .string tx, .int .i64 nu, kv], .string (S wo)] w fun e w' => e = .returned (.string (S (wo ++ [46, 110, 97, 109, 101]))) ∧ Below w.heap.size w w' := by
  have HB := hid (belowA w (.cells #[.int .i64 15, .string tx, .int .i64 nu, kv] 50))
  have HC := hid (cells4 (heap_alloc_new w (.cells #[.int .i64 15, .string tx, .int .i64 nu, kv] 50)))
  go_enter Tryz.func65, Tryz.ntmps65
  go_upto_region 1 with (fail)
  have ⟨x0, x1, x2, x3⟩ := HC.out
  generalize w.alloc (.cells #[.int .i64 15, .string tx, .int .i64 nu, kv] 50) = X at *
  have HW := hid (fun (W : World) => write_any W.heap.size [wo, [46, 110, 97, 109, 101]] 2 (W.alloc (.cells ([wo, [46, 110, 97, 109, 101]].map (fun x => Value.string (S x))).toArray 9)) rfl (new_txt W _) (by simp) (by simp) (by intro x hx; simp at hx; rcases hx with rfl | rfl <;> first | omega | simp))
  simp only [List.map_cons, List.map_nil, List.flatten_cons, List.flatten_nil, List.append_nil] at HW
  go_wp2_with (first | (go_at_call 42; refine (HW.out _).mono ?_; rintro e w2 ⟨rfl, l2⟩; have L2 := hid l2; clear l2))
  go_ret
  exact ⟨rfl, bch (bch HB.out (belowA X _)) L2.out⟩
set_option maxHeartbeats 4000000 in
set_option maxRecDepth 100000 in
theorem ask_16 (tx : ByteArray) (nu : Int) (kv : Value) (wo : List UInt8) (hwo : wo.length ≤ 10) (w : World) (ht : tx.size ≤ 127) :
    Calls Tryz.prog 65 #[.agg #[.int .i64 16, .string tx, .int .i64 nu, kv], .string (S wo)] w fun e w' => e = .returned (.string (S (wo ++ [46, 107, 101, 121, 115]))) ∧ Below w.heap.size w w' := by
  have HB := hid (belowA w (.cells #[.int .i64 16, .string tx, .int .i64 nu, kv] 50))
  have HC := hid (cells4 (heap_alloc_new w (.cells #[.int .i64 16, .string tx, .int .i64 nu, kv] 50)))
  go_enter Tryz.func65, Tryz.ntmps65
  go_upto_region 1 with (fail)
  have ⟨x0, x1, x2, x3⟩ := HC.out
  generalize w.alloc (.cells #[.int .i64 16, .string tx, .int .i64 nu, kv] 50) = X at *
  have HW := hid (fun (W : World) => write_any W.heap.size [wo, [46, 107, 101, 121, 115]] 2 (W.alloc (.cells ([wo, [46, 107, 101, 121, 115]].map (fun x => Value.string (S x))).toArray 9)) rfl (new_txt W _) (by simp) (by simp) (by intro x hx; simp at hx; rcases hx with rfl | rfl <;> first | omega | simp))
  simp only [List.map_cons, List.map_nil, List.flatten_cons, List.flatten_nil, List.append_nil] at HW
  go_wp2_with (first | (go_at_call 42; refine (HW.out _).mono ?_; rintro e w2 ⟨rfl, l2⟩; have L2 := hid l2; clear l2))
  go_ret
  exact ⟨rfl, bch (bch HB.out (belowA X _)) L2.out⟩
set_option maxHeartbeats 4000000 in
set_option maxRecDepth 100000 in
theorem ask_17 (tx : ByteArray) (nu : Int) (kv : Value) (wo : List UInt8) (hwo : wo.length ≤ 10) (w : World) (ht : tx.size ≤ 127) :
    Calls Tryz.prog 65 #[.agg #[.int .i64 17, .string tx, .int .i64 nu, kv], .string (S wo)] w fun e w' => e = .returned (.string (S (wo ++ [46, 116, 97, 105, 110, 116, 115]))) ∧ Below w.heap.size w w' := by
  have HB := hid (belowA w (.cells #[.int .i64 17, .string tx, .int .i64 nu, kv] 50))
  have HC := hid (cells4 (heap_alloc_new w (.cells #[.int .i64 17, .string tx, .int .i64 nu, kv] 50)))
  go_enter Tryz.func65, Tryz.ntmps65
  go_upto_region 1 with (fail)
  have ⟨x0, x1, x2, x3⟩ := HC.out
  generalize w.alloc (.cells #[.int .i64 17, .string tx, .int .i64 nu, kv] 50) = X at *
  have HW := hid (fun (W : World) => write_any W.heap.size [wo, [46, 116, 97, 105, 110, 116, 115]] 2 (W.alloc (.cells ([wo, [46, 116, 97, 105, 110, 116, 115]].map (fun x => Value.string (S x))).toArray 9)) rfl (new_txt W _) (by simp) (by simp) (by intro x hx; simp at hx; rcases hx with rfl | rfl <;> first | omega | simp))
  simp only [List.map_cons, List.map_nil, List.flatten_cons, List.flatten_nil, List.append_nil] at HW
  go_wp2_with (first | (go_at_call 42; refine (HW.out _).mono ?_; rintro e w2 ⟨rfl, l2⟩; have L2 := hid l2; clear l2))
  go_ret
  exact ⟨rfl, bch (bch HB.out (belowA X _)) L2.out⟩
end Go.Proofs.YtlhlpamciafocaaGreatDoor.L.Sw
