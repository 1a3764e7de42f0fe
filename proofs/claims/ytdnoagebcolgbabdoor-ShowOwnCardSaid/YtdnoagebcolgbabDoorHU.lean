import Derived.Test.YtdnoagebcolgbabDoorHK
import Derived.Test.YtdnoagebcolgbabDoorHT
import Derived.Test.YtdnoagebcolgbabDoorX9
namespace Go.Proofs.YtdnoagebcolgbabDoor.L
open Go.RowKit Go.Shelf
set_option linter.unusedVariables false
theorem map_S (xs : List (List UInt8)) : (xs.map S).map (·.data.toList) = xs := by
  induction xs with
  | nil => rfl
  | cons x xs ih => rw [List.map_cons, List.map_cons, ih]
/-- strings.Join. -/
theorem join_any (bk c : Nat) (xs : List (List UInt8)) (sep : List UInt8) (n : Nat) (w : World) (hlen : n = xs.length) (h : ∀ j x, xs[j]? = some x → w.cell? ⟨bk, j, none⟩ = some (.string (S x))) (hb : bk < w.heap.size) (hn : xs.length ≤ 1000) (hc : xs.length ≤ c) (hl : ∀ x, x ∈ xs → x.length ≤ 20000000) (hs : sep.length ≤ 10) :
    Calls Tryd.prog 33 #[.slice (some ⟨bk, 0, none⟩) n c, .string (S sep)] w fun e w' => e = .returned (.string (S (Lib.join xs sep))) ∧ Below w.heap.size w w' := by
  have hj := join_le 20000000 hl hn hs
  have := Any.strings_Join lays156 bx156 bk 0 c (xs.map S) (S sep) w (by
    intro j x hx
    rw [List.getElem?_map] at hx
    cases e : xs[j]? with
    | none => rw [e] at hx; cases hx
    | some y =>
      rw [e] at hx
      cases hx
      rw [Nat.zero_add]
      exact h j y e) hb (by rw [List.length_map]; omega) (by rw [List.length_map]; exact hc) (by rw [map_S]; show (Lib.join xs sep).length ≤ _; omega)
  rw [map_S, List.length_map, ← hlen] at this
  exact this
theorem join_flat (xs : List (List UInt8)) : Lib.join xs [] = xs.flatten := by
  cases xs with
  | nil => rfl
  | cons x r => rw [Lib.join_cons]; simp [Lib.joinTail]
theorem cells_txt {w : World} {bk : Nat} {xs : List (List UInt8)} (h : ∀ (j : Nat) (u : Value), (xs.map (fun x => Value.string (S x)))[j]? = some u → w.cell? ((⟨bk, 0, none⟩ : Addr).add j) = some u) : ∀ j x, xs[j]? = some x → w.cell? ⟨bk, j, none⟩ = some (.string (S x)) := by
  intro j x hx
  have := h j (.string (S x)) (by rw [List.getElem?_map, hx]; rfl)
  rw [Go.WideShapes.add_plain] at this
  simpa using this
/-- A list of texts just laid. -/
theorem new_txt (w : World) (xs : List (List UInt8)) : ∀ j x, xs[j]? = some x → (w.alloc (.cells (xs.map (fun x => Value.string (S x))).toArray 9)).cell? ⟨w.heap.size, j, none⟩ = some (.string (S x)) := cells_txt (cells_new w _ 9)
set_option maxHeartbeats 4000000 in
theorem write_any (bk : Nat) (xs : List (List UInt8)) (n : Nat) (w : World) (hlen : n = xs.length) (h : ∀ j x, xs[j]? = some x → w.cell? ⟨bk, j, none⟩ = some (.string (S x))) (hb : bk < w.heap.size) (hn : xs.length ≤ 1000) (hl : ∀ x, x ∈ xs → x.length ≤ 20000000) :
    Calls Tryd.prog 32 #[.slice (some ⟨bk, 0, none⟩) n n] w fun e w' => e = .returned (.string (S xs.flatten)) ∧ Below w.heap.size w w' := by
  have HJ := hid (join_any bk n xs [] n w hlen h hb hn (by omega) hl (by simp))
  rw [join_flat] at HJ
  clear h hl hlen
  generalize S xs.flatten = R at *
  go_enter Tryd.func32, Tryd.ntmps32
  go_wp2_with (go_at_call 33; refine HJ.out.mono ?_; rintro e w1 ⟨rfl, l1⟩; have L1 := hid l1; clear l1)
  go_ret
  exact ⟨rfl, L1.out⟩
set_option maxHeartbeats 4000000 in
theorem call_any (word : List UInt8) (bk : Nat) (xs : List (List UInt8)) (n : Nat) (w : World) (hlen : n = xs.length) (h : ∀ j x, xs[j]? = some x → w.cell? ⟨bk, j, none⟩ = some (.string (S x))) (hb : bk < w.heap.size) (hn : xs.length ≤ 2) (hl : ∀ x, x ∈ xs → x.length ≤ 4500) (hw : word.length ≤ 100) :
    Calls Tryd.prog 36 #[.string (S word), .slice (some ⟨bk, 0, none⟩) n n] w fun e w' => e = .returned (.string (S (word ++ ([40] ++ (Lib.join xs [44, 32] ++ [41]))))) ∧ Below w.heap.size w w' := by
  have hjl : (Lib.join xs [44, 32]).length ≤ 10000 := by
    cases xs with
    | nil => simp [Lib.join_nil]
    | cons x r =>
      rw [Lib.join_length]
      have h1 := lens_le (m := 4500) (x :: r) hl
      have h3 : (x :: r).length * 4500 ≤ 2 * 4500 := Nat.mul_le_mul_right _ hn
      simp at hn
      simp
      omega
  have HJ := hid (join_any bk n xs [44, 32] n w hlen h hb (by omega) (by omega) (fun x hx => Nat.le_trans (hl x hx) (by omega)) (by simp))
  clear h hl hlen hb hn
  generalize Lib.join xs [44, 32] = J at *
  have HW := hid (fun (W : World) => write_any W.heap.size [word, [40], J, [41]] 4 (W.alloc (.cells ([word, [40], J, [41]].map (fun x => Value.string (S x))).toArray 9)) rfl (new_txt W _) (by simp) (by simp) (by intro x hx; simp at hx; rcases hx with rfl | rfl | rfl | rfl <;> first | omega | simp))
  simp only [List.map_cons, List.map_nil, List.flatten_cons, List.flatten_nil, List.append_nil] at HW
  clear hjl hw
  generalize hR : S (word ++ ([40] ++ (J ++ [41]))) = R at *
  clear hR
  go_enter Tryd.func36, Tryd.ntmps36
  go_wp2_with (first | (go_at_call 33; refine HJ.out.mono ?_; rintro e w1 ⟨rfl, l1⟩; have L1 := hid l1; clear l1) | (go_at_call 32; refine (HW.out _).mono ?_; rintro e w2 ⟨rfl, l2⟩; have L2 := hid l2; clear l2))
  go_ret
  exact ⟨rfl, L1.out.trans (((belowA w1 _).trans (L2.out.mono (belowA w1 _).size)).mono L1.out.size)⟩
/-- The kids' texts in memory. -/
structure Kd (w : World) (g : Nat) (ks : List (List UInt8)) : Prop where
  lt : g < w.heap.size
  cell : ∀ j x, ks[j]? = some x → w.cell? ⟨g, j, none⟩ = some (.string (S x))
theorem Kd.low {w w' : World} {g : Nat} {ks : List (List UInt8)} (h : Kd w g ks) (hb : Below w.heap.size w w') : Kd w' g ks :=
  ⟨Nat.lt_of_lt_of_le h.lt hb.size, fun j x hx => (hb.cell (p := ⟨g, j, none⟩) h.lt).trans (h.cell j x hx)⟩
end Go.Proofs.YtdnoagebcolgbabDoor.L
