import Derived.Test.YtiddnjjaidiohaaGreatDoorMgAL
namespace Go.Proofs.YtiddnjjaidiohaaGreatDoor.L
open Go.RowKit Go.Shelf
set_option linter.unusedVariables false
abbrev T1 : List Pt := [⟨14, ⟨#[97, 112, 112]⟩, 3, []⟩, ⟨14, ⟨#[97, 112, 112]⟩, 1, []⟩, ⟨6, ⟨#[]⟩, 1, [0, 1]⟩, ⟨8, ⟨#[122, 111, 110, 101]⟩, 0, [2]⟩]
theorem okT1 : Ok0 T1 := by
  intro j hj
  match j, hj with
  | 0, _ => exact ⟨by decide, rfl, rfl, by decide, by decide, by kernel_rfl, fun x hx => by cases hx⟩
  | 1, _ => exact ⟨by decide, rfl, rfl, by decide, by decide, by kernel_rfl, fun x hx => by cases hx⟩
  | 2, _ => exact ⟨by decide, rfl, rfl, by decide, by decide, by kernel_rfl, fun x hx => by simp [T1, pt] at hx; rcases hx with rfl | rfl <;> kernel_rfl⟩
  | 3, _ => exact ⟨by decide, rfl, rfl, by decide, by decide, by kernel_rfl, fun x hx => by simp [T1, pt] at hx; subst hx; kernel_rfl⟩
theorem nestsT1 : nests T1 = [1, 1, 1, 0] := by kernel_rfl
theorem resT1 : Res T1 0 0 := by
  refine Or.inr (Or.inr ⟨by decide, by decide, Or.inr (Or.inr ⟨okT1, ?_, Or.inr ⟨?_, rfl, rfl⟩⟩)⟩)
  · rintro (h | h)
    · exact h (by decide)
    · exact absurd h (by decide)
  · intro j hj
    rw [nestsT1]
    match j, hj with
    | 0, _ => decide
    | 1, _ => decide
    | 2, _ => decide
    | 3, _ => decide
theorem gdT1 : GdT T1 := ⟨by decide, fun j hj => by
  match j, hj with
  | 0, _ => decide
  | 1, _ => decide
  | 2, _ => decide
  | 3, _ => decide⟩
theorem ovT1n : (ovS T1 2).2 = none := by kernel_rfl
theorem ovT1e : (ovS T1 3).2 = some (143, 3) := by kernel_rfl
def tyT1 (j : Nat) : Int × Int := [(2, 3), (2, 1), (1, 3), (1, 2)].getD j (0, 0)
theorem ovT1_0 : (ovS T1 2).1 0 = (2, 3) := by kernel_rfl
theorem ovT1_1 : (ovS T1 2).1 1 = (2, 1) := by kernel_rfl
theorem ovT1_2 : (ovS T1 2).1 2 = (1, 3) := by kernel_rfl
theorem ovT1_3 : (ovS T1 2).1 3 = (1, 2) := by kernel_rfl
theorem ovT1t (j : Nat) (hj : j < 4) : (ovS T1 2).1 j = tyT1 j := by
  match j, hj with
  | 0, _ => exact ovT1_0
  | 1, _ => exact ovT1_1
  | 2, _ => exact ovT1_2
  | 3, _ => exact ovT1_3
abbrev rowT1 (k1 k2 : Nat) : Array Value := #[.int .i64 14, .string ⟨#[97, 112, 112]⟩, .int .i64 3, .slice none 0 0, .int .i64 14, .string ⟨#[97, 112, 112]⟩, .int .i64 1, .slice none 0 0, .int .i64 6, .string ⟨#[]⟩, .int .i64 1, .slice (some ⟨k1, 0, none⟩) 2 2, .int .i64 8, .string ⟨#[122, 111, 110, 101]⟩, .int .i64 0, .slice (some ⟨k2, 0, none⟩) 1 1]
theorem plT1 {W : World} {k1 k2 gp : Nat} (h1 : W.heap[k1]? = some (.cells #[.int .i64 0, .int .i64 1] 3 (0, 0))) (h2 : W.heap[k2]? = some (.cells #[.int .i64 2] 3 (0, 0))) (h3 : W.heap[gp]? = some (.cells (rowT1 k1 k2) 60 (0, 0))) : PL W (some ⟨gp, 0, none⟩) T1 := by
  have hc := fun j => cell_of_row W gp j _ _ _ h3
  refine Or.inr ⟨gp, 0, rfl, lt_blk h3, fun j hj => ?_⟩
  match j, hj with
  | 0, _ => exact ⟨none, 0, hc 0, hc 1, hc 2, hc 3, Or.inl rfl⟩
  | 1, _ => exact ⟨none, 0, hc 4, hc 5, hc 6, hc 7, Or.inl rfl⟩
  | 2, _ =>
    refine ⟨some ⟨k1, 0, none⟩, 2, hc 8, hc 9, hc 10, hc 11, Or.inr ⟨k1, 0, rfl, lt_blk h1, fun i hi => ?_⟩⟩
    match i, hi with
    | 0, _ => exact cell_of_row _ _ 0 _ _ _ h1
    | 1, _ => exact cell_of_row _ _ 1 _ _ _ h1
  | 3, _ =>
    refine ⟨some ⟨k2, 0, none⟩, 1, hc 12, hc 13, hc 14, hc 15, Or.inr ⟨k2, 0, rfl, lt_blk h2, fun i hi => ?_⟩⟩
    match i, hi with
    | 0, _ => exact cell_of_row _ _ 0 _ _ _ h2
set_option maxHeartbeats 4000000 in
set_option maxRecDepth 100000 in
theorem first_any (w : World) : Calls Tryz.prog 21 #[] w fun e w' => ∃ gp, e = .returned (.agg #[.slice (some ⟨gp, 0, none⟩) 4 4]) ∧ PL w' (some ⟨gp, 0, none⟩) T1 ∧ Below w.heap.size w w' := by
  obtain ⟨W1, e1⟩ : ∃ W, W = w.alloc (.cells #[.slice (some ⟨w.heap.size + 1 + 1 + 1, 0, none⟩) 4 4] 26) := ⟨_, rfl⟩
  obtain ⟨W2, e2⟩ : ∃ W, W = W1.alloc (.cells #[.int .i64 0, .int .i64 1] 3) := ⟨_, rfl⟩
  obtain ⟨W3, e3⟩ : ∃ W, W = W2.alloc (.cells #[.int .i64 2] 3) := ⟨_, rfl⟩
  have s1 : W1.heap.size = w.heap.size + 1 := by rw [e1]; simp
  have s2 : W2.heap.size = w.heap.size + 1 + 1 := by rw [e2]; simp [s1]
  have s3 : W3.heap.size = w.heap.size + 1 + 1 + 1 := by rw [e3]; simp [s2]
  obtain ⟨W4, e4⟩ : ∃ W, W = W3.alloc (.cells (rowT1 (w.heap.size + 1) (w.heap.size + 1 + 1)) 60) := ⟨_, rfl⟩
  have b1 := belowA w (.cells #[.slice (some ⟨w.heap.size + 1 + 1 + 1, 0, none⟩) 4 4] 26)
  have b2 := belowA W1 (.cells #[.int .i64 0, .int .i64 1] 3)
  have b3 := belowA W2 (.cells #[.int .i64 2] 3)
  have b4 := belowA W3 (.cells (rowT1 (w.heap.size + 1) (w.heap.size + 1 + 1)) 60)
  have n1 := heap_alloc_new w (.cells #[.slice (some ⟨w.heap.size + 1 + 1 + 1, 0, none⟩) 4 4] 26)
  have n2 := heap_alloc_new W1 (.cells #[.int .i64 0, .int .i64 1] 3)
  have n3 := heap_alloc_new W2 (.cells #[.int .i64 2] 3)
  have n4 := heap_alloc_new W3 (.cells (rowT1 (w.heap.size + 1) (w.heap.size + 1 + 1)) 60)
  rw [← e1] at b1 n1
  rw [← e2] at b2 n2
  rw [← e3] at b3 n3
  rw [← e4] at b4 n4
  rw [s1] at n2
  rw [s2] at n3
  rw [s3] at n4
  have q1 := (b4.block _ (by rw [s3]; omega)).trans ((b3.block _ (by rw [s2]; omega)).trans ((b2.block _ (by rw [s1]; omega)).trans n1))
  have q2 := (b4.block _ (by rw [s3]; omega)).trans ((b3.block _ (by rw [s2]; omega)).trans n2)
  have q3 := (b4.block _ (by rw [s3]; omega)).trans n3
  have HB := hid (show Below w.heap.size w W4 from bchS (bchS (bchS b1 b2) b3) b4)
  have HP := hid (plT1 q2 q3 n4)
  have HX := hid q1
  rw [e3, e2, e1] at e4
  have HE := hid e4
  clear q1 q2 q3 n1 n2 n3 n4 b1 b2 b3 b4 s1 s2 s3 e1 e2 e3 e4
  go_enter Tryz.func21, Tryz.ntmps21
  go_wp2_with fail
  refine (show bodyPost _ _ _ _ _ W4 → _ from fun h => HE.out ▸ h) ?_
  exact ⟨rfl, .agg #[.slice (some ⟨w.heap.size + 1 + 1 + 1, 0, none⟩) 4 4], results_cell_row Tryz.results21 _ _ w.heap.size 26 #[.slice (some ⟨w.heap.size + 1 + 1 + 1, 0, none⟩) 4 4] (0, 0) _ rfl HX.out Tryz.underlying26 rfl (by kernel_rfl), _, rfl, HP.out, HB.out⟩
end Go.Proofs.YtiddnjjaidiohaaGreatDoor.L
