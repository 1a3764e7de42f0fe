import Derived.Test.YtdnoagebcolgbabDoorHN
namespace Go.Proofs.YtdnoagebcolgbabDoor.L
open Go.RowKit Go.Shelf
set_option linter.unusedVariables false
abbrev kidC : Obj := .cells #[.int .i64 0] 3
abbrev rowC (g : Nat) : Obj := .cells #[.int .i64 1, .string ⟨#[]⟩, .int .i64 0, .slice none 0 0, .int .i64 3, .string ⟨#[]⟩, .int .i64 0, .slice (some ⟨g, 0, none⟩) 1 1] 33
abbrev treeC (g : Nat) : Obj := .cells #[.slice (some ⟨g, 0, none⟩) 2 2] 24
set_option maxHeartbeats 4000000 in
set_option maxRecDepth 100000 in
theorem awake_any (w : World) : Calls Tryd.prog 4 #[] w fun e w' => e = .returned (.bool true) ∧ Below w.heap.size w w' := by
  have b1 := belowA w kidC
  have b2 := b1.alloc (by simp) (rowC w.heap.size)
  have b3 := b2.alloc (by simp; omega) (treeC (w.heap.size + 1))
  have hs1 : (w.alloc kidC).heap.size = w.heap.size + 1 := by simp
  have hs2 : ((w.alloc kidC).alloc (rowC w.heap.size)).heap.size = w.heap.size + 1 + 1 := by simp
  have hs3 : (((w.alloc kidC).alloc (rowC w.heap.size)).alloc (treeC (w.heap.size + 1))).heap.size = w.heap.size + 1 + 1 + 1 := by simp
  have hF : Fx (((w.alloc kidC).alloc (rowC w.heap.size)).alloc (treeC (w.heap.size + 1))) (w.heap.size + 1) w.heap.size := by
    refine ⟨(Below.heap_alloc _ _ _ (by rw [hs2]; omega)).trans ?_, (Below.heap_alloc _ _ _ (by rw [hs2]; omega)).trans ((Below.heap_alloc _ _ _ (by rw [hs1]; omega)).trans (heap_alloc_new w _))⟩
    have := heap_alloc_new (w.alloc kidC) (rowC w.heap.size)
    rwa [hs1] at this
  have hX : Boxed (((w.alloc kidC).alloc (rowC w.heap.size)).alloc (treeC (w.heap.size + 1))) (w.heap.size + 1 + 1) 24 (.slice (some ⟨w.heap.size + 1, 0, none⟩) 2 2) := by
    have := heap_alloc_new ((w.alloc kidC).alloc (rowC w.heap.size)) (treeC (w.heap.size + 1))
    rwa [hs2] at this
  have HB := hid b3
  have HF := hid hF
  have HX := hid hX
  clear b1 b2 b3 hs1 hs2 hs3 hF hX
  go_enter Tryd.func4, Tryd.ntmps4
  go_upto_region 2 with (fail)
  generalize (((w.alloc kidC).alloc (rowC w.heap.size)).alloc (treeC (w.heap.size + 1))) = X at *
  have HT := hid (text0 _ _ X HF.out)
  have xt := HX.out.cell
  go_upto_region 3 with (go_at_call 8; refine HT.out.mono ?_; rintro e w1 ⟨rfl, l1⟩; have L1 := hid l1; clear l1)
  have HN := hid (nest0 _ _ w1 (HF.out.low L1.out))
  have yt := (boxed_low HX.out L1.out).cell
  go_wp2_with (go_at_call 7; refine HN.out.mono ?_; rintro e w2 ⟨rfl, l2⟩; have L2 := hid l2; clear l2)
  exact bodyPost_ret (v := .bool true) (by simp [results, Tryd.results4]) rfl ⟨rfl, (HB.out.trans (L1.out.mono HB.out.size)).trans (L2.out.mono (Nat.le_trans HB.out.size L1.out.size))⟩
end Go.Proofs.YtdnoagebcolgbabDoor.L
