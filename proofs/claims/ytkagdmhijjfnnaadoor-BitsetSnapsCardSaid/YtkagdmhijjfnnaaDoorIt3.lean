import Derived.Test.YtkagdmhijjfnnaaDoorIt2
namespace Go.Proofs.YtkagdmhijjfnnaaDoor
open Go.RowKit Go.Shelf Bs
set_option linter.unusedVariables false
attribute [local go_sem] Oper.semAt_some
set_option maxRecDepth 100000 in
set_option maxHeartbeats 1000000 in
theorem words_nil (w : World) :
    Calls Tryd.prog 35 #[.pointer none] w fun e w' => ∃ v, e = .returned v ∧ v = .slice (some ⟨w.heap.size, 0, none⟩) 0 0 ∧ w.heap.size < w'.heap.size ∧ Below w.heap.size w w' := by
  obtain ⟨L, hL⟩ : ∃ L : Nat, L = 0 := ⟨_, rfl⟩
  have hmk := make_len L (by omega) w
  have hb0 := lowAlloc w (.cells (row (List.replicate L 0)) 59)
  have hls : Hid (Calls Tryd.prog 55 #[.pointer none] w fun e w' => e = .returned (.slice none L L) ∧ w' = w) := by rw [hL]; exact list_nil w
  have hrow : (w.alloc (.cells (row (List.replicate L 0)) 59)).heap[w.heap.size]? = some (.cells (vals (List.replicate L 0)).toArray 59 (0, 0)) := heap_alloc_new w _
  have HB0 := hid hb0
  have HROW := hid hrow
  have HL := hid hL
  clear hb0 hrow
  clear hL
  go_enter Tryd.func35, Tryd.ntmps35
  go_wp2_with fail
  refine hls.out.mono ?_
  rintro e w1 ⟨rfl, hww⟩
  subst hww
  go_wp2_with fail
  refine (list_nil _).mono ?_
  rintro e w2 ⟨rfl, hww⟩
  rw [hww]
  clear hww
  go_wp2_with (refine wpList_copy_splice rfl (.tmp 8) (.tmp 10) 35 35 rfl 59 Tryd.underlying35 (by kernel_rfl) (some ⟨w1.heap.size, 0, none⟩) none L L 0 0 rfl rfl w1.heap.size 0 (vals (List.replicate L 0)) 59 HROW.out [] (by simp) (fun h => by cases h) (by simp) (by intro v hv; cases hv) w1.heap.size w1 HB0.out (Nat.le_refl _) ?_; intro w4 hg4 hb4)
  go_ret
  exact ⟨_, rfl, by rw [HL.out]; rfl, lt_of_block hg4.out, hb4⟩
set_option maxHeartbeats 4000000 in
theorem all_nil (w : World) : Calls Tryd.prog 38 #[.pointer none] w fun e w' => ∃ X g, e = .returned (allB X) ∧ w.heap.size ≤ X ∧ w.heap.size ≤ g ∧ g < w'.heap.size ∧ w'.heap[X]? = some (.cells #[.slice (some ⟨g, 0, none⟩) 0 0] 35 (0, 0)) ∧ Below w.heap.size w w' := by
  have BY := hid (words_nil w)
  generalize hQ : (fun (e : Ending) (w' : World) => ∃ X g, e = .returned (allB X) ∧ w.heap.size ≤ X ∧ w.heap.size ≤ g ∧ g < w'.heap.size ∧ w'.heap[X]? = some (.cells #[.slice (some ⟨g, 0, none⟩) 0 0] 35 (0, 0)) ∧ Below w.heap.size w w') = Q
  have HQ := hid hQ
  clear hQ
  go_enter Tryd.func38, Tryd.ntmps38
  go_wp2_with (go_at_call 35; refine BY.out.mono ?_
               rintro e w2 ⟨v, rfl, rfl, g2, B2⟩
               replace G2 := hid g2
               replace B2 := hid B2)
  rw [← HQ.out]
  refine ⟨w2.heap.size, w.heap.size, rfl, B2.out.size, Nat.le_refl _, by have := G2.out; simp; omega, heap_alloc_new w2 _, B2.out.alloc B2.out.size _⟩
theorem run_eql_walk (w : World) (f : Fn) (a b : Array Value) : (binOp .eql 63 (.func f a b) .nilFunc).run Tryd.prog w = .ok (.bool false) w := by
  have h : ∀ d, (Op.equalIn (d + 1) 63 (.func f a b) .nilFunc).run Tryd.prog w = .ok false w := fun d => by
    simp [Op.equalIn, run_underlying Tryd.underlying63]
  simp only [binOp]
  simp [Op.equal, Op.maxDepth, h 9999]
set_option maxHeartbeats 4000000 in
set_option maxRecDepth 100000 in
theorem walk_nil (n : Int) (w : World) (ht : Tab w) : Calls Tryd.prog 90 #[.pointer none, .int .i64 n] w fun e w' => e = .returned (.slice none 0 0) ∧ Below w.heap.size w w' := by
  have hq := run_eql_walk
  have HT := hid ht
  clear ht
  have AL := hid all_nil
  generalize hQ : (fun (e : Ending) (w' : World) => e = .returned (.slice none 0 0) ∧ Below w.heap.size w w') = Q
  have HQ := hid hQ
  clear hQ
  refine (callsIn_wide (n := 3)).1 ?_
  refine callsIn_of_wp_marks Tryd.func90 rfl trivial ?_ rfl
  simp only [Tryd.ntmps90, List.size_toArray, List.length_cons, List.length_nil, Nat.reduceAdd, Nat.reduceSub, Array.replicate_succ, Array.replicate_zero, List.push_toArray, List.append_toArray, List.nil_append, List.cons_append]
  gi_wp2_with (first
    | (refine ⟨trivial, ?_⟩; gi_at_call 38; refine (callsIn_wide.2 (AL.out _)).mono ?_
       rintro e w3 ⟨X, g, he, hX, hg, hgl, hbox, B3⟩; unfold allB at he; subst he))
  have hs0 : ((w.alloc (.cells #[.int .i64 n] 3)).alloc (.cells #[.slice none 0 0] 28)).heap.size = w.heap.size + 2 := by simp
  have b0 : Below w.heap.size w ((w.alloc (.cells #[.int .i64 n] 3)).alloc (.cells #[.slice none 0 0] 28)) := ((Below.refl _ w).alloc (Nat.le_refl _) _).alloc (by simp) _
  have bl : ((w.alloc (.cells #[.int .i64 n] 3)).alloc (.cells #[.slice none 0 0] 28)).heap[w.heap.size + 1]? = some (.cells #[.slice none 0 0] 28 (0, 0)) := by
    have := heap_alloc_new (w.alloc (.cells #[.int .i64 n] 3)) (.cells #[.slice none 0 0] 28)
    rwa [World.size_alloc] at this
  rw [hs0] at hX hg
  have b3 := b0.trans (B3.mono b0.size)
  have bl3 := (B3.block _ (by rw [hs0]; omega)).trans bl
  have ht3 := HT.out.low b3 HT.out.pos
  have HB3 := hid b3
  have HL3 := hid bl3
  have hcx : w3.cell? ⟨X, 0, none⟩ = some (.slice (some ⟨g, 0, none⟩) 0 0) := by rw [cell_of_row w3 X 0 _ _ _ hbox]; rfl
  have hXl := lt_of_block hbox
  clear B3 b0 bl hs0 AL hbox b3 bl3
  refine walkO (by decide) X g 0 0 [] (by decide) (fun a ha => by cases ha) rfl rfl ⟨hcx, (fun j hj => by cases hj), ht3⟩ hXl hgl
    (fun _ W => Below w.heap.size w W ∧ W.heap[w.heap.size + 1]? = some (.cells #[.slice none 0 0] 28 (0, 0))) (fun _ _ => False)
    ?_ ?_ ?_ ⟨HB3.out, HL3.out⟩ (fun _ _ _ => True) (fun _ _ _ _ _ _ _ _ => trivial) ?_ ?_ ?_ ?_
  · rintro pre W W' ⟨h1, h2⟩ h
    exact ⟨h1.trans (h.mono h1.size), (h.block _ (lt_of_block h2)).trans h2⟩
  · rintro pre W l r r' ⟨h1, h2⟩ hl h
    have := HB3.out.size
    refine ⟨⟨h1.os, h1.tape, h1.output, by simpa using h1.size, fun k hk => (World.putObj_heap_other (by omega)).trans (h1.block k hk)⟩, (World.putObj_heap_other ?_).trans h2⟩
    have := lt_of_block HL3.out
    omega
  · rintro pre W l r r' h
    exact h.elim
  · rintro l x W K _ hK
    have HK := hid hK
    clear hK
    gi_wp2
    exact HK.out _ _ trivial (Below.refl _ _)
  · rintro l pre x a' W _ _ _ _ hp
    obtain ⟨t, ht⟩ := hp
    simp [msL] at ht
  · rintro D W hD ⟨h1, h2⟩ hd
    have H1 := hid h1
    have H2 := hid h2
    have HD := hid hd
    have hc : W.cell? ⟨w.heap.size + 1, 0, none⟩ = some (.slice none 0 0) := by rw [cell_of_row W _ 0 _ _ _ h2]; rfl
    clear h1 h2 hd
    gi_wp2
    refine ⟨by simp, .inl ⟨_, _, rfl, run_takeDeferred HD.out, ?_⟩⟩
    have hb : Below w.heap.size w (W.putObj D (.deferred none)) := by
      have h1 := H1.out
      have := HB3.out.size
      exact ⟨h1.os, h1.tape, h1.output, by simpa using h1.size, fun k hk => (World.putObj_heap_other (by omega)).trans (h1.block k hk)⟩
    have HB := hid hb
    clear hb
    simp [LeavesInM, LeavesIn, results, Tryd.results90, go_sem]
    rw [← HQ.out]
    exact ⟨rfl, HB.out⟩
  · rintro D pre W _ _ h
    exact h.elim
end Go.Proofs.YtkagdmhijjfnnaaDoor
