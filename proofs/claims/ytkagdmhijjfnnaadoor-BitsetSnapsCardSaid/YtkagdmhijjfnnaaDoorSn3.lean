import Derived.Test.YtkagdmhijjfnnaaDoorSn2
namespace Go.Proofs.YtkagdmhijjfnnaaDoor
open Go.RowKit Go.Shelf Bs
set_option linter.unusedVariables false
attribute [local go_sem] Oper.semAt_some
set_option maxHeartbeats 4000000 in
set_option maxRecDepth 100000 in
theorem snaps_out (N : Int) (vA vB vC : Value) (w : World) (ht : Tab w) (hN : ¬ (0 ≤ N ∧ N ≤ 65536)) :
    Calls Tryd.prog 7 #[.agg #[.int .i64 N, vA, vB, vC]] w fun e w' => e = .returned (.bool true) ∧ Below w.heap.size w w' := by
  have HN := hid hN
  have HT := hid ht
  clear hN ht
  generalize hQ : (fun (e : Ending) (w' : World) => e = .returned (.bool true) ∧ Below w.heap.size w w') = Q
  have HQ := hid hQ
  clear hQ
  refine (callsIn_wide (n := 6)).1 ?_
  refine callsIn_of_wp_marks Tryd.func7 rfl trivial ?_ rfl
  simp only [Tryd.ntmps7, List.size_toArray, List.length_cons, List.length_nil, Nat.reduceAdd, Nat.reduceSub, Array.replicate_succ, Array.replicate_zero, List.push_toArray, List.append_toArray, List.nil_append, List.cons_append]
  gi_wp2_with fail
  have b1 : Below w.heap.size w ((w.alloc (.cells #[.int .i64 N, vA, vB, vC] 40)).alloc (.cells #[.bool false] 4)) := ((Below.refl _ w).alloc (Nat.le_refl _) _).alloc (by simp) _
  have x1 : XAll ((w.alloc (.cells #[.int .i64 N, vA, vB, vC] 40)).alloc (.cells #[.bool false] 4)) w.heap.size N vA vB vC :=
    (show XAll (w.alloc (.cells #[.int .i64 N, vA, vB, vC] 40)) w.heap.size N vA vB vC from ⟨by simp, by simp, by simp, by simp⟩).low (lowAlloc _ _)
  have r1 : Boxed ((w.alloc (.cells #[.int .i64 N, vA, vB, vC] 40)).alloc (.cells #[.bool false] 4)) (w.heap.size + 1) 4 (.bool false) := by
    have := Boxed.new (w.alloc (.cells #[.int .i64 N, vA, vB, vC] 40)) 4 (.bool false)
    simpa using this
  generalize (w.alloc (.cells #[.int .i64 N, vA, vB, vC] 40)).alloc (.cells #[.bool false] 4) = w1 at *
  refine ⟨trivial, ?_⟩
  refine CallsIn.mono (callsIn_wide.2 (awake_any w1 (HT.out.low b1 HT.out.pos))) ?_
  rintro e w2 ⟨rfl, h2⟩
  have B2 := hid (b1.trans (h2.mono b1.size))
  have X2 := hid (x1.low h2)
  have R2 := hid (boxed_low r1 h2)
  have hx0 := X2.out.c0
  have hr0 := R2.out.cell
  have hrf := R2.out.frozen
  clear b1 x1 r1 h2
  gi_wp2_with fail
  refine ⟨trivial, ?_⟩
  refine CallsIn.mono (callsIn_wide.2 (sized_no _ _ HN.out)) ?_
  rintro e w3 ⟨rfl, hww⟩
  subst hww
  gi_wp2_with fail
  have hbx : Boxed (w3.setCell ⟨w.heap.size + 1, 0, none⟩ (.bool true)) (w.heap.size + 1) 4 (.bool true) := R2.out.set _
  have hlow : Below w.heap.size w (w3.setCell ⟨w.heap.size + 1, 0, none⟩ (.bool true)) := low_set B2.out (by omega)
  have xc := hbx.cell
  have HLW := hid hlow
  clear hbx hlow
  generalize w3.setCell ⟨w.heap.size + 1, 0, none⟩ (.bool true) = Z at *
  simp [bodyPostM, LeavesInM, LeavesIn, results, Tryd.results7, go_sem, xc]
  rw [← HQ.out]
  exact ⟨rfl, HLW.out⟩
theorem snaps_all (N : Int) (vA vB vC : Value) (zA zB zC : List Int) (w : World) (ht : Tab w) (iA : Ints w vA zA) (iB : Ints w vB zB) (iC : Ints w vC zC) (rA : zA.length * 8 ≤ 140737488351232) (rB : zB.length * 8 ≤ 140737488351232) (rC : zC.length * 8 ≤ 140737488351232) :
    Calls Tryd.prog 7 #[.agg #[.int .i64 N, vA, vB, vC]] w fun e w' => e = .returned (.bool true) ∧ Below w.heap.size w w' := by
  by_cases h : 0 ≤ N ∧ N ≤ 65536
  · obtain ⟨n, rfl⟩ : ∃ n : Nat, N = n := ⟨N.toNat, by omega⟩
    exact snaps_law n vA vB vC zA zB zC w ht (by omega) iA iB iC rA rB rC
  · exact snaps_out N vA vB vC w ht h
end Go.Proofs.YtkagdmhijjfnnaaDoor
