import Derived.Test.YtkagdmhijjfnnabDoorNn1
namespace Go.Proofs.YtkagdmhijjfnnabDoor
open Go.RowKit Bs
set_option maxRecDepth 100000 in
set_option maxHeartbeats 1000000 in
theorem nil_out (N : Int) (vA vB vC : Value) (w : World) (ht : Tab w) (hN : ¬ (0 ≤ N ∧ N ≤ 65536)) :
    Calls Tryd.prog 3 #[.agg #[.int .i64 N, vA, vB, vC]] w fun e w' => e = .returned (.bool true) ∧ Below w.heap.size w w' := by
  have HN := hid hN
  have HT := hid ht
  clear hN ht
  go_enter Tryd.func3, Tryd.ntmps3
  go_wp2_with fail
  refine (begin_all N vA vB vC w HT.out).mono ?_
  rintro e w1 ⟨rfl, hx, hb, _⟩
  have hx0 := hx.c0
  have HB := hid hb
  clear hx hb
  go_wp2_with fail
  refine (sized_no _ _ HN.out).mono ?_
  rintro e w2 ⟨rfl, hww⟩
  subst hww
  go_wp2_with fail
  refine (awake_any _ (HT.out.low HB.out HT.out.pos)).mono ?_
  rintro e w3 ⟨rfl, h3⟩
  have H3 := hid (belowT HB.out h3)
  clear h3
  go_wp2_with fail
  go_ret
  exact ⟨rfl, H3.out⟩
theorem nil_all (N : Int) (vA vB vC : Value) (zA zB : List Int) (w : World) (ht : Tab w) (iA : Ints w vA zA) (iB : Ints w vB zB) (rA : zA.length * 8 ≤ 140737488351232) (rB : zB.length * 8 ≤ 140737488351232) :
    Calls Tryd.prog 3 #[.agg #[.int .i64 N, vA, vB, vC]] w fun e w' => e = .returned (.bool true) ∧ Below w.heap.size w w' := by
  by_cases h : 0 ≤ N ∧ N ≤ 65536
  · obtain ⟨n, rfl⟩ : ∃ n : Nat, N = n := ⟨N.toNat, by omega⟩
    exact nil_law n vA vB vC zA zB w ht (by omega) iA iB rA rB
  · exact nil_out N vA vB vC w ht h
end Go.Proofs.YtkagdmhijjfnnabDoor
