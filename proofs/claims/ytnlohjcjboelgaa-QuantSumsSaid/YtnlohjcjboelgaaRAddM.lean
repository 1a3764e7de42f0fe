import Derived.Test.YtnlohjcjboelgaaRAdd
namespace Go.Proofs.Ytnlohjcjboelgaa.L
open Go.RowKit
set_option linter.unusedVariables false
set_option maxHeartbeats 8000000 in
set_option maxRecDepth 100000 in
theorem radd_many (v1 v2 : Value) (l c : List It) (w : World) (i1 : Items w v1 l) (i2 : Items w v2 c) (g1 : Good l) (g2 : Good c) (o1 : checkN l = 0) (o2 : checkN c = 0) (hlen : 16 < (bothL l c).length) (hle : (bothL l c).length ≤ 32) :
    Calls Try.prog 12 #[v1, v2] w fun e w' => e = .returned (.tuple #[.slice none 0 0, .string ByteArray.empty, .int .i64 27]) ∧ Below w.heap.size w w' := by
  have C1 := hid (rcheck_any v1 l w i1 g1)
  have C2 := hid (fun n => rcheck_any v2 c (w.drewN n) (i2.lowN n) g2)
  have BO := hid (fun n => both_any v1 v2 l c (w.drewN n) (i1.lowN n) (i2.lowN n) g1 g2 (check_len o1) (check_len o2))
  rw [o1] at C1
  rw [o2] at C2
  change Hid (∀ n, Calls Try.prog 23 #[v1, v2] (w.drewN n) fun e w' => ∃ v, e = .returned v ∧ w'.ownsRow w.heap.size 41 2 v (bothL l c).length (cellsF (bothL l c)) ∧ Below w.heap.size (w.drewN n) w') at BO
  generalize bothL l c = B at *
  clear i1 i2 g1 g2 o1 o2
  go_enter Try.func12, Try.ntmps12
  go_wp2_with fail
  refine C1.out.mono ?_
  rintro e w1 ⟨rfl, n1, hww⟩
  subst hww
  go_wp2_with fail
  refine (C2.out n1).mono ?_
  rintro e w1 ⟨rfl, n2, hww⟩
  subst hww
  go_wp2_with fail
  refine (BO.out _).mono ?_
  rintro e w1 ⟨v, rfl, hown, hb1⟩
  have BE := hid (show Below w.heap.size w w1 from (below_drewN (Below.refl _ _) _).trans hb1)
  clear hb1
  rcases own_form hown with ⟨rfl, hz⟩ | ⟨g, cap, rfl, hg1, hg2⟩
  · omega
  · generalize B.length = len at *
    clear hown
    go_wp2_with fail
    go_ret3
    exact ⟨rfl, BE.out⟩
end Go.Proofs.Ytnlohjcjboelgaa.L
