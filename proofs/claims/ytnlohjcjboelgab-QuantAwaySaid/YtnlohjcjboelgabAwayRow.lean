import Derived.Test.YtnlohjcjboelgabRows
import Derived.Test.YtnlohjcjboelgabAwayA
import Derived.Test.YtnlohjcjboelgabAwayB
import Derived.Test.YtnlohjcjboelgabOpen
import Derived.SizedLaws
namespace Go.Proofs.Ytnlohjcjboelgab.L
open Go.RowKit
theorem away_walk (v1 v2 : Value) (la lb : List It) (w : World) (m1 : Came w v1 la) (m2 : Came w v2 lb) (g1 : Good la) (g2 : Good lb) :
    Calls Try.prog 3 #[v1, v2] w fun e w' => e = .returned (.bool true) ∧ Below w.heap.size w w' := by
  by_cases o1 : checkN la = 0
  · by_cases o2 : checkN lb = 0
    · by_cases hl : 16 < (mrg 40 la lb).length
      · exact away_none v1 v2 la lb w m1 m2 g1 g2 o1 o2 27 (Or.inl rfl) (Or.inl ⟨o1, o2, hl, rfl⟩) (Or.inl ⟨o2, o1, by rw [swap_len]; exact hl, rfl⟩)
      · by_cases ov : overAt (mrg 40 la lb) (mrg 40 la lb).length 0 = none
        · exact away_sum v1 v2 la lb w m1 m2 g1 g2 o1 o2 (by omega) ov
        · exact away_none v1 v2 la lb w m1 m2 g1 g2 o1 o2 28 (Or.inr rfl) (Or.inr ⟨o1, o2, by omega, ov, rfl⟩) (Or.inr ⟨o2, o1, by rw [swap_len]; omega, fun h => ov ((swap_over 40 la lb).1 h), rfl⟩)
    · exact away_bad_b v1 v2 la lb w m1 m2 g1 g2 o1 o2 _ _ ⟨rfl, fun h => o2 (two_ok h).2⟩ ⟨rfl, fun h => o2 (two_ok h).1⟩
  · exact away_bad_a v1 v2 la lb w m1 m2 g1 g2 o1 _ _ ⟨rfl, fun h => o1 (two_ok h).1⟩ ⟨rfl, fun h => o1 (two_ok h).2⟩
end Go.Proofs.Ytnlohjcjboelgab.L
namespace Go.Proofs.Ytnlohjcjboelgab.quantAway
open Go.ChangeShapes Go.WideShapes Go.ChangeAt Go.RowKit Go.Joins L
set_option linter.unusedVariables false
set_option maxRecDepth 100000 in
theorem lifted (os : Os) (started : os.Started) (H : Type) (enc : TypeId × Value → H) :
    ReturnsInHanded {} Try.checked os 3 .any (Rows.quantAwaySpec.pre6 enc Try.prog Try.f3 Rows.quantAwayRow.domain false) (Rows.quantAwaySpec.post enc Try.prog Try.f3 false true false false) := by
  refine returnsInHanded_of_change_sized (C := Try.checked) own started (by kernel_rfl) Try.func3
    (ChangeSpec.witness6 (enc := enc) (C := Try.checked) false ⟨#[], #[.slice none 0 0, .slice none 0 0], []⟩ 8 (by kernel_rfl) (by kernel_rfl) (by kernel_rfl) (by kernel_rfl)) ?_
  intro W base args ds gs before hval0 hW hcnd hsz0 _
  have hval : ∀ (j : Nat) t v, Try.f3.params[j]? = some t → args[j]? = some v → Value.okWide Try.prog W .any base t v := hval0
  have hsz : (DataW.weightsEach Try.prog (Try.f3.params.toList ++ []) (ds ++ gs)).all (fun x => decide (x ≤ reachBytes)) = true := hsz0
  have hW' := hW
  obtain ⟨p, q, hA0, hV, rfl, hfz, hnd⟩ := hW
  have hA : DataW.TrodAll enc Try.prog W 0 (fun _ => true) true Try.f3.params.toList args.toList ds p := hA0
  rw [Try.params3] at hA hval hsz
  obtain ⟨v0, vs0, d0, ds0, p0, q0, hargs, rfl, rfl, h0, r0⟩ := trodAll_cons hA
  obtain ⟨v1, vs1, d1, ds1, p1, q1, rfl, rfl, rfl, h1, r1⟩ := trodAll_cons r0
  obtain ⟨rfl, rfl, rfl⟩ := trodAll_nil r1
  obtain rfl : args = #[v0, v1] := by cases args; simp_all
  obtain ⟨rfl, rfl⟩ := trodVars_none hV
  clear hA0 hval0
  simp only [List.append_nil] at hW' hsz
  have hw : DataW.weightsEach Try.prog [22, 22] [d0, d1] = d0.weights Try.prog 22 ++ d1.weights Try.prog 22 := by
    simp [DataW.weightsEach]
  have hsz' : (DataW.weightsEach Try.prog [22, 22] [d0, d1]).all (fun x => decide (x ≤ reachBytes)) = true := hsz
  rw [hw] at hsz'
  have hlt0 : ∀ x ∈ p0, x.block < W.heap.size := fun x hx => hW'.lt x (by simp [hx])
  have hlt1 : ∀ x ∈ p1, x.block < W.heap.size := fun x hx => hW'.lt x (by simp [hx])
  obtain ⟨l0, m0, g0⟩ := came_open (hval 0 22 v0 rfl rfl) h0 (fun x hx => all_le hsz' (by simp [hx]))
  obtain ⟨l1, m1, g1⟩ := came_open (hval 1 22 v1 rfl rfl) h1 (fun x hx => all_le hsz' (by simp [hx]))
  refine (away_walk v0 v1 l0 l1 W m0 m1 g0 g1).mono fun e W' ⟨he, hb⟩ => ?_
  subst he
  refine ⟨_, rfl, [d0, d1], [], p0 ++ p1, [], p0 ++ p1, [], hW', ?_, ?_, ?_, hb.frame _, fun h => by cases h⟩
  · exact trodAll_cons_mk (shut_bool Try.underlying4 _) trodAll_mk0
  · have := trodAll_cons_mk (reads_stay h0 hb hlt0) (trodAll_cons_mk (reads_stay h1 hb hlt1) (trodAll_mk0 (P := Try.prog) (enc := enc) (w := W') (base := 0) (spare := fun b => decide (b < W.heap.size)) (held := true)))
    rw [List.append_nil] at this
    exact this
  · rfl
theorem over : Rows.quantAwayRow.holds Try.pinned (OpenSpec.ofChange Rows.quantAwaySpec) :=
  OpenClaim.holds_of_wide 3 Try.f3 rfl rfl rfl rfl rfl rfl rfl ⟨rfl, rfl, rfl, rfl, rfl⟩ rfl rfl rfl rfl rfl (by kernel_rfl) Try.func3 (by kernel_rfl)
    (of_decide_eq_true (by kernel_rfl)) (by unfold Func.isWrapper; first | (rw [if_pos (by decide +kernel)]; kernel_rfl) | (rw [if_neg (by decide +kernel)]; exact ⟨rfl, rfl⟩))
    (fun os started H enc _ => lifted os started H enc)
theorem proved : Rows.QuantAwaySaid := over
end Go.Proofs.Ytnlohjcjboelgab.quantAway
namespace Go.Proofs.Ytnlohjcjboelgab
/-- THE STATEMENT, AS IT IS HANDED IN. -/
theorem quantAway_holds : Rows.QuantAwaySaid := quantAway.proved
end Go.Proofs.Ytnlohjcjboelgab
