import Derived.Test.YtnclpdgbjefpmaaGn
namespace Go.Proofs.Ytnclpdgbjefpmaa.codeOneForm
open Go.ChangeShapes Go.WideShapes Go.ChangeAt Go.RowKit Go.Joins L
set_option linter.unusedVariables false
set_option maxRecDepth 100000 in
theorem lifted (os : Os) (started : os.Started) (H : Type) (enc : TypeId × Value → H) :
    ReturnsInHanded {} Try.checked os 6 .any (Rows.codeOneFormSpec.pre6 enc Try.prog Try.f6 Rows.codeOneFormRow.domain false) (Rows.codeOneFormSpec.post enc Try.prog Try.f6 false true false false) := by
  refine returnsInHanded_of_change_sized (C := Try.checked) own started (by kernel_rfl) Try.func6
    (ChangeSpec.witness6 (enc := enc) (C := Try.checked) false ⟨#[], #[.slice none 0 0, .slice none 0 0], []⟩ 20 (by kernel_rfl) (by kernel_rfl) (by kernel_rfl) (by kernel_rfl)) ?_
  intro W base args ds gs before hval0 hW hcnd hsz0 _
  have hval : ∀ (j : Nat) t v, Try.f6.params[j]? = some t → args[j]? = some v → Value.okWide Try.prog W .any base t v := hval0
  have hsz : (DataW.weightsEach Try.prog (Try.f6.params.toList ++ []) (ds ++ gs)).all (fun x => decide (x ≤ reachBytes)) = true := hsz0
  have hW' := hW
  obtain ⟨p, q, hA0, hV, rfl, hfz, hnd⟩ := hW
  have hA : DataW.TrodAll enc Try.prog W 0 (fun _ => true) true Try.f6.params.toList args.toList ds p := hA0
  rw [Try.params6] at hA hval hsz
  obtain ⟨v0, vs0, d0, ds0, p0, q0, hargs, rfl, rfl, h0, r0⟩ := trodAll_cons hA
  obtain ⟨v1, vs1, d1, ds1, p1, q1, rfl, rfl, rfl, h1, r1⟩ := trodAll_cons r0
  obtain ⟨rfl, rfl, rfl⟩ := trodAll_nil r1
  obtain rfl : args = #[v0, v1] := by cases args; simp_all
  obtain ⟨rfl, rfl⟩ := trodVars_none hV
  clear hA0 hval0
  simp only [List.append_nil] at hW' hsz
  have hw : DataW.weightsEach Try.prog [32, 32] [d0, d1] = d0.weights Try.prog 32 ++ d1.weights Try.prog 32 := by
    simp [DataW.weightsEach]
  have hsz' : (DataW.weightsEach Try.prog [32, 32] [d0, d1]).all (fun x => decide (x ≤ reachBytes)) = true := hsz
  rw [hw] at hsz'
  have hlt0 : ∀ x ∈ p0, x.block < W.heap.size := fun x hx => hW'.lt x (by simp [hx])
  have hlt1 : ∀ x ∈ p1, x.block < W.heap.size := fun x hx => hW'.lt x (by simp [hx])
  obtain ⟨a0, A0, c0, rfl, m0⟩ := bytes_arg (hval 0 32 v0 rfl rfl) h0 (fun x hx => all_le hsz' (by simp [hx]))
  obtain ⟨a1, A1, c1, rfl, m1⟩ := bytes_arg (hval 1 32 v1 rfl rfl) h1 (fun x hx => all_le hsz' (by simp [hx]))
  refine (codeoneform_any A0 A1 a0 a1 c0 c1 W m0 m1).mono fun e W' ⟨he, hb⟩ => ?_
  subst he
  refine ⟨_, rfl, [d0, d1], [], p0 ++ p1, [], p0 ++ p1, [], hW', ?_, ?_, ?_, hb.frame _, fun h => by cases h⟩
  · exact trodAll_cons_mk (shut_bool Try.underlying4 _) trodAll_mk0
  · have := trodAll_cons_mk (Below.trod laidOut readBy rowBy h0 hb hlt0) (trodAll_cons_mk (Below.trod laidOut readBy rowBy h1 hb hlt1) (trodAll_mk0 (P := Try.prog) (enc := enc) (w := W') (base := 0) (spare := fun b => decide (b < W.heap.size)) (held := true)))
    rw [List.append_nil] at this
    exact this
  · rfl
theorem over : Rows.codeOneFormRow.holds Try.pinned (OpenSpec.ofChange Rows.codeOneFormSpec) :=
  OpenClaim.holds_of_wide 6 Try.f6 rfl rfl rfl rfl rfl rfl rfl ⟨rfl, rfl, rfl, rfl, rfl⟩ rfl rfl rfl rfl rfl (by kernel_rfl) Try.func6 (by kernel_rfl)
    (of_decide_eq_true (by kernel_rfl)) (by unfold Func.isWrapper; first | (rw [if_pos (by decide +kernel)]; kernel_rfl) | (rw [if_neg (by decide +kernel)]; exact ⟨rfl, rfl⟩))
    (fun os started H enc _ => lifted os started H enc)
theorem proved : Rows.CodeOneFormSaid := over
end Go.Proofs.Ytnclpdgbjefpmaa.codeOneForm
namespace Go.Proofs.Ytnclpdgbjefpmaa
/-- THE STATEMENT, AS IT IS HANDED IN. -/
theorem codeOneForm_holds : Rows.CodeOneFormSaid := codeOneForm.proved
end Go.Proofs.Ytnclpdgbjefpmaa
