import Derived.Test.YtnlohjcjboelgabRows
import Derived.Test.YtnlohjcjboelgabRoom
import Derived.Test.YtnlohjcjboelgabOpen
import Derived.SizedLaws
namespace Go.Proofs.Ytnlohjcjboelgab.quantRoom
open Go.ChangeShapes Go.WideShapes Go.ChangeAt Go.RowKit Go.Joins L
set_option linter.unusedVariables false
set_option maxRecDepth 100000 in
theorem lifted (os : Os) (started : os.Started) (H : Type) (enc : TypeId × Value → H) :
    ReturnsInHanded {} Try.checked os 4 .any (Rows.quantRoomSpec.pre6 enc Try.prog Try.f4 Rows.quantRoomRow.domain false) (Rows.quantRoomSpec.post enc Try.prog Try.f4 false true false false) := by
  refine returnsInHanded_of_change_sized (C := Try.checked) own started (by kernel_rfl) Try.func4
    (ChangeSpec.witness6 (enc := enc) (C := Try.checked) false ⟨#[], #[.slice none 0 0, .slice none 0 0, .slice none 0 0], []⟩ 8 (by kernel_rfl) (by kernel_rfl) (by kernel_rfl) (by kernel_rfl)) ?_
  intro W base args ds gs before hval0 hW hcnd hsz0 _
  have hval : ∀ (j : Nat) t v, Try.f4.params[j]? = some t → args[j]? = some v → Value.okWide Try.prog W .any base t v := hval0
  have hsz : (DataW.weightsEach Try.prog (Try.f4.params.toList ++ []) (ds ++ gs)).all (fun x => decide (x ≤ reachBytes)) = true := hsz0
  have hW' := hW
  obtain ⟨p, q, hA0, hV, rfl, hfz, hnd⟩ := hW
  have hA : DataW.TrodAll enc Try.prog W 0 (fun _ => true) true Try.f4.params.toList args.toList ds p := hA0
  rw [Try.params4] at hA hval hsz
  obtain ⟨v0, vs0, d0, ds0, p0, q0, hargs, rfl, rfl, h0, r0⟩ := trodAll_cons hA
  obtain ⟨v1, vs1, d1, ds1, p1, q1, rfl, rfl, rfl, h1, r1⟩ := trodAll_cons r0
  obtain ⟨v2, vs2, d2, ds2, p2, q2, rfl, rfl, rfl, h2, r2⟩ := trodAll_cons r1
  obtain ⟨rfl, rfl, rfl⟩ := trodAll_nil r2
  obtain rfl : args = #[v0, v1, v2] := by cases args; simp_all
  obtain ⟨rfl, rfl⟩ := trodVars_none hV
  clear hA0 hval0
  simp only [List.append_nil] at hW' hsz
  have hw : DataW.weightsEach Try.prog [22, 22, 22] [d0, d1, d2] = d0.weights Try.prog 22 ++ (d1.weights Try.prog 22 ++ d2.weights Try.prog 22) := by
    simp [DataW.weightsEach]
  have hsz' : (DataW.weightsEach Try.prog [22, 22, 22] [d0, d1, d2]).all (fun x => decide (x ≤ reachBytes)) = true := hsz
  rw [hw] at hsz'
  have hlt0 : ∀ x ∈ p0, x.block < W.heap.size := fun x hx => hW'.lt x (by simp [hx])
  have hlt1 : ∀ x ∈ p1, x.block < W.heap.size := fun x hx => hW'.lt x (by simp [hx])
  have hlt2 : ∀ x ∈ p2, x.block < W.heap.size := fun x hx => hW'.lt x (by simp [hx])
  obtain ⟨l0, m0, g0⟩ := came_open (hval 0 22 v0 rfl rfl) h0 (fun x hx => all_le hsz' (by simp [hx]))
  obtain ⟨l1, m1, g1⟩ := came_open (hval 1 22 v1 rfl rfl) h1 (fun x hx => all_le hsz' (by simp [hx]))
  obtain ⟨l2, m2, g2⟩ := came_open (hval 2 22 v2 rfl rfl) h2 (fun x hx => all_le hsz' (by simp [hx]))
  refine (room_walk v0 v1 v2 l0 l1 l2 W m0 m1 m2 g0 g1 g2).mono fun e W' ⟨he, hb⟩ => ?_
  subst he
  refine ⟨_, rfl, [d0, d1, d2], [], p0 ++ (p1 ++ p2), [], p0 ++ (p1 ++ p2), [], hW', ?_, ?_, ?_, hb.frame _, fun h => by cases h⟩
  · exact trodAll_cons_mk (shut_bool Try.underlying4 _) trodAll_mk0
  · have := trodAll_cons_mk (reads_stay h0 hb hlt0) (trodAll_cons_mk (reads_stay h1 hb hlt1) (trodAll_cons_mk (reads_stay h2 hb hlt2) (trodAll_mk0 (P := Try.prog) (enc := enc) (w := W') (base := 0) (spare := fun b => decide (b < W.heap.size)) (held := true))))
    rw [List.append_nil] at this
    exact this
  · rfl
theorem over : Rows.quantRoomRow.holds Try.pinned (OpenSpec.ofChange Rows.quantRoomSpec) :=
  OpenClaim.holds_of_wide 4 Try.f4 rfl rfl rfl rfl rfl rfl rfl ⟨rfl, rfl, rfl, rfl, rfl⟩ rfl rfl rfl rfl rfl (by kernel_rfl) Try.func4 (by kernel_rfl)
    (of_decide_eq_true (by kernel_rfl)) (by unfold Func.isWrapper; first | (rw [if_pos (by decide +kernel)]; kernel_rfl) | (rw [if_neg (by decide +kernel)]; exact ⟨rfl, rfl⟩))
    (fun os started H enc _ => lifted os started H enc)
theorem proved : Rows.QuantRoomSaid := over
end Go.Proofs.Ytnlohjcjboelgab.quantRoom
namespace Go.Proofs.Ytnlohjcjboelgab
/-- THE STATEMENT, AS IT IS HANDED IN. -/
theorem quantRoom_holds : Rows.QuantRoomSaid := quantRoom.proved
end Go.Proofs.Ytnlohjcjboelgab
