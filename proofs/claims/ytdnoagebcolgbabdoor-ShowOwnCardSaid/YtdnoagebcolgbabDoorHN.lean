import Derived.Test.YtdnoagebcolgbabDoorHM
namespace Go.Proofs.YtdnoagebcolgbabDoor.L
open Go.RowKit Go.Shelf
set_option linter.unusedVariables false
abbrev T0 : List Pt := [⟨1, ⟨#[]⟩, 0, []⟩, ⟨3, ⟨#[]⟩, 0, [0]⟩]
theorem ok0 : Ok0 T0 := by
  intro j hj
  match j, hj with
  | 0, _ => exact ⟨by decide, rfl, rfl, by decide, by decide, by kernel_rfl, fun x hx => by cases hx⟩
  | 1, _ => exact ⟨by decide, rfl, rfl, by decide, by decide, by kernel_rfl, fun x hx => by simp [T0, pt] at hx; subst hx; kernel_rfl⟩
theorem nests0 : nests T0 = [1, 0] := by kernel_rfl
theorem res0 : Res T0 0 0 := by
  refine Or.inr (Or.inr ⟨by decide, by decide, Or.inr (Or.inr ⟨ok0, ?_, Or.inr ⟨?_, rfl, rfl⟩⟩)⟩)
  · rintro (h | h)
    · exact h (by decide)
    · exact absurd h (by decide)
  · intro j hj
    rw [nests0]
    match j, hj with
    | 0, _ => decide
    | 1, _ => decide
theorem nestr0 : NestR T0 1 := by
  refine ⟨fun j hj => ?_, 0, by decide, by rw [nests0]; rfl⟩
  rw [nests0]
  match j, hj with
  | 0, _ => decide
  | 1, _ => decide
theorem gd0 : GdT T0 := ⟨by decide, fun j hj => by
  match j, hj with
  | 0, _ => decide
  | 1, _ => decide⟩
theorem Fx.pl {w : World} {gp gk : Nat} (h : Fx w gp gk) : PL w (some ⟨gp, 0, none⟩) T0 := by
  obtain ⟨p0, p1, p2, p3, p4, p5, p6, p7, k0⟩ := h.cells
  refine Or.inr ⟨gp, 0, rfl, lt_blk h.row, fun j hj => ?_⟩
  match j, hj with
  | 0, _ => exact ⟨none, 0, p0, p1, p2, p3, Or.inl rfl⟩
  | 1, _ =>
    refine ⟨some ⟨gk, 0, none⟩, 1, p4, p5, p6, p7, Or.inr ⟨gk, 0, rfl, lt_blk h.kid, fun i hi => ?_⟩⟩
    match i, hi with
    | 0, _ => exact k0
theorem err0 {B : Nat} {W : World} {ev : Value} (h : ErrR T0 B W ev) : ev = .nilIface := by
  rcases h with h | ⟨N, c, i, _, _, _, h, h0⟩
  · exact h.1
  · exact absurd (res_one h res0).1 h0
theorem valid0 (gp gk : Nat) (w : World) (h : Fx w gp gk) : Calls Tryd.prog 6 #[.agg #[.slice (some ⟨gp, 0, none⟩) 2 2]] w fun e w' => e = .returned .nilIface ∧ Below w.heap.size w w' := by
  refine (valid_any _ T0 2 w h.pl gd0).mono ?_
  rintro e w' ⟨ev, rfl, l, he⟩
  rw [err0 he]
  exact ⟨rfl, l⟩
theorem nest0 (gp gk : Nat) (w : World) (h : Fx w gp gk) : Calls Tryd.prog 7 #[.agg #[.slice (some ⟨gp, 0, none⟩) 2 2]] w fun e w' => e = .returned (.tuple #[.int .i64 1, .nilIface]) ∧ Below w.heap.size w w' := by
  refine (nest_any _ T0 2 w h.pl gd0).mono ?_
  rintro e w' ⟨m, ev, rfl, l, he, hm⟩
  have e0 := err0 he
  subst e0
  rcases hm with ⟨hm, _⟩ | ⟨_, hm⟩
  · exact absurd rfl hm
  · rw [hm.one nestr0]
    exact ⟨rfl, l⟩
set_option maxHeartbeats 4000000 in
set_option maxRecDepth 100000 in
theorem text0 (gp gk : Nat) (w : World) (h : Fx w gp gk) : Calls Tryd.prog 8 #[.agg #[.slice (some ⟨gp, 0, none⟩) 2 2]] w fun e w' => e = .returned (.tuple #[.string ⟨#[33, 116, 114, 117, 101]⟩, .nilIface]) ∧ Below w.heap.size w w' := by
  have HB0 := hid (belowA w (.cells #[.slice (some ⟨gp, 0, none⟩) 2 2] 24))
  have HX0 := hid (Boxed.new w 24 (.slice (some ⟨gp, 0, none⟩) 2 2))
  have HF := hid (h.low HB0.out)
  clear h
  go_enter Tryd.func8, Tryd.ntmps8
  go_upto_region 1 with (fail)
  generalize w.alloc (.cells #[.slice (some ⟨gp, 0, none⟩) 2 2] 24) = X at *
  have HV := hid (valid0 gp gk X HF.out)
  have xt := HX0.out.cell
  go_upto_region 4 with (go_at_call 6; refine HV.out.mono ?_; rintro e w1 ⟨rfl, l1⟩; have L1 := hid l1; clear l1)
  have HF1 := hid (HF.out.low L1.out)
  have yt := (boxed_low HX0.out L1.out).cell
  have HTO := hid (textof_fixed gp gk w1 HF1.out)
  go_wp2_with (go_at_call 13; refine HTO.out.mono ?_; rintro e w2 ⟨rfl, l2⟩; have L2 := hid l2; clear l2)
  exact bodyPost_ret (v := .tuple #[.string ⟨#[33, 116, 114, 117, 101]⟩, .nilIface]) (by simp [results, Tryd.results8]) rfl ⟨rfl, (HB0.out.trans (L1.out.mono HB0.out.size)).trans (L2.out.mono (Nat.le_trans HB0.out.size L1.out.size))⟩
end Go.Proofs.YtdnoagebcolgbabDoor.L
