import Derived.Test.YtbplmglddinkdaaDoorX8
import Derived.Test.YtbplmglddinkdaaDoorX3
namespace Go.Proofs.YtbplmglddinkdaaDoor.L
open Go.RowKit Go.Shelf
set_option linter.unusedVariables false
/-- What a text in quotes comes to. -/
def unqS (s : ByteArray) : TR :=
  if 4096 < s.size then .bad 110 4096 else if bt s 0 ≠ 34 then .bad 111 0 else
  match txS s 0 1 [] with
  | .bad c a => .bad c a
  | .ok l e => if e < s.size then .bad 111 e else .ok l e
def UQ (r : TR) (w : World) (e : Ending) (w' : World) : Prop :=
  match r with
  | .ok l _ => e = .returned (.tuple #[.string ⟨l.toArray⟩, .nilIface]) ∧ Below w.heap.size w w'
  | .bad c a => ∃ N, e = .returned (.tuple #[.string ⟨#[]⟩, fv N]) ∧ Flt w' N c a ∧ w.heap.size ≤ N ∧ Below w.heap.size w w'
theorem empty_no {s : ByteArray} (h : s.size ≠ 0) : s.toList.isEmpty = false ∧ ¬ s.toList = [] := by
  have h' : ¬ s.toList = [] := by
    intro e
    rw [ByteArray.toList_eq] at e
    exact h (by simpa using congrArg List.length e)
  refine ⟨?_, h'⟩
  cases hx : s.toList with
  | nil => exact absurd hx h'
  | cons a l => rfl
set_option maxHeartbeats 4000000 in
theorem unq_any (s : ByteArray) (w : World) (hm : s.size ≤ 140737488351232) : Calls Tryd.prog 17 #[.string s] w fun e w' => UQ (unqS s) w e w' := by
  have FA := hid (fun (c : Nat) (a : Nat) (W : World) => fault_any c a W)
  obtain ⟨R, hR⟩ : ∃ R, unqS s = R := ⟨_, rfl⟩
  rw [hR]
  unfold unqS at hR
  by_cases h4 : 4096 < s.size
  · rw [if_pos h4] at hR
    subst hR
    have HT := hid (toolong_yes s w h4)
    unfold fv at HT
    go_enter Tryd.func17, Tryd.ntmps17
    go_wp2_with (go_at_call 23; refine HT.out.mono ?_; rintro e w1 ⟨rfl, f1, l1⟩; have F1 := hid f1; have L1 := hid l1; clear f1 l1)
    go_ret2
    exact ⟨_, rfl, F1.out, Nat.le_refl _, L1.out⟩
  · rw [if_neg h4] at hR
    have HT := hid (toolong_no s w (by omega))
    by_cases h0 : s.size = 0
    · have b0 : bt s 0 ≠ 34 := by rw [bt_out s 0 (by omega)]; decide
      rw [if_pos b0] at hR
      subst hR
      obtain rfl : s = ⟨#[]⟩ := ByteArray.ext (Array.eq_empty_of_size_eq_zero h0)
      have HF := hid (FA.out 111 0 w)
      go_enter Tryd.func17, Tryd.ntmps17
      go_wp2_with (first | (go_at_call 23; refine HT.out.mono ?_; rintro e w1 ⟨rfl, hww⟩; have hw2 := hww.symm; clear hww; subst hw2) | (go_at_call 28; refine HF.out.mono ?_; rintro e w1 ⟨he, f1, l1⟩; unfold fv at he; subst he; have F1 := hid f1; have L1 := hid l1; clear f1 l1))
      go_ret2
      exact ⟨_, rfl, F1.out, Nat.le_refl _, L1.out⟩
    · have hlt : 0 < s.size := by omega
      have hc := iv_get s 0 hlt
      obtain ⟨hne, hne2⟩ := empty_no h0
      by_cases b0 : bt s 0 ≠ 34
      · rw [if_pos b0] at hR
        subst hR
        have HF := hid (FA.out 111 0 w)
        have g := ne_iv b0
        rw [show iv 34 = 34 from rfl] at g
        have g2 : (iv (bt s 0) != 34) = true := by simpa using g
        generalize iv (bt s 0) = x at *
        go_enter Tryd.func17, Tryd.ntmps17
        go_wp2_with (first | (go_at_call 23; refine HT.out.mono ?_; rintro e w1 ⟨rfl, hww⟩; have hw2 := hww.symm; clear hww; subst hw2) | (go_at_call 28; refine HF.out.mono ?_; rintro e w1 ⟨he, f1, l1⟩; unfold fv at he; subst he; have F1 := hid f1; have L1 := hid l1; clear f1 l1))
        go_ret2
        exact ⟨_, rfl, F1.out, Nat.le_refl _, L1.out⟩
      · rw [if_neg b0] at hR
        have b0 : bt s 0 = 34 := Classical.byContradiction b0
        rw [b0, show iv 34 = 34 from rfl] at hc
        have HX := hid (readtext_any s 0 w (by omega) hlt)
        cases hT : txS s 0 1 [] with
        | bad c a =>
          rw [hT] at hR
          simp only at hR
          subst hR
          rw [show txS s 0 (0 + 1) [] = TR.bad c a from hT] at HX
          go_enter Tryd.func17, Tryd.ntmps17
          go_wp2_with (first | (go_at_call 23; refine HT.out.mono ?_; rintro e w1 ⟨rfl, hww⟩; have hw2 := hww.symm; clear hww; subst hw2) | (go_at_call 29; refine HX.out.mono ?_; rintro e w1 ⟨N, he, f1, n1, l1⟩; unfold fv tv tok0 at he; subst he; have F1 := hid f1; have L1 := hid l1; have N1 := hid n1; clear f1 l1 n1))
          go_ret2
          exact ⟨_, rfl, F1.out.low (belowA w1 _) F1.out.lt, N1.out, L1.out.alloc L1.out.size _⟩
        | ok l k =>
          rw [hT] at hR
          simp only at hR
          rw [show txS s 0 (0 + 1) [] = TR.ok l k from hT] at HX
          by_cases hk : k < s.size
          · rw [if_pos hk] at hR
            subst hR
            have HF := hid (fun W => FA.out 111 k W)
            have hk' : (k : Int) < (s.size : Int) := by omega
            go_enter Tryd.func17, Tryd.ntmps17
            go_wp2_with (first | (go_at_call 23; refine HT.out.mono ?_; rintro e w1 ⟨rfl, hww⟩; have hw2 := hww.symm; clear hww; subst hw2) | (go_at_call 29; refine HX.out.mono ?_; rintro e w1 ⟨he, l1⟩; unfold tv at he; subst he; have L1 := hid l1; clear l1) | (go_at_call 28; refine (HF.out _).mono ?_; rintro e w2 ⟨he, f2, l2⟩; unfold fv at he; subst he; have F2 := hid f2; have L2 := hid l2; clear f2 l2))
            go_ret2
            exact ⟨_, rfl, by have := F2.out; rw [World.size_alloc] at this; exact this, by have := L1.out.size; omega, (L1.out.alloc L1.out.size _).trans (L2.out.mono (by have := L1.out.size; simp; omega))⟩
          · rw [if_neg hk] at hR
            subst hR
            have hk' : ¬ (k : Int) < (s.size : Int) := by omega
            go_enter Tryd.func17, Tryd.ntmps17
            go_wp2_with (first | (go_at_call 23; refine HT.out.mono ?_; rintro e w1 ⟨rfl, hww⟩; have hw2 := hww.symm; clear hww; subst hw2) | (go_at_call 29; refine HX.out.mono ?_; rintro e w1 ⟨he, l1⟩; unfold tv at he; subst he; have L1 := hid l1; clear l1))
            go_ret2
            exact ⟨rfl, L1.out.alloc L1.out.size _⟩
theorem unq_fix : unqS ⟨#[34, 92, 120, 52, 49, 92, 110, 34]⟩ = .ok [65, 10] 8 := by
  have h : txS ⟨#[34, 92, 120, 52, 49, 92, 110, 34]⟩ 0 1 [] = .ok [65, 10] 8 := by
    rw [txS_e _ _ _ _ (by decide) (by decide) (by decide), show 1 + (esc3 ⟨#[34, 92, 120, 52, 49, 92, 110, 34]⟩ 1).2 = 5 by decide, show (esc3 ⟨#[34, 92, 120, 52, 49, 92, 110, 34]⟩ 1).1 = 65 by decide]
    rw [txS_e _ _ _ _ (by decide) (by decide) (by decide), show 5 + (esc3 ⟨#[34, 92, 120, 52, 49, 92, 110, 34]⟩ 5).2 = 7 by decide, show (esc3 ⟨#[34, 92, 120, 52, 49, 92, 110, 34]⟩ 5).1 = 10 by decide]
    rw [txS_q _ _ _ _ (by decide) (by decide)]
    rfl
  unfold unqS
  rw [if_neg (by decide), if_neg (by decide), h]
  rfl
theorem quote_fix : quoteL (⟨#[97, 34, 0, 255]⟩ : ByteArray).data.toList = [34, 97, 92, 34, 92, 120, 48, 48, 92, 120, 102, 102, 34] := by decide
set_option maxHeartbeats 4000000 in
theorem fixq_any (w : World) : Calls Tryd.prog 15 #[] w fun e w' => e = .returned (.bool true) ∧ Below w.heap.size w w' := by
  have HU := hid (unq_any ⟨#[34, 92, 120, 52, 49, 92, 110, 34]⟩ w (by decide))
  rw [unq_fix] at HU
  have HQ := hid (fun W => quote_any ⟨#[97, 34, 0, 255]⟩ W (by decide))
  rw [quote_fix] at HQ
  go_enter Tryd.func15, Tryd.ntmps15
  go_wp2_with (first | (go_at_call 17; refine HU.out.mono ?_; rintro e w1 ⟨he, l1⟩; subst he; have L1 := hid l1; clear l1) | (go_at_call 16; refine (HQ.out _).mono ?_; rintro e w2 ⟨rfl, l2⟩; have L2 := hid l2; clear l2))
  go_ret
  exact ⟨rfl, L1.out.trans (L2.out.mono L1.out.size)⟩
end Go.Proofs.YtbplmglddinkdaaDoor.L
