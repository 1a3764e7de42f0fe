import Derived.Test.YtkbjjbgmnfngjaaGreatDoorRgt
import Derived.Test.YtkbjjbgmnfngjaaGreatDoorPrs
namespace Go.Proofs.YtkbjjbgmnfngjaaGreatDoor.L
open Go.RowKit
set_option linter.unusedVariables false
set_option maxHeartbeats 8000000 in
set_option maxRecDepth 100000 in
theorem rput_any (v : Value) (l : List Lb) (k s : ByteArray) (w : World) (hi : Items w v l) (hg : Good l) (hk : k.size ≤ maxLen) (hs : s.size ≤ maxLen) :
    Calls Tryz.prog 28 #[v, .string k, .string s] w fun e w' => ∃ v' l', e = .returned (.tuple #[v', .int .i64 (putA l k s)]) ∧ Below w.heap.size w w' ∧ ((putA l k s ≠ 0 ∧ v' = .slice none 0 0) ∨ (putA l k s = 0 ∧ Own w' w.heap.size v' l' ∧ l'.Perm (delL l k ++ [(k, s)]) ∧ Up l')) := by
  obtain ⟨i0, hi0, hz0, hz1, hz2⟩ := info_parts infoL
  have F0 := hid (rcheck_any v l w hi hg)
  have F1 := hid (fun W => rkey_any k W hk)
  have F2 := hid (fun W => rvalue_any s W hs)
  have F3 := hid (fun W (hb : Below w.heap.size w W) => rfind_any v l k W (hi.low hb) hg.1.1)
  have F4 := hid (fun W (hb : Below w.heap.size w W) => rwithout_any v l k W (hi.low hb) hg)
  have FC := hid (find_cases l k)
  obtain ⟨a, cap, rfl⟩ : ∃ a cap, v = .slice a l.length cap := by
    obtain ⟨a, cap, e, _⟩ := hi
    exact ⟨a, cap, e⟩
  obtain ⟨E, hE⟩ : ∃ E, E = putA l k s := ⟨_, rfl⟩
  rw [← hE]
  unfold putA putE labE at hE
  have hlm := hg.1.1
  unfold maxLen at hlm
  clear hi hg
  rcases check_cases l with ⟨ho, ec⟩ | h
  · rw [ec] at F0 hE
    simp only [if_true] at hE
    have hl32 := ho.len
    have HDI := hid (dist_put ho.up k s)
    have HLN := hid (put_len ho.len k s)
    have HDL := hid (del_len l k)
    cases e1 : keyB k
    · rw [e1] at F1 hE
      simp only [if_true, show ¬ ((31 : Int) = 0) by decide, if_false] at hE
      subst hE
      generalize findN l k = fN at *
      go_enter Tryz.func28, Tryz.ntmps28
      go_wp2_with fail
      refine F0.out.mono ?_
      rintro e w0 ⟨rfl, hb⟩
      have B0 := hid hb
      clear hb
      go_wp2_with fail
      refine (F1.out _).mono ?_
      rintro e w1 ⟨rfl, hb⟩
      have B1 := hid (B0.out.trans (hb.mono B0.out.size))
      clear hb
      go_wp2_with fail
      refine (F2.out _).mono ?_
      rintro e w2 ⟨rfl, hw⟩; subst hw
      go_wp2_with fail
      refine (F3.out _ B1.out).mono ?_
      rintro e w2 ⟨rfl, hw⟩; subst hw
      go_wp2_with fail
      go_ret2
      exact ⟨_, [], rfl, B1.out, Or.inl ⟨by decide, rfl⟩⟩
    · rw [e1] at F1 hE
      cases e2 : valB s
      · rw [e2] at F2 hE
        simp only [Bool.true_eq_false, if_true, if_false, show ¬ ((32 : Int) = 0) by decide] at hE
        subst hE
        generalize findN l k = fN at *
        go_enter Tryz.func28, Tryz.ntmps28
        go_wp2_with fail
        refine F0.out.mono ?_
        rintro e w0 ⟨rfl, hb⟩
        have B0 := hid hb
        clear hb
        go_wp2_with fail
        refine (F1.out _).mono ?_
        rintro e w1 ⟨rfl, hb⟩
        have B1 := hid (B0.out.trans (hb.mono B0.out.size))
        clear hb
        go_wp2_with fail
        refine (F2.out _).mono ?_
        rintro e w2 ⟨rfl, hw⟩; subst hw
        go_wp2_with fail
        refine (F3.out _ B1.out).mono ?_
        rintro e w2 ⟨rfl, hw⟩; subst hw
        go_wp2_with fail
        go_ret2
        exact ⟨_, [], rfl, B1.out, Or.inl ⟨by decide, rfl⟩⟩
      · rw [e2] at F2 hE
        simp only [Bool.true_eq_false, if_true, if_false] at hE
        rcases FC.out with ⟨f1, _, f3⟩ | ⟨j, hj, f1, _, f4, _⟩
        · rw [f1] at F3
          have hds := del_self f3
          clear f1 f3 FC
          by_cases h32 : l.length = 32
          · rw [hds, if_pos h32] at hE
            subst hE
            have g32 : (32 : Int) ≤ (l.length : Int) := by omega
            generalize l.length = len at *
            clear h32
            go_enter Tryz.func28, Tryz.ntmps28
            go_wp2_with fail
            refine F0.out.mono ?_
            rintro e w0 ⟨rfl, hb⟩
            have B0 := hid hb
            clear hb
            go_wp2_with fail
            refine (F1.out _).mono ?_
            rintro e w1 ⟨rfl, hb⟩
            have B1 := hid (B0.out.trans (hb.mono B0.out.size))
            clear hb
            go_wp2_with fail
            refine (F2.out _).mono ?_
            rintro e w2 ⟨rfl, hw⟩; subst hw
            go_wp2_with fail
            refine (F3.out _ B1.out).mono ?_
            rintro e w2 ⟨rfl, hw⟩; subst hw
            go_wp2_with fail
            go_ret2
            exact ⟨_, [], rfl, B1.out, Or.inl ⟨by decide, rfl⟩⟩
          · rw [hds, if_neg h32] at hE
            subst hE
            have g32 : ¬ (32 : Int) ≤ (l.length : Int) := by omega
            go_enter Tryz.func28, Tryz.ntmps28
            go_wp2_with fail
            refine F0.out.mono ?_
            rintro e w0 ⟨rfl, hb⟩
            have B0 := hid hb
            clear hb
            go_wp2_with fail
            refine (F1.out _).mono ?_
            rintro e w1 ⟨rfl, hb⟩
            have B1 := hid (B0.out.trans (hb.mono B0.out.size))
            clear hb
            go_wp2_with fail
            refine (F2.out _).mono ?_
            rintro e w2 ⟨rfl, hw⟩; subst hw
            go_wp2_with fail
            refine (F3.out _ B1.out).mono ?_
            rintro e w2 ⟨rfl, hw⟩; subst hw
            go_wp2_with fail
            refine (F4.out _ B1.out).mono ?_
            rintro e w3 ⟨v3, rfl, ho3, hb⟩
            have O3 := hid ho3
            have B3 := hid (B1.out.trans (hb.mono B1.out.size))
            have hws : w2.heap.size ≤ w3.heap.size := hb.size
            obtain ⟨a3, c3, rfl⟩ := own_slice ho3
            have hdl3 := HDL.out
            have R4 := hid (fun W V (h : Own W w2.heap.size V (delL l k ++ [(k, s)])) => rrise_any V _ W (own_items h) HLN.out HDI.out)
            have B13 := hid hb
            clear hb ho3
            obtain ⟨dn, hdn⟩ : ∃ n, n = (delL l k).length := ⟨_, rfl⟩
            have HDN := hid hdn
            have O3b := hid (show Own w3 w2.heap.size (.slice a3 dn c3) (delL l k) by have := O3.out; rwa [← HDN.out] at this)
            rw [← hdn] at hdl3 ⊢
            clear hdn
            go_wp2_with (first
              | (at_builtin; refine wpList_append_own _ rfl _ _ 22 rfl w2.heap.size 36 i0 (.agg #[.string ByteArray.empty, .string ByteArray.empty]) 2 32 Tryz.underlying22 hi0 hz0 hz1 hz2 rfl (by decide) _ _ _ rfl (World.ownsRow.alloc (show w3.ownsRow w2.heap.size 36 2 (.slice a3 dn c3) dn (cellsF (delL l k)) from by have := O3b.out; unfold Own at this; rw [← HDN.out] at this; exact this) _) ⟨w3.heap.size, 0, none⟩ 1 1 [.string k, .string s] rfl rfl (cell_two_at _ _ _ _ _ (by simp)) (fun x hx => by simp at hx; rcases hx with rfl | rfl <;> rfl) (by unfold maxLen; omega) (by omega) (by simp; omega) ?_; intro v' w4 hown' hgrow4 hnil4; clear hnil4; have O4 := hid (show Own w4 w2.heap.size v' (delL l k ++ [(k, s)]) from own_snoc (x := (k, s)) (by rw [← HDN.out]; exact hown')); have B4 := hid (show Below w.heap.size w w4 from B1.out.trans ((((Below.refl w2.heap.size w2).trans (B13.out)).alloc hws _).grown hgrow4 (by simp; omega) (fun j hj => own_base O3b.out j hj) |>.mono B1.out.size)); clear hown' hgrow4))
            refine (R4.out _ _ O4.out).mono ?_
            rintro e w5 ⟨v5, l5, rfl, i5, p5, u5, hb⟩
            have B5 := hid (B4.out.trans (hb.mono B4.out.size))
            have R5 := hid (show Own w5 w.heap.size v5 l5 ∧ l5.Perm (delL l k ++ [(k, s)]) ∧ Up l5 from ⟨own_mono i5 B4.out.size, p5, u5⟩)
            clear hb i5 p5 u5
            go_wp2_with fail
            go_ret2
            exact ⟨_, l5, rfl, B5.out, Or.inr ⟨by first | rfl | trivial, R5.out⟩⟩
        · rw [f1] at F3
          have hdl := del_less hj f4
          rw [if_neg (by omega)] at hE
          subst hE
          have g0 : ¬ (j : Int) < 0 := by omega
          clear f1 f4 FC
          go_enter Tryz.func28, Tryz.ntmps28
          go_wp2_with fail
          refine F0.out.mono ?_
          rintro e w0 ⟨rfl, hb⟩
          have B0 := hid hb
          clear hb
          go_wp2_with fail
          refine (F1.out _).mono ?_
          rintro e w1 ⟨rfl, hb⟩
          have B1 := hid (B0.out.trans (hb.mono B0.out.size))
          clear hb
          go_wp2_with fail
          refine (F2.out _).mono ?_
          rintro e w2 ⟨rfl, hw⟩; subst hw
          go_wp2_with fail
          refine (F3.out _ B1.out).mono ?_
          rintro e w2 ⟨rfl, hw⟩; subst hw
          go_wp2_with fail
          refine (F4.out _ B1.out).mono ?_
          rintro e w3 ⟨v3, rfl, ho3, hb⟩
          have O3 := hid ho3
          have B3 := hid (B1.out.trans (hb.mono B1.out.size))
          have hws : w2.heap.size ≤ w3.heap.size := hb.size
          obtain ⟨a3, c3, rfl⟩ := own_slice ho3
          have hdl3 := HDL.out
          have R4 := hid (fun W V (h : Own W w2.heap.size V (delL l k ++ [(k, s)])) => rrise_any V _ W (own_items h) HLN.out HDI.out)
          have B13 := hid hb
          clear hb ho3
          obtain ⟨dn, hdn⟩ : ∃ n, n = (delL l k).length := ⟨_, rfl⟩
          have HDN := hid hdn
          have O3b := hid (show Own w3 w2.heap.size (.slice a3 dn c3) (delL l k) by have := O3.out; rwa [← HDN.out] at this)
          rw [← hdn] at hdl3 ⊢
          clear hdn
          go_wp2_with (first
            | (at_builtin; refine wpList_append_own _ rfl _ _ 22 rfl w2.heap.size 36 i0 (.agg #[.string ByteArray.empty, .string ByteArray.empty]) 2 32 Tryz.underlying22 hi0 hz0 hz1 hz2 rfl (by decide) _ _ _ rfl (World.ownsRow.alloc (show w3.ownsRow w2.heap.size 36 2 (.slice a3 dn c3) dn (cellsF (delL l k)) from by have := O3b.out; unfold Own at this; rw [← HDN.out] at this; exact this) _) ⟨w3.heap.size, 0, none⟩ 1 1 [.string k, .string s] rfl rfl (cell_two_at _ _ _ _ _ (by simp)) (fun x hx => by simp at hx; rcases hx with rfl | rfl <;> rfl) (by unfold maxLen; omega) (by omega) (by simp; omega) ?_; intro v' w4 hown' hgrow4 hnil4; clear hnil4; have O4 := hid (show Own w4 w2.heap.size v' (delL l k ++ [(k, s)]) from own_snoc (x := (k, s)) (by rw [← HDN.out]; exact hown')); have B4 := hid (show Below w.heap.size w w4 from B1.out.trans ((((Below.refl w2.heap.size w2).trans (B13.out)).alloc hws _).grown hgrow4 (by simp; omega) (fun j hj => own_base O3b.out j hj) |>.mono B1.out.size)); clear hown' hgrow4))
          refine (R4.out _ _ O4.out).mono ?_
          rintro e w5 ⟨v5, l5, rfl, i5, p5, u5, hb⟩
          have B5 := hid (B4.out.trans (hb.mono B4.out.size))
          have R5 := hid (show Own w5 w.heap.size v5 l5 ∧ l5.Perm (delL l k ++ [(k, s)]) ∧ Up l5 from ⟨own_mono i5 B4.out.size, p5, u5⟩)
          clear hb i5 p5 u5
          go_wp2_with fail
          go_ret2
          exact ⟨_, l5, rfl, B5.out, Or.inr ⟨by first | rfl | trivial, R5.out⟩⟩
  · have hne : ((checkN l).2 != 0) = true := by simpa using h
    rw [if_neg h] at hE
    generalize findN l k = fN at *
    generalize keyB k = kB at *
    generalize valB s = vB at *
    generalize checkN l = r at *
    obtain ⟨r1, r2⟩ := r
    simp only at hE hne h F0
    subst hE
    go_enter Tryz.func28, Tryz.ntmps28
    go_wp2_with fail
    refine F0.out.mono ?_
    rintro e w0 ⟨rfl, hb⟩
    have B0 := hid hb
    clear hb
    go_wp2_with fail
    refine (F1.out _).mono ?_
    rintro e w1 ⟨rfl, hb⟩
    have B1 := hid (B0.out.trans (hb.mono B0.out.size))
    clear hb
    go_wp2_with fail
    refine (F2.out _).mono ?_
    rintro e w2 ⟨rfl, hw⟩; subst hw
    go_wp2_with fail
    refine (F3.out _ B1.out).mono ?_
    rintro e w2 ⟨rfl, hw⟩; subst hw
    go_wp2_with fail
    go_ret2
    exact ⟨_, [], rfl, B1.out, Or.inl ⟨h, rfl⟩⟩
end Go.Proofs.YtkbjjbgmnfngjaaGreatDoor.L
