import Derived.Test.YtodamoblnlcodaaDoorWlk
import Derived.Test.YtodamoblnlcodaaDoorCkk
import Derived.Test.YtodamoblnlcodaaDoorDfp
namespace Go.Proofs.YtodamoblnlcodaaDoor.L
open Go.RowKit Go.Shelf
set_option linter.unusedVariables false
set_option maxHeartbeats 4000000 in
theorem diff_no (v1 v2 : Value) (l1 l2 : List Lb) (w : World) (h1 : Came w v1 l1) (h2 : Came w v2 l2) (g1 : Good l1) (g2 : Good l2) (h : ¬ ((checkN l1).2 = 0 ∧ (checkN l2).2 = 0)) : Calls Tryd.prog 8 #[v1, v2] w (DiffPost w [] []) := by
  have H1 := hid (fun W (hb : Below w.heap.size w W) => islist_any v1 l1 W (h1.low hb).items g1)
  have H2 := hid (fun W (hb : Below w.heap.size w W) => islist_any v2 l2 W (h2.low hb).items g2)
  clear h1 h2 g1 g2
  by_cases c1 : (checkN l1).2 = 0
  · have c2 : ((checkN l2).2 == 0) = false := by simp; exact fun e => h ⟨c1, e⟩
    rw [c1] at H1
    rw [c2] at H2
    clear c1 c2 h
    go_enter Tryd.func8, Tryd.ntmps8
    go_wp2_with fail
    have b0 : Below w.heap.size w ((w.alloc (.cells #[.slice none 0 0] 22)).alloc (.cells #[.slice none 0 0] 22)) := (belowA w _).alloc (by simp) _
    refine (H1.out _ b0).mono ?_
    rintro e w1 ⟨rfl, hb⟩
    have BX := one_box w (.slice none 0 0) (.slice none 0 0) 22 22
    have X1 := hid (BX.low hb (by simp))
    have B1 := hid (b0.trans (hb.mono b0.size))
    have Z1 := hid (show w.heap.size + 1 < w1.heap.size from Nat.lt_of_lt_of_le (by simp) hb.size)
    clear hb BX b0
    go_wp2_with fail
    refine (H2.out _ B1.out).mono ?_
    rintro e w2 ⟨rfl, hb⟩
    have X2 := hid (X1.out.low hb Z1.out)
    have B2 := hid (B1.out.trans (hb.mono B1.out.size))
    have Z2 := hid (Nat.lt_of_lt_of_le Z1.out hb.size)
    clear hb X1 B1 Z1
    go_wp2_with fail
    go_ret
    exact ⟨_, _, rfl, B2.out, X2.out.c1, X2.out.c2, Or.inl ⟨rfl, rfl⟩, Or.inl ⟨rfl, rfl⟩, Z2.out, fun _ _ _ _ _ h => absurd rfl h, fun _ _ _ _ _ h => absurd rfl h⟩
  · have c2 : ((checkN l1).2 == 0) = false := by simpa using c1
    rw [c2] at H1
    clear c1 c2 h
    go_enter Tryd.func8, Tryd.ntmps8
    go_wp2_with fail
    have b0 : Below w.heap.size w ((w.alloc (.cells #[.slice none 0 0] 22)).alloc (.cells #[.slice none 0 0] 22)) := (belowA w _).alloc (by simp) _
    refine (H1.out _ b0).mono ?_
    rintro e w1 ⟨rfl, hb⟩
    have BX := one_box w (.slice none 0 0) (.slice none 0 0) 22 22
    have X1 := hid (BX.low hb (by simp))
    have B1 := hid (b0.trans (hb.mono b0.size))
    have Z1 := hid (show w.heap.size + 1 < w1.heap.size from Nat.lt_of_lt_of_le (by simp) hb.size)
    clear hb BX b0
    go_wp2_with fail
    go_ret
    exact ⟨_, _, rfl, B1.out, X1.out.c1, X1.out.c2, Or.inl ⟨rfl, rfl⟩, Or.inl ⟨rfl, rfl⟩, Z1.out, fun _ _ _ _ _ h => absurd rfl h, fun _ _ _ _ _ h => absurd rfl h⟩
/-- What differs, of any lists. -/
def dfA (a b : List Lb) : List Df := if (checkN a).2 = 0 ∧ (checkN b).2 = 0 then df a b else []
theorem dfA_len (a b : List Lb) : (dfA a b).length ≤ 64 := by
  unfold dfA
  split
  · rename_i h
    have h1 := (check_iff h.1).len
    have h2 := (check_iff h.2).len
    have := df_len _ a b (Nat.le_refl _)
    omega
  · exact Nat.zero_le _
theorem walk_all (v1 v2 : Value) (l1 l2 : List Lb) (w : World) (h1 : Came w v1 l1) (h2 : Came w v2 l2) (g1 : Good l1) (g2 : Good l2) :
    Calls Tryd.prog 5 #[v1, v2] w fun e w' => ∃ v, e = .returned v ∧ w'.ownsRow w.heap.size 35 5 v (dfA l1 l2).length (cellsD (dfA l1 l2)) ∧ Below w.heap.size w w' := by
  have b0 : Below w.heap.size w (w.alloc (.cells #[.slice none 0 0] 24)) := belowA _ _
  have hl := dfA_len l1 l2
  unfold dfA at hl ⊢
  by_cases h : (checkN l1).2 = 0 ∧ (checkN l2).2 = 0
  · rw [if_pos h] at hl ⊢
    exact walk_of v1 v2 l1 l2 w (diff_ok v1 v2 l1 l2 _ (h1.low b0) (h2.low b0) g1 g2 (check_iff h.1) (check_iff h.2)) hl
  · rw [if_neg h]
    have := walk_of v1 v2 [] [] w (diff_no v1 v2 l1 l2 _ (h1.low b0) (h2.low b0) g1 g2 h) (by rw [df_self]; exact Nat.zero_le _)
    rw [df_self] at this
    exact this
end Go.Proofs.YtodamoblnlcodaaDoor.L
