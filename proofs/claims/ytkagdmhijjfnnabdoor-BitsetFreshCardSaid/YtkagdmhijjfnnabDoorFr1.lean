import Derived.Test.YtkagdmhijjfnnabDoorNl7
namespace Go.Proofs.YtkagdmhijjfnnabDoor
open Go.RowKit Bs
set_option linter.unusedVariables false
/-- S turned at the place i. -/
def tog (n : Nat) (S : Nat → Bool) (i : Int) : Nat → Bool := fun j => if (j : Int) = i ∧ j < n then !S j else S j
theorem tog_tog (n : Nat) (S : Nat → Bool) (i : Int) : tog n (tog n S i) i = S := by
  funext j
  unfold tog
  by_cases h : (j : Int) = i ∧ j < n
  · simp [h]
  · simp [h]
theorem Tab.ne {w : World} {p q n : Nat} {S : Nat → Bool} (ht : Tab w) (h : SetAt w p q n S) : q ≠ 0 := by
  rintro rfl
  obtain ⟨ws, x, _⟩ := h
  have a := ht 0 (by decide)
  rw [cell_of_row w 0 0 _ _ _ x.hq] at a
  by_cases hl : 0 < ws.length
  · rw [row_get ws 0 hl] at a
    injection a with a
    cases a
  · have : ws = [] := List.eq_nil_of_length_eq_zero (by omega)
    subst this
    cases a
theorem Tab.chg {w w' : World} {q : Nat} (ht : Tab w) (k : Chg q w w') (hq : q ≠ 0) : Tab w' :=
  fun j hj => (k.cell (p := ⟨0, j, none⟩) (by show 0 ≠ q; omega) ht.pos).trans (ht j hj)
set_option maxHeartbeats 400000 in
theorem turn_set {p q n : Nat} {S : Nat → Bool} (i : Int) (w : World) (h : SetAt w p q n S) :
    Calls Tryd.prog 63 #[.pointer (some ⟨p, 0, none⟩), .int .i64 i] w fun e w' => e = .returned (.tuple #[]) ∧ SetAt w' p q n (tog n S i) ∧ Chg q w w' := by
  have hbd := h.bound
  have HA := hid (add_all i w h)
  clear h
  obtain ⟨b, hb⟩ : ∃ b, b = outB n S i := ⟨_, rfl⟩
  rw [← hb] at HA
  cases b
  · have e1 : ∀ j, cutS (putS n S i) i j = tog n S i j := by
      intro j
      unfold cutS putS tog
      unfold outB at hb
      by_cases h : (j : Int) = i
      · by_cases hj : j < n
        · have hi : 0 ≤ i ∧ i < n := by omega
          have ht : i.toNat = j := by omega
          rw [ht] at hb
          have hs : S j = true := by
            cases e : S j
            · rw [e] at hb; simp at hb; omega
            · rfl
          simp [h, hj, hs]
        · have : S j = false := by
            cases e : S j
            · rfl
            · exact absurd (hbd j e) hj
          simp [h, hj, this]
      · simp [h]
    have E1 := hid e1
    clear e1 hb hbd
    go_enter Tryd.func63, Tryd.ntmps63
    go_wp2_with fail
    refine HA.out.mono ?_
    rintro e w1 ⟨rfl, hs, hg⟩
    have HG := hid hg
    have HS := hid hs
    clear hg hs
    go_wp2_with fail
    refine (rem_all i _ HS.out).mono ?_
    rintro e w2 ⟨⟨b, rfl⟩, hs, hg⟩
    have HG2 := hid hg
    have HS2 := hid hs
    clear hg hs
    go_wp2_with fail
    go_end0
    exact ⟨rfl, HS2.out.turn E1.out, HG.out.trans HG2.out⟩
  · have e1 : ∀ j, putS n S i j = tog n S i j := by
      intro j
      unfold putS tog
      unfold outB at hb
      by_cases h : (j : Int) = i
      · have hb' : (decide (0 ≤ i ∧ i < n) && !S i.toNat) = true := hb.symm
        rw [Bool.and_eq_true] at hb'
        have hi := of_decide_eq_true hb'.1
        have ht : i.toNat = j := by omega
        have hs := hb'.2
        rw [ht] at hs
        have hj : j < n := by omega
        have : S j = false := by simpa using hs
        simp [h, hj, this]
      · simp [h]
    have E1 := hid e1
    clear e1 hb hbd
    go_enter Tryd.func63, Tryd.ntmps63
    go_wp2_with fail
    refine HA.out.mono ?_
    rintro e w1 ⟨rfl, hs, hg⟩
    have HG := hid hg
    have HS := hid hs
    clear hg hs
    go_wp2_with fail
    go_end0
    exact ⟨rfl, HS.out.turn E1.out, HG.out⟩
set_option maxHeartbeats 400000 in
theorem turn_nil (i : Int) (w : World) : Calls Tryd.prog 63 #[.pointer none, .int .i64 i] w fun e w' => e = .returned (.tuple #[]) ∧ Below w.heap.size w w' := by
  go_enter Tryd.func63, Tryd.ntmps63
  go_wp2_with fail
  refine (add_nil i _).mono ?_
  rintro e w1 ⟨rfl, hww⟩
  subst hww
  go_wp2_with fail
  refine (remove_nil i _).mono ?_
  rintro e w2 ⟨rfl, m, rfl⟩
  go_wp2_with fail
  go_end0
  exact ⟨rfl, belowDrewN m⟩
theorem turn_o {v : Value} {q n : Nat} {S : Nat → Bool} (i : Int) (w : World) (h : SO w v q n S) (ht : Tab w) :
    Calls Tryd.prog 63 #[v, .int .i64 i] w fun e w' => e = .returned (.tuple #[]) ∧ SO w' v q n (tog n S i) ∧ Tab w' ∧ Chg q w w' := by
  rcases h with ⟨rfl, rfl, hS⟩ | ⟨p, rfl, h⟩
  · refine (turn_nil i w).mono ?_
    rintro e w' ⟨rfl, hb⟩
    exact ⟨rfl, Or.inl ⟨rfl, rfl, fun j => by simp [tog, hS]⟩, ht.low hb ht.pos, Chg.of hb⟩
  · refine (turn_set i w h).mono ?_
    rintro e w' ⟨rfl, hs, hg⟩
    exact ⟨rfl, hs.so, ht.chg hg (ht.ne h), hg⟩
/-- What the call of this number answers: the size and the set. -/
def szK (kind na nb : Nat) : Nat := if kind = 5 then na else if kind = 4 then nb else max na nb
def opK (kind : Nat) (A B : Nat → Bool) : Nat → Bool := fun i =>
  match kind with
  | 0 => A i && B i
  | 1 => A i || B i
  | 2 => A i && !B i
  | 3 => A i ^^ B i
  | 4 => B i && !A i
  | _ => A i
set_option maxHeartbeats 1000000 in
theorem two_o {v v' : Value} {q n q' n' : Nat} {S T : Nat → Bool} (kind : Nat) (hk : kind < 6) (w : World) (h : SO w v q n S) (h' : SO w v' q' n' T) :
    Calls Tryd.prog 62 #[.int .i64 kind, v, v'] w fun e w' => ∃ p q, e = .returned (.pointer (some ⟨p, 0, none⟩)) ∧ Fresh w w' p q (szK kind n n') (opK kind S T) := by
  have H0 := hid (and_o w h h')
  have H1 := hid (or_o w h h')
  have H2 := hid (andnot_o w h h')
  have H3 := hid (xor_o w h h')
  have H4 := hid (not_o w h h')
  have H5 := hid (clone_o w h)
  clear h h'
  obtain rfl | rfl | rfl | rfl | rfl | rfl : kind = 0 ∨ kind = 1 ∨ kind = 2 ∨ kind = 3 ∨ kind = 4 ∨ kind = 5 := by omega
  · go_enter Tryd.func62, Tryd.ntmps62
    go_wp2_with (go_at_call 27; refine H0.out.mono ?_; rintro e w1 ⟨p, q, rfl, f⟩)
    go_ret
    exact ⟨_, _, rfl, f⟩
  · go_enter Tryd.func62, Tryd.ntmps62
    go_wp2_with (go_at_call 28; refine H1.out.mono ?_; rintro e w1 ⟨p, q, rfl, f⟩)
    go_ret
    exact ⟨_, _, rfl, f⟩
  · go_enter Tryd.func62, Tryd.ntmps62
    go_wp2_with (go_at_call 29; refine H2.out.mono ?_; rintro e w1 ⟨p, q, rfl, f⟩)
    go_ret
    exact ⟨_, _, rfl, f⟩
  · go_enter Tryd.func62, Tryd.ntmps62
    go_wp2_with (go_at_call 30; refine H3.out.mono ?_; rintro e w1 ⟨p, q, rfl, f⟩)
    go_ret
    exact ⟨_, _, rfl, f⟩
  · go_enter Tryd.func62, Tryd.ntmps62
    go_wp2_with (go_at_call 31; refine H4.out.mono ?_; rintro e w1 ⟨p, q, rfl, f⟩)
    go_ret
    exact ⟨_, _, rfl, f⟩
  · go_enter Tryd.func62, Tryd.ntmps62
    go_wp2_with (go_at_call 26; refine H5.out.mono ?_; rintro e w1 ⟨p, q, rfl, f⟩)
    go_ret
    exact ⟨_, _, rfl, f⟩
end Go.Proofs.YtkagdmhijjfnnabDoor
