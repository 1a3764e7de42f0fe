import Derived.Test.YtkagdmhijjfnnabDoorNl3
import Derived.Test.YtkagdmhijjfnnabDoorAls
namespace Go.Proofs.YtkagdmhijjfnnabDoor
open Go.RowKit Bs
set_option linter.unusedVariables false
/-- A set over the row q, or none. -/
def SO (w : World) (v : Value) (q n : Nat) (S : Nat → Bool) : Prop := (v = .pointer none ∧ n = 0 ∧ ∀ i, S i = false) ∨ ∃ p, v = .pointer (some ⟨p, 0, none⟩) ∧ SetAt w p q n S
theorem SetAt.so {w : World} {p q n : Nat} {S : Nat → Bool} (h : SetAt w p q n S) : SO w (.pointer (some ⟨p, 0, none⟩)) q n S := Or.inr ⟨p, rfl, h⟩
theorem SO.hn {w : World} {v : Value} {q n : Nat} {S : Nat → Bool} (h : SO w v q n S) : n ≤ 65536 := by
  rcases h with ⟨_, rfl, _⟩ | ⟨p, _, h⟩
  · omega
  · exact h.hn
theorem SO.low {w w' : World} {v : Value} {q n : Nat} {S : Nat → Bool} (h : SO w v q n S) (k : Below w.heap.size w w') : SO w' v q n S := by
  rcases h with h | ⟨p, e, h⟩
  · exact Or.inl h
  · exact Or.inr ⟨p, e, h.low k⟩
theorem SO.bound {w : World} {v : Value} {q n : Nat} {S : Nat → Bool} (h : SO w v q n S) (i : Nat) (hi : S i = true) : i < n := by
  rcases h with ⟨_, _, h⟩ | ⟨p, _, h⟩
  · rw [h] at hi; cases hi
  · exact h.bound i hi
theorem SO.turn {w : World} {v : Value} {q n : Nat} {S T : Nat → Bool} (h : SO w v q n S) (k : ∀ i, S i = T i) : SO w v q n T := by
  rcases h with ⟨a, b, h⟩ | ⟨p, e, h⟩
  · exact Or.inl ⟨a, b, fun i => by rw [← k, h]⟩
  · exact Or.inr ⟨p, e, h.turn k⟩
/-- A struct's block is no row's. -/
theorem SetAt.pne {w : World} {p q n p' q' n' : Nat} {S T : Nat → Bool} (h : SetAt w p q n S) (h' : SetAt w p' q' n' T) : p ≠ q' := by
  obtain ⟨ws, x, _⟩ := h
  obtain ⟨vs, y, _⟩ := h'
  intro e
  have a := x.hp
  rw [e, y.hq] at a
  injection a with a
  injection a with a b
  exact absurd b (by decide)
theorem SO.keep {w w' : World} {v : Value} {q n p' q' n' : Nat} {S T : Nat → Bool} (h : SO w v q n S) (h' : SetAt w p' q' n' T) (k : Chg q' w w') (hq : q ≠ q') : SO w' v q n S := by
  rcases h with h | ⟨p, e, h⟩
  · exact Or.inl h
  · exact Or.inr ⟨p, e, h.keep k (h.pne h') hq⟩
theorem size_o {v : Value} {q n : Nat} {S : Nat → Bool} (w : World) (h : SO w v q n S) : Calls Tryd.prog 21 #[v] w fun e w' => e = .returned (.int .i64 n) ∧ w' = w := by
  rcases h with ⟨rfl, rfl, _⟩ | ⟨p, rfl, h⟩
  · exact size_nil w
  · exact size_any w h
theorem widened_o {v : Value} {q n : Nat} {S : Nat → Bool} (m : Nat) (w : World) (h : SO w v q n S) (hm : m ≤ 65536) :
    Calls Tryd.prog 53 #[v, .int .i64 m] w fun e w' => e = .returned (.pointer (some ⟨w.heap.size + 1, 0, none⟩)) ∧ SetAt w' (w.heap.size + 1) w.heap.size (max n m) S ∧ Below w.heap.size w w' := by
  rcases h with ⟨rfl, rfl, hS⟩ | ⟨p, rfl, h⟩
  · refine (widened_nil m w hm).mono ?_
    rintro e w' ⟨rfl, a, b⟩
    refine ⟨rfl, ?_, b⟩
    rw [Nat.zero_max]
    exact ⟨_, a, fun i => by rw [hS i]; simp [mem, List.getD_eq_getElem?_getD, List.getElem?_replicate]; split <;> simp⟩
  · exact widened_set m w h hm
set_option maxHeartbeats 400000 in
theorem clone_o {v : Value} {q n : Nat} {S : Nat → Bool} (w : World) (h : SO w v q n S) :
    Calls Tryd.prog 26 #[v] w fun e w' => ∃ p q, e = .returned (.pointer (some ⟨p, 0, none⟩)) ∧ Fresh w w' p q n S := by
  have HI := hid h
  clear h
  go_enter Tryd.func26, Tryd.ntmps26
  go_wp2_with fail
  refine (widened_o 0 _ HI.out (by omega)).mono ?_
  rintro e w1 ⟨rfl, hs, hb⟩
  rw [Nat.max_zero] at hs
  go_wp2_with fail
  go_ret
  exact ⟨_, _, rfl, by omega, Nat.le_refl _, hs, hb⟩
theorem opW_nil_and (ws : List Nat) (i : Nat) : mem (opW (· &&& ·) ws []) i = false := by
  rw [mem_and]
  simp [mem]
theorem andwith_o {p q n : Nat} {v : Value} {q' n' : Nat} {S T : Nat → Bool} (w : World) (h : SetAt w p q n S) (h' : SO w v q' n' T) (ha : q ≠ q' ∨ v = .pointer (some ⟨p, 0, none⟩)) :
    Calls Tryd.prog 18 #[.pointer (some ⟨p, 0, none⟩), v] w fun e w' => e = .returned (.tuple #[]) ∧ SetAt w' p q n (fun i => S i && T i) ∧ Chg q w w' := by
  rcases h' with ⟨rfl, rfl, hT⟩ | ⟨p', rfl, h'⟩
  · obtain ⟨ws, x, hx⟩ := h
    refine (andwith_nilr p q n ws w x).mono ?_
    rintro e w' ⟨rfl, hg, hr⟩
    refine ⟨rfl, ⟨_, x.put hg hr (length_opW _ _ _) (x.wd.opW (fun a ha => by cases ha) (fun a b ha _ => and_lt a b ha)) (fun i hi => opW_nil_and ws i), fun i => ?_⟩, hg⟩
    rw [opW_nil_and]; simp [hT]
  · refine andwith_any w h h' ?_
    rcases ha with ha | ha
    · exact Or.inr ha
    · injection ha with ha; injection ha with ha; injection ha with ha
      exact Or.inl ha.symm
theorem andnotwith_o {p q n : Nat} {v : Value} {q' n' : Nat} {S T : Nat → Bool} (w : World) (h : SetAt w p q n S) (h' : SO w v q' n' T) (ha : q ≠ q' ∨ v = .pointer (some ⟨p, 0, none⟩)) :
    Calls Tryd.prog 20 #[.pointer (some ⟨p, 0, none⟩), v] w fun e w' => e = .returned (.tuple #[]) ∧ SetAt w' p q n (fun i => S i && !T i) ∧ Chg q w w' := by
  rcases h' with ⟨rfl, rfl, hT⟩ | ⟨p', rfl, h'⟩
  · obtain ⟨ws, x, hx⟩ := h
    refine (andnotwith_nilr p q n ws w x).mono ?_
    rintro e w' ⟨rfl, rfl⟩
    exact ⟨rfl, ⟨ws, x, fun i => by rw [hx]; simp [hT]⟩, Chg.refl _ _⟩
  · refine andnotwith_any w h h' ?_
    rcases ha with ha | ha
    · exact Or.inr ha
    · injection ha with ha; injection ha with ha; injection ha with ha
      exact Or.inl ha.symm
theorem orwith_o {p q n : Nat} {v : Value} {q' n' : Nat} {S T : Nat → Bool} (w : World) (h : SetAt w p q n S) (h' : SO w v q' n' T) (ha : q ≠ q' ∨ v = .pointer (some ⟨p, 0, none⟩)) :
    Calls Tryd.prog 19 #[.pointer (some ⟨p, 0, none⟩), v] w fun e w' => e = .returned (.tuple #[]) ∧ SetAt w' p q n (fun i => (S i || T i) && decide (i < n)) ∧ Chg q w w' := by
  rcases h' with ⟨rfl, rfl, hT⟩ | ⟨p', rfl, h'⟩
  · have hbd := h.bound
    obtain ⟨ws, x, hx⟩ := h
    refine (orwith_nilr p q n ws w x).mono ?_
    rintro e w' ⟨rfl, hg, hr⟩
    have hm : ∀ i, mem (cutW n ws) i = ((S i || T i) && decide (i < n)) := fun i => by
      rw [mem_cutW n _ x.hl, hx, hT]; simp
    refine ⟨rfl, ⟨_, x.put hg hr (length_cutW _ _) (x.wd.cutW n) (fun i hi => ?_), hm⟩, hg⟩
    rw [hm]
    simp; omega
  · refine orwith_any w h h' ?_
    rcases ha with ha | ha
    · exact Or.inr ha
    · injection ha with ha; injection ha with ha; injection ha with ha
      exact Or.inl ha.symm
end Go.Proofs.YtkagdmhijjfnnabDoor
