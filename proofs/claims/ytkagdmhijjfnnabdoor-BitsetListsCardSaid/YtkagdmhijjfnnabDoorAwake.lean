import Derived.Test.YtkagdmhijjfnnabDoorMem
namespace Go.Proofs.YtkagdmhijjfnnabDoor
open Go.RowKit Bs
theorem Tab.pos {w : World} (h : Tab w) : 0 < w.heap.size := block_lt_of_cell (h 0 (by decide))
theorem five (ws : List Nat) (hl : ws.length = 1) (wd : Wd ws) (hm : ∀ i, mem ws i = decide ((i : Int) ∈ ([2, 0] : List Int))) : ws = [5] := by
  match ws, hl with
  | [x], _ =>
    have hx : x < 18446744073709551616 := wd x (by simp)
    rw [word_ext x 5 hx (by decide) (fun b hb => ?_)]
    have e := hm b
    unfold mem at e
    rw [show b / 64 = 0 by omega, show b % 64 = b by omega] at e
    simp only [List.getD_cons_zero] at e
    rw [e]
    have : ∀ c : Fin 64, decide (((c.val : Nat) : Int) ∈ ([2, 0] : List Int)) = Nat.testBit 5 c.val := by decide
    exact this ⟨b, hb⟩
theorem holds_two {w : World} {v : Value} {a b : Int} (h : Holds w v [a, b]) : ∃ g off cap, v = .slice (some ⟨g, off, none⟩) 2 cap ∧ w.cell? ⟨g, off, none⟩ = some (.int .i64 a) ∧ w.cell? ⟨g, off + 1, none⟩ = some (.int .i64 b) := by
  rcases h.ex with ⟨_, h⟩ | ⟨g, off, cap, h, hc⟩
  · cases h
  · exact ⟨g, off, cap, h, hc 0 (by simp), hc 1 (by simp)⟩
theorem from_three (b : Nat) (w : World) (h0 : w.cell? ⟨b, 0, none⟩ = some (.int .i64 2)) (h1 : w.cell? ⟨b, 1, none⟩ = some (.int .i64 0)) :
    Calls Tryd.prog 37 #[.int .i64 3, .slice (some ⟨b, 0, none⟩) 2 2] w fun e w' => e = .returned (.tuple #[.pointer (some ⟨w.heap.size + 1, 0, none⟩), .int .i64 0]) ∧
      IsSet w' (w.heap.size + 1) w.heap.size 3 [5] ∧ Below w.heap.size w w' := by
  have h := from_some 3 b 0 2 [2, 0] w (by decide) (by decide) (fun j hj => by
    match j, hj with
    | 0, _ => exact h0
    | 1, _ => exact h1) (by decide)
  refine Calls.mono (R := _) h ?_
  rintro e w' ⟨rfl, ⟨ws, hs, hm⟩, hb⟩
  have hws := five ws hs.hl hs.wd hm
  subst hws
  exact ⟨rfl, hs, hb⟩
set_option maxRecDepth 100000 in
set_option maxHeartbeats 1000000 in
theorem awake_any (w : World) (ht : Tab w) : Calls Tryd.prog 6 #[] w fun e w' => e = .returned (.bool true) ∧ Below w.heap.size w w' := by
  have HT := hid ht
  have h0 := ht.pos
  clear ht
  go_enter Tryd.func6, Tryd.ntmps6
  go_wp2_with fail
  refine (from_three w.heap.size _ (by simp) (by simp)).mono ?_
  rintro e w1 ⟨rfl, hs, hb⟩
  have hb1 : Below w.heap.size w w1 := ((Below.refl w.heap.size w).alloc (Nat.le_refl _) _).trans (hb.mono (by simp))
  rw [World.size_alloc] at hs
  have HS := hid hs
  have HB1 := hid hb1
  clear hs hb hb1
  go_wp2_with fail
  refine (num_any _ _).mono ?_
  rintro e w2 ⟨rfl, hww⟩
  subst hww
  go_wp2_with fail
  refine (members_words _ _ _ _ _ HS.out (HT.out.low HB1.out h0)).mono ?_
  rintro e w3 ⟨v, rfl, hown, hb3⟩
  have hh : Holds w3 v [0, 2] := by
    have e : msL [5].length [5] = [0, 2] := by decide +kernel
    rw [e] at hown
    exact holds_of_owns hown
  obtain ⟨g, off, cap, hv, hc0, hc1⟩ := holds_two hh
  have HB3 := hid (belowT HB1.out hb3)
  clear hown hb3 hh
  rw [hv]
  clear hv
  go_wp2_with fail
  go_ret
  exact ⟨rfl, HB3.out⟩
set_option maxHeartbeats 1000000 in
theorem of_nil (n : Nat) (a : Option Addr) (cap : Nat) (w : World) (hn : n ≤ 65536) : Calls Tryd.prog 8 #[.int .i64 n, .slice a 0 cap] w fun e w' => ∃ p q, e = .returned (.pointer (some ⟨p, 0, none⟩)) ∧ w.heap.size ≤ p ∧ w.heap.size ≤ q ∧ SetAt w' p q n (fun _ => false) ∧ Below w.heap.size w w' := by
  go_enter Tryd.func8, Tryd.ntmps8
  go_wp2_with fail
  go_loopw [5, 6] (fun v i wr => v = .slice none 0 0 ∧ i = .int .i64 0 ∧ wr = w) (fun _ _ _ => 0)
  case atStart => exact ⟨rfl, rfl, rfl⟩
  case round =>
    obtain ⟨rfl, rfl, rfl⟩ := hrel
    go_wp2_with (go_at_call 37; refine (from_none n _ hn).mono ?_; rintro e w2 ⟨rfl, ⟨ws, hs, hm⟩, hb2⟩)
    go_ret
    exact ⟨_, _, rfl, by omega, Nat.le_refl _, ⟨ws, hs, hm⟩, hb2⟩
/-- A slice of numbers as it comes in. -/
def Ints (w : World) (v : Value) (zs : List Int) : Prop := (∃ a cap, v = .slice a 0 cap ∧ zs = []) ∨ ∃ b off cap, v = .slice (some ⟨b, off, none⟩) zs.length cap ∧ b < w.heap.size ∧ ∀ j, j < zs.length → w.cell? ⟨b, off + j, none⟩ = some (.int .i64 (zs.getD j 0))
theorem Ints.low {w w' : World} {v : Value} {zs : List Int} (h : Ints w v zs) (k : Below w.heap.size w w') : Ints w' v zs := by
  rcases h with h | ⟨b, off, cap, h1, h2, h3⟩
  · exact Or.inl h
  · exact Or.inr ⟨b, off, cap, h1, Nat.lt_of_lt_of_le h2 k.size, fun j hj => (k.cell (p := ⟨b, off + j, none⟩) h2).trans (h3 j hj)⟩
/-- of. -/
theorem of_any (n : Nat) (v : Value) (zs : List Int) (w : World) (hn : n ≤ 65536) (hreach : zs.length * 8 ≤ 140737488351232) (h : Ints w v zs) :
    Calls Tryd.prog 8 #[.int .i64 n, v] w fun e w' => ∃ p q, e = .returned (.pointer (some ⟨p, 0, none⟩)) ∧ w.heap.size ≤ p ∧ w.heap.size ≤ q ∧ SetAt w' p q n (fun i => decide ((i : Int) ∈ inU n zs zs.length)) ∧ Below w.heap.size w w' := by
  rcases h with ⟨a, cap, rfl, rfl⟩ | ⟨b, off, cap, rfl, _, hc⟩
  · refine (of_nil n a cap w hn).mono ?_
    rintro e w' ⟨p, q, rfl, h1, h2, h3, h4⟩
    exact ⟨p, q, rfl, h1, h2, h3.turn (fun i => by simp [inU]), h4⟩
  · exact of_some n b off cap zs w hn hreach hc
end Go.Proofs.YtkagdmhijjfnnabDoor
