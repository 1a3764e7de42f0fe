import Derived.Test.YtkbjjbgmnfngjaaGreatDoorRpu
import Derived.Test.YtkbjjbgmnfngjaaGreatDoorRps
import Derived.Test.YtkbjjbgmnfngjaaGreatDoorGp2
import Derived.Test.YtkbjjbgmnfngjaaGreatDoorMs1
import Derived.Test.YtkbjjbgmnfngjaaGreatDoorMgAB
namespace Go.Proofs.YtkbjjbgmnfngjaaGreatDoor.L
open Go.RowKit
set_option linter.unusedVariables false
theorem items_nil (W : World) : Items W (.slice none 0 0) [] := ⟨none, 0, rfl, Or.inl rfl⟩
theorem sort_same {l l1 l2 : List Lb} (hd : Dist l) (h1 : Sorted l l1) (h2 : l2.Perm l) (hu : Up l2) : l1 = l2 :=
  up_unique (sorted_ok h1 hd) hu fun x => (h1.1.mem_iff).trans h2.mem_iff.symm
theorem pr_len (xs : List ByteArray) (done : List Lb) (p : Nat) (hd : done.length ≤ 32) : (pr xs done p).1.length ≤ 32 := by
  induction xs generalizing done p with
  | nil => exact hd
  | cons x xs ih =>
    unfold pr
    split
    · exact Nat.zero_le _
    · rename_i h
      split
      · split
        · exact Nat.zero_le _
        · exact ih _ _ (by rw [List.length_append]; simp; omega)
      · exact Nat.zero_le _
theorem parse_len (t : ByteArray) : (parseN t).1.length ≤ 64 := by
  unfold parseN
  split
  · exact Nat.zero_le _
  · split
    · exact Nat.zero_le _
    · exact Nat.le_trans (pr_len _ _ _ (Nat.zero_le _)) (by omega)
theorem w_bel {w W0 w1 : World} (B0 : Below w.heap.size w W0) (hb : Below W0.heap.size W0 w1) : Below w.heap.size w w1 := B0.trans (hb.mono B0.size)
theorem put_pure {l : List Lb} {k s : ByteArray} (h : putA l k s = 0) : Dist (delL l k ++ [(k, s)]) ∧ (delL l k ++ [(k, s)]).length ≤ 64 := by
  unfold putA at h
  by_cases e : (checkN l).2 = 0
  · have ho := check_iff e
    exact ⟨dist_put ho.up k s, put_len ho.len k s⟩
  · rw [if_neg e] at h
    exact absurd h e
/-- What came in is a list of differences, or nil. -/
def CameD (W : World) (v : Value) (L : List Df) : Prop := (v = .slice none 0 0 ∧ L = []) ∨ ∃ a cap, v = .slice (some a) L.length cap ∧ (L.length = 0 ∨ ∃ b off, a = ⟨b, off, none⟩ ∧ b < W.heap.size ∧ ∀ j (hj : j < L.length), W.cell? ⟨b, off + j * 5, none⟩ = some (.string L[j].k) ∧ W.cell? ⟨b, off + j * 5 + 1, none⟩ = some (.string L[j].o) ∧ W.cell? ⟨b, off + j * 5 + 2, none⟩ = some (.string L[j].n) ∧ W.cell? ⟨b, off + j * 5 + 3, none⟩ = some (.bool L[j].had) ∧ W.cell? ⟨b, off + j * 5 + 4, none⟩ = some (.bool L[j].has))
theorem CameD.items {W : World} {v : Value} {L : List Df} (h : CameD W v L) : ItemsD W v L := by
  rcases h with ⟨rfl, rfl⟩ | ⟨a, cap, rfl, h⟩
  · exact ⟨none, 0, rfl, Or.inl rfl⟩
  · refine ⟨some a, cap, rfl, ?_⟩
    rcases h with h | ⟨b, off, rfl, h1, h2⟩
    · exact Or.inl h
    · exact Or.inr ⟨b, off, rfl, h1, h2⟩
theorem CameD.low {W W' : World} {v : Value} {L : List Df} (h : CameD W v L) (hb : Below W.heap.size W W') : CameD W' v L := by
  rcases h with h | ⟨a, cap, rfl, h⟩
  · exact Or.inl h
  · refine Or.inr ⟨a, cap, rfl, ?_⟩
    rcases h with h | ⟨b, off, rfl, hl, hc⟩
    · exact Or.inl h
    · refine Or.inr ⟨b, off, rfl, Nat.lt_of_lt_of_le hl hb.size, fun j hj => ?_⟩
      obtain ⟨d0, d1, d2, d3, d4⟩ := hc j hj
      exact ⟨(hb.cell (p := ⟨b, off + j * 5, none⟩) hl).trans d0, (hb.cell (p := ⟨b, off + j * 5 + 1, none⟩) hl).trans d1, (hb.cell (p := ⟨b, off + j * 5 + 2, none⟩) hl).trans d2, (hb.cell (p := ⟨b, off + j * 5 + 3, none⟩) hl).trans d3, (hb.cell (p := ⟨b, off + j * 5 + 4, none⟩) hl).trans d4⟩
theorem cameD_slice {w : World} {v : Value} {L : List Df} (h : CameD w v L) : ∃ a cap, v = .slice a L.length cap := by
  obtain ⟨a, cap, e, _⟩ := h.items
  exact ⟨a, cap, e⟩
theorem cellsD_get (L : List Df) (j : Nat) (u : Value) (h : (cellsD L)[j]? = some u) : ∃ (i : Nat) (hi : i < L.length) (k : Nat), k < 5 ∧ j = i * 5 + k ∧ [Value.string L[i].k, .string L[i].o, .string L[i].n, .bool L[i].had, .bool L[i].has][k]? = some u := by
  have hj : j < L.length * 5 := by
    apply Classical.byContradiction
    intro n
    rw [List.getElem?_eq_none (by rw [cellsD_len]; omega)] at h
    cases h
  have hi : j / 5 < L.length := by omega
  have hk : j % 5 < [Value.string L[j / 5].k, .string L[j / 5].o, .string L[j / 5].n, .bool L[j / 5].had, .bool L[j / 5].has].length := by
    show j % 5 < 5
    omega
  have := cellsD_at L (j / 5) hi (j % 5) _ (List.getElem?_eq_getElem hk)
  rw [show j / 5 * 5 + j % 5 = j by omega, h] at this
  refine ⟨j / 5, hi, j % 5, by omega, by omega, ?_⟩
  rw [List.getElem?_eq_getElem hk]
  exact this.symm
theorem cellsD_uno (L : List Df) : ∀ u ∈ cellsD L, u.oneCell' = true := by
  intro u hu
  obtain ⟨j, hj⟩ := List.getElem?_of_mem hu
  obtain ⟨i, hi, k, hk, _, h⟩ := cellsD_get L j u hj
  match k, hk, h with
  | 0, _, h => simp at h; subst h; rfl
  | 1, _, h => simp at h; subst h; rfl
  | 2, _, h => simp at h; subst h; rfl
  | 3, _, h => simp at h; subst h; rfl
  | 4, _, h => simp at h; subst h; rfl
theorem cellsD_src (L : List Df) (w : World) (b off : Nat) (hc : ∀ j (hj : j < L.length), w.cell? ⟨b, off + j * 5, none⟩ = some (.string L[j].k) ∧ w.cell? ⟨b, off + j * 5 + 1, none⟩ = some (.string L[j].o) ∧ w.cell? ⟨b, off + j * 5 + 2, none⟩ = some (.string L[j].n) ∧ w.cell? ⟨b, off + j * 5 + 3, none⟩ = some (.bool L[j].had) ∧ w.cell? ⟨b, off + j * 5 + 4, none⟩ = some (.bool L[j].has)) :
    ∀ j u, (cellsD L)[j]? = some u → w.cell? ((⟨b, off, none⟩ : Addr).add j) = some u := by
  intro j u hu
  obtain ⟨i, hi, k, hk, rfl, h⟩ := cellsD_get L j u hu
  rw [Go.WideShapes.add_plain]
  obtain ⟨d0, d1, d2, d3, d4⟩ := hc i hi
  match k, hk, h with
  | 0, _, h => simp at h; subst h; exact d0
  | 1, _, h => simp at h; subst h; rw [← Nat.add_assoc]; exact d1
  | 2, _, h => simp at h; subst h; rw [← Nat.add_assoc]; exact d2
  | 3, _, h => simp at h; subst h; rw [← Nat.add_assoc]; exact d3
  | 4, _, h => simp at h; subst h; rw [← Nat.add_assoc]; exact d4
set_option maxHeartbeats 4000000 in
theorem copied_own (v : Value) (l : List Lb) (w : World) (hc : Came w v l) (hg : Good l) : Calls Tryz.prog 14 #[v] w fun e w' => ∃ v', e = .returned v' ∧ Own w' w.heap.size v' l ∧ Below w.heap.size w w' := by
  obtain ⟨i0, hi, hz0, hz1, hz2⟩ := info_parts infoL
  have hl1 := hg.1.1
  have hl2 := hg.1.2
  rcases hc with ⟨rfl, rfl⟩ | ⟨a, cap, rfl, _, h⟩
  · go_enter Tryz.func14, Tryz.ntmps14
    go_wp2_with (first
      | (at_builtin; refine wpList_append_own_none rfl _ _ 22 rfl w.heap.size 36 i0 2 Tryz.underlying22 hi _ 0 [] rfl (World.ownsRow_made w #[] 0 (Nat.le_refl _) (Nat.zero_le _) rfl) rfl ?_)
      | go_in)
    go_ret
    exact ⟨_, rfl, World.ownsRow_made w #[] 0 (Nat.le_refl _) (Nat.zero_le _) rfl, belowA _ _⟩
  · have hcell : ∀ j u, (cellsF l)[j]? = some u → w.cell? (a.add j) = some u := by
      rcases h with h | ⟨b, off, rfl, h1, h2⟩
      · intro j u hu
        have := (cellsF_get l j u hu).1
        omega
      · exact cellsF_src l w b off h2
    have hbl : l.length = 0 ∨ a.block < w.heap.size := by
      rcases h with h | ⟨b, off, rfl, h1, h2⟩
      · exact Or.inl h
      · exact Or.inr h1
    have HC := hid hcell
    have HB := hid hbl
    clear h hcell hbl
    go_enter Tryz.func14, Tryz.ntmps14
    go_wp2_with (first
      | (at_builtin; refine wpList_append_own _ rfl _ _ 22 rfl w.heap.size 36 i0 (.agg #[.string ByteArray.empty, .string ByteArray.empty]) 2 32 Tryz.underlying22 hi hz0 hz1 hz2 rfl (by decide) _ 0 [] rfl (World.ownsRow_made w #[] 0 (Nat.le_refl _) (Nat.zero_le _) rfl) a l.length cap (cellsF l) rfl (cellsF_len l) ?_ (cellsF_one l) (by omega) (by omega) (by simp) ?_)
      | go_in)
    · intro j u hu
      have hj := (cellsF_get l j u hu).1
      have hb : a.block < w.heap.size := by rcases HB.out with h | h <;> omega
      have b1 : Below w.heap.size w (w.alloc (.cells #[] 36)) := belowA _ _
      rw [b1.cell (p := a.add j) (by unfold Addr.add; split <;> exact hb)]
      exact HC.out j u hu
    · intro v' w1 hown hgrow _
      have R := hid (show Own w1 w.heap.size v' l ∧ Below w.heap.size w w1 from ⟨by unfold Own; simpa using hown, (belowA w _).grown hgrow (by simp) (fun k hk => by simp [Value.ownBlock] at hk; omega)⟩)
      clear hown hgrow
      go_wp2
      go_ret
      exact ⟨v', rfl, R.out.1, R.out.2⟩
theorem own_grown {w w' : World} {base : Nat} {v : Value} {l : List Lb} {row : Option Nat} (h : Own w base v l) (hg : w.grownBy w' row) (hr : ∀ k, row = some k → k < base) : Own w' base v l := by
  obtain ⟨h1, h2⟩ := h
  refine ⟨h1, ?_⟩
  rcases h2 with h2 | ⟨g, cap, cur, hv, hb, hh, r⟩
  · exact Or.inl h2
  · refine Or.inr ⟨g, cap, cur, hv, hb, ?_, r⟩
    have hlt : g < w.heap.size := by
      apply Classical.byContradiction
      intro n
      rw [Array.getElem?_eq_none (by omega)] at hh
      cases hh
    rw [hg.block g hlt (fun e => by have := hr g e.symm; omega)]
    exact hh
theorem patch_pure {l : List Lb} {L : List Df} (h : patA l L = 0) : Dist (kept L l ++ newly L) ∧ (kept L l ++ newly L).length ≤ 64 := by
  unfold patA at h
  by_cases e : (checkN l).2 = 0
  · rw [if_pos e] at h
    by_cases f : pdE l ByteArray.empty L = 0
    · rw [if_pos f] at h
      by_cases g : 32 < (kept L l ++ newly L).length
      · rw [if_pos g] at h
        simp at h
      · exact ⟨pat_dist (check_iff e) f, by omega⟩
    · rw [if_neg f] at h
      exact absurd h f
  · rw [if_neg e] at h
    exact absurd h e

/-- The answers of a call that answers a list or a fault. -/
def An (E : List Lb → Int) (S : List Lb → List Lb) (l l' : List Lb) : Prop := (E l ≠ 0 ∧ l' = []) ∨ (E l = 0 ∧ l'.Perm (S l) ∧ Up l')
theorem an_uni {E : List Lb → Int} {S : List Lb → List Lb} (l x y : List Lb) (h1 : An E S l x) (h2 : An E S l y) : x = y := by
  rcases h1 with ⟨a, rfl⟩ | ⟨a, b, c⟩
  · rcases h2 with ⟨_, rfl⟩ | ⟨a', _⟩
    · rfl
    · exact absurd a' a
  · rcases h2 with ⟨a', _⟩ | ⟨_, b', c'⟩
    · exact absurd a a'
    · exact up_unique c c' fun z => b.mem_iff.trans b'.mem_iff.symm
theorem an_len {E : List Lb → Int} {S : List Lb → List Lb} (hS : ∀ l, E l = 0 → (S l).length ≤ 64) (l x : List Lb) (h : An E S l x) : x.length ≤ maxLen ∧ x.length * 32 ≤ 140737488351232 := by
  rcases h with ⟨_, rfl⟩ | ⟨a, b, _⟩
  · exact ⟨Nat.zero_le _, Nat.zero_le _⟩
  · have := hS l a
    rw [b.length_eq]
    unfold maxLen
    omega
theorem an_own {E : List Lb → Int} {S : List Lb → List Lb} {l l1 : List Lb} {v : Value} {w : World} {base : Nat} (hd : E l = 0 → Dist (S l)) (h : (E l ≠ 0 ∧ v = .slice none 0 0) ∨ (E l = 0 ∧ Own w base v l1 ∧ Sorted (S l) l1)) : ∃ l', Own w base v l' ∧ An E S l l' := by
  rcases h with ⟨a, rfl⟩ | ⟨a, b, c⟩
  · exact ⟨[], own_nil _ _, Or.inl ⟨a, rfl⟩⟩
  · exact ⟨l1, b, Or.inr ⟨a, c.1, sorted_ok c (hd a)⟩⟩
theorem an_want {E : List Lb → Int} {S : List Lb → List Lb} {l l1 : List Lb} {v : Value} {w : World} {base : Nat} (h : (E l ≠ 0 ∧ v = .slice none 0 0) ∨ (E l = 0 ∧ Own w base v l1 ∧ l1.Perm (S l) ∧ Up l1)) : ∃ l', Own w base v l' ∧ An E S l l' := by
  rcases h with ⟨a, rfl⟩ | ⟨a, b, c, d⟩
  · exact ⟨[], own_nil _ _, Or.inl ⟨a, rfl⟩⟩
  · exact ⟨l1, b, Or.inr ⟨a, c, d⟩⟩
/-- What the law asks: both programs, one answer. -/
structure Asks (w : World) (kd : Int) (op : Value) (A : List Lb → List Lb → Prop) : Prop where
  ask : ∀ (W : World) (v : Value) (l : List Lb), Below w.heap.size w W → Came W v l → Good l → Calls Tryz.prog 9 #[.int .i64 kd, v, op] W fun e w' => ∃ v' l', e = .returned v' ∧ Own w' W.heap.size v' l' ∧ A l l' ∧ Below W.heap.size W w'
  want : ∀ (W : World) (v : Value) (l : List Lb), Below w.heap.size w W → Came W v l → Good l → Calls Tryz.prog 10 #[.int .i64 kd, v, op] W fun e w' => ∃ v' l', e = .returned v' ∧ Own w' W.heap.size v' l' ∧ A l l' ∧ Below W.heap.size W w'
  uni : ∀ l x y, A l x → A l y → x = y
  len : ∀ l x, Good l → A l x → x.length ≤ maxLen ∧ x.length * 32 ≤ 140737488351232
theorem eight_all (w : World) (a b c d e f g h : Value) (t : TypeId) : ∀ i v, [a, b, c, d, e, f, g, h][i]? = some v → (w.alloc (.cells #[a, b, c, d, e, f, g, h] t)).cell? ⟨w.heap.size, i, none⟩ = some v := by
  intro i v hv
  have h : (w.alloc (.cells #[a, b, c, d, e, f, g, h] t)).heap[w.heap.size]? = some (.cells #[a, b, c, d, e, f, g, h] t) := by
    show (w.heap.push _)[w.heap.size]? = _
    simp
  unfold World.cell?
  rw [h]
  simpa using hv
end Go.Proofs.YtkbjjbgmnfngjaaGreatDoor.L
