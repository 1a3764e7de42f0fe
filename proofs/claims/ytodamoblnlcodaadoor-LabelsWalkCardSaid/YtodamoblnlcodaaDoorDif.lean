import Derived.Test.YtodamoblnlcodaaDoorOk
import Derived.Test.YtodamoblnlcodaaDoorPar
import Derived.Lib.SliceRun
namespace Go.Proofs.YtodamoblnlcodaaDoor.L
open Go.RowKit
set_option linter.unusedVariables false
set_option maxHeartbeats 4000000 in
theorem islist_any (v : Value) (l : List Lb) (w : World) (hi : Items w v l) (hg : Good l) : Calls Tryd.prog 17 #[v] w fun e w' => e = .returned (.bool ((checkN l).2 == 0)) ∧ Below w.heap.size w w' := by
  have HC := hid (check_any v l w hi hg)
  generalize checkN l = r at *
  clear hi hg
  go_enter Tryd.func17, Tryd.ntmps17
  go_wp2_with fail
  refine HC.out.mono ?_
  rintro e w1 ⟨rfl, hb⟩
  go_wp2_with fail
  go_ret
  exact ⟨rfl, hb⟩
set_option maxHeartbeats 4000000 in
set_option maxRecDepth 100000 in
theorem clone_any (v : Value) (l : List Lb) (w : World) (hc : Came w v l) (hg : Good l) : Calls Tryd.prog 18 #[v] w fun e w' => ∃ v', e = .returned v' ∧ Came w' v' l ∧ Below w.heap.size w w' := by
  obtain ⟨i0, hi, hz0, hz1, hz2⟩ := info_parts infoL
  have hl1 := hg.1.1
  have hl2 := hg.1.2
  have q28 : ∀ (w : World) (a : Option Addr) (n c n' c' : Nat), (binOp .eql 22 (.slice a n c) (.slice none n' c')).run Tryd.prog w = .ok (.bool a.isNone) w := fun w a n c n' c' => Lib.run_eql_slice_nil w _ _ a n c n' c' Tryd.underlying22
  rcases hc with ⟨rfl, rfl⟩ | ⟨a, cap, rfl, _, h⟩
  · go_enter Tryd.func18, Tryd.ntmps18
    go_wp2
    go_ret
    exact ⟨_, rfl, Or.inl ⟨rfl, rfl⟩, Below.refl _ _⟩
  · have hcell : ∀ j u, (cellsF l)[j]? = some u → w.cell? (a.add j) = some u := by
      rcases h with h | ⟨b, off, rfl, h1, h2⟩
      · intro j u hu
        have := (cellsF_get l j u hu).1
        omega
      · exact cellsF_src l w b off h2
    have hbl : l.length = 0 ∨ a.block < w.heap.size := by
      rcases h with h | ⟨b, off, rfl, h1, h2⟩
      · exact Or.inl h
      · exact Or.inr h1
    have HC := hid hcell
    have HB := hid hbl
    clear h hcell hbl
    go_enter Tryd.func18, Tryd.ntmps18
    go_wp2_with (first
      | (at_builtin; refine wpList_append_own _ rfl _ _ 22 rfl w.heap.size 27 i0 (.agg #[.string ByteArray.empty, .string ByteArray.empty]) 2 32 Tryd.underlying22 hi hz0 hz1 hz2 rfl (by decide) _ 0 [] rfl (World.ownsRow_made w #[] 0 (Nat.le_refl _) (Nat.zero_le _) rfl) a l.length cap (cellsF l) rfl (cellsF_len l) ?_ (cellsF_one l) (by omega) (by omega) (by simp) ?_)
      | go_in)
    · intro j u hu
      have hj := (cellsF_get l j u hu).1
      have hb : a.block < w.heap.size := by rcases HB.out with h | h <;> omega
      have b1 : Below w.heap.size w (w.alloc (.cells #[] 27)) := belowA _ _
      rw [b1.cell (p := a.add j) (by unfold Addr.add; split <;> exact hb)]
      exact HC.out j u hu
    · intro v' w1 hown hgrow _
      have R := hid (show Came w1 v' l ∧ Below w.heap.size w w1 from ⟨own_came hown, (belowA w _).grown hgrow (by simp) (fun k hk => by simp [Value.ownBlock] at hk; omega)⟩)
      clear hown hgrow
      go_wp2
      go_ret
      exact ⟨v', rfl, R.out.1, R.out.2⟩
set_option maxHeartbeats 4000000 in
theorem copied_any (v : Value) (l : List Lb) (w : World) (hc : Came w v l) (hg : Good l) : Calls Tryd.prog 10 #[v] w fun e w' => ∃ v', e = .returned v' ∧ Came w' v' l ∧ Below w.heap.size w w' := by
  obtain ⟨i0, hi, hz0, hz1, hz2⟩ := info_parts infoL
  have hl1 := hg.1.1
  have hl2 := hg.1.2
  rcases hc with ⟨rfl, rfl⟩ | ⟨a, cap, rfl, _, h⟩
  · go_enter Tryd.func10, Tryd.ntmps10
    go_wp2_with (first
      | (at_builtin; refine wpList_append_own_none rfl _ _ 22 rfl w.heap.size 27 i0 2 Tryd.underlying22 hi _ 0 [] rfl (World.ownsRow_made w #[] 0 (Nat.le_refl _) (Nat.zero_le _) rfl) rfl ?_)
      | go_in)
    go_ret
    exact ⟨_, rfl, Or.inr ⟨_, _, rfl, ⟨Nat.le_refl _, Nat.zero_le _⟩, Or.inl rfl⟩, belowA _ _⟩
  · have hcell : ∀ j u, (cellsF l)[j]? = some u → w.cell? (a.add j) = some u := by
      rcases h with h | ⟨b, off, rfl, h1, h2⟩
      · intro j u hu
        have := (cellsF_get l j u hu).1
        omega
      · exact cellsF_src l w b off h2
    have hbl : l.length = 0 ∨ a.block < w.heap.size := by
      rcases h with h | ⟨b, off, rfl, h1, h2⟩
      · exact Or.inl h
      · exact Or.inr h1
    have HC := hid hcell
    have HB := hid hbl
    clear h hcell hbl
    go_enter Tryd.func10, Tryd.ntmps10
    go_wp2_with (first
      | (at_builtin; refine wpList_append_own _ rfl _ _ 22 rfl w.heap.size 27 i0 (.agg #[.string ByteArray.empty, .string ByteArray.empty]) 2 32 Tryd.underlying22 hi hz0 hz1 hz2 rfl (by decide) _ 0 [] rfl (World.ownsRow_made w #[] 0 (Nat.le_refl _) (Nat.zero_le _) rfl) a l.length cap (cellsF l) rfl (cellsF_len l) ?_ (cellsF_one l) (by omega) (by omega) (by simp) ?_)
      | go_in)
    · intro j u hu
      have hj := (cellsF_get l j u hu).1
      have hb : a.block < w.heap.size := by rcases HB.out with h | h <;> omega
      have b1 : Below w.heap.size w (w.alloc (.cells #[] 27)) := belowA _ _
      rw [b1.cell (p := a.add j) (by unfold Addr.add; split <;> exact hb)]
      exact HC.out j u hu
    · intro v' w1 hown hgrow _
      have R := hid (show Came w1 v' l ∧ Below w.heap.size w w1 from ⟨own_came hown, (belowA w _).grown hgrow (by simp) (fun k hk => by simp [Value.ownBlock] at hk; omega)⟩)
      clear hown hgrow
      go_wp2
      go_ret
      exact ⟨v', rfl, R.out.1, R.out.2⟩
/-- Two boxes of one cell, one behind the other. -/
structure Box1 (W : World) (b : Nat) (x y : Value) : Prop where
  c1 : W.cell? ⟨b, 0, none⟩ = some x
  c2 : W.cell? ⟨b + 1, 0, none⟩ = some y
  f1 : W.frozen? ⟨b, 0, none⟩ = false
  f2 : W.frozen? ⟨b + 1, 0, none⟩ = false
theorem one_box (w : World) (x y : Value) (t t' : TypeId) : Box1 ((w.alloc (.cells #[x] t)).alloc (.cells #[y] t')) w.heap.size x y := by
  have h1 : ((w.alloc (.cells #[x] t)).alloc (.cells #[y] t')).heap[w.heap.size + 1]? = some (.cells #[y] t') := by
    show ((w.heap.push _).push _)[w.heap.size + 1]? = _
    rw [Array.getElem?_push, if_pos (by simp)]
  have h2 : ((w.alloc (.cells #[x] t)).alloc (.cells #[y] t')).heap[w.heap.size]? = some (.cells #[x] t) := by
    show ((w.heap.push _).push _)[w.heap.size]? = _
    rw [Array.getElem?_push, if_neg (by simp)]
    simp
  refine ⟨?_, ?_, ?_, ?_⟩
  · unfold World.cell?; rw [h2]; rfl
  · unfold World.cell?; rw [h1]; rfl
  · unfold World.frozen?; rw [h2]; rfl
  · unfold World.frozen?; rw [h1]; rfl
theorem Box1.low {W W' : World} {b : Nat} {x y : Value} (h : Box1 W b x y) (hb : Below W.heap.size W W') (hz : b + 1 < W.heap.size) : Box1 W' b x y :=
  ⟨(hb.cell (p := ⟨b, 0, none⟩) (Nat.lt_of_succ_lt hz)).trans h.c1, (hb.cell (p := ⟨b + 1, 0, none⟩) hz).trans h.c2, (hb.frozen (p := ⟨b, 0, none⟩) (Nat.lt_of_succ_lt hz)).trans h.f1, (hb.frozen (p := ⟨b + 1, 0, none⟩) hz).trans h.f2⟩
theorem came_slice {w : World} {v : Value} {l : List Lb} (h : Came w v l) : ∃ a cap, v = .slice a l.length cap := by
  obtain ⟨a, cap, e, _⟩ := h.items
  exact ⟨a, cap, e⟩
set_option maxHeartbeats 4000000 in
theorem diff_yes (v1 v2 : Value) (l1 l2 : List Lb) (w : World) (h1 : Came w v1 l1) (h2 : Came w v2 l2) (g1 : Good l1) (g2 : Good l2) (o1 : OkL l1) (o2 : OkL l2) : Calls Tryd.prog 8 #[v1, v2] w fun e w' => ∃ fn, e = .returned (.func (.func 19) #[] fn) ∧ Below w.heap.size w w' := by
  have H1 := hid (fun W (hb : Below w.heap.size w W) => islist_any v1 l1 W (h1.low hb).items g1)
  have H2 := hid (fun W (hb : Below w.heap.size w W) => islist_any v2 l2 W (h2.low hb).items g2)
  have C1 := hid (fun W (hb : Below w.heap.size w W) => clone_any v1 l1 W (h1.low hb) g1)
  have C2 := hid (fun W (hb : Below w.heap.size w W) => clone_any v2 l2 W (h2.low hb) g2)
  rw [check_ok o1] at H1
  rw [check_ok o2] at H2
  clear h1 h2 g1 g2 o1 o2
  go_enter Tryd.func8, Tryd.ntmps8
  go_wp2_with fail
  have b0 : Below w.heap.size w ((w.alloc (.cells #[.slice none 0 0] 22)).alloc (.cells #[.slice none 0 0] 22)) := (belowA w _).alloc (by simp) _
  refine (H1.out _ b0).mono ?_
  rintro e w1 ⟨rfl, hb⟩
  have BX := one_box w (.slice none 0 0) (.slice none 0 0) 22 22
  have X1 := hid (BX.low hb (by simp))
  have B1 := hid (b0.trans (hb.mono b0.size))
  have Z1 := hid (show w.heap.size + 1 < w1.heap.size from Nat.lt_of_lt_of_le (by simp) hb.size)
  clear hb BX b0
  go_wp2_with fail
  refine (H2.out _ B1.out).mono ?_
  rintro e w2 ⟨rfl, hb⟩
  have X2 := hid (X1.out.low hb Z1.out)
  have B2 := hid (B1.out.trans (hb.mono B1.out.size))
  have Z2 := hid (Nat.lt_of_lt_of_le Z1.out hb.size)
  clear hb X1 B1 Z1
  go_wp2_with fail
  refine (C1.out _ B2.out).mono ?_
  rintro e w3 ⟨x1, rfl, hc1, hb⟩
  have X3 := hid (X2.out.low hb Z2.out)
  have B3 := hid (B2.out.trans (hb.mono B2.out.size))
  have Z3 := hid (Nat.lt_of_lt_of_le Z2.out hb.size)
  have K1 := hid hc1
  clear hb X2 B2 Z2 hc1
  go_wp2_with fail
  refine (C2.out _ B3.out).mono ?_
  rintro e w4 ⟨x2, rfl, hc2, hb⟩
  have X4 := X3.out.low hb Z3.out
  have B4 := hid (B3.out.trans (hb.mono B3.out.size))
  have K2 := hid (show Came w4 x1 l1 from K1.out.low hb)
  have K3 := hid hc2
  have k1 := X4.c1
  have k2 := X4.c2
  have k3 := X4.f1
  have k4 := X4.f2
  obtain ⟨a1, p1, rfl⟩ := came_slice K2.out
  obtain ⟨a2, p2, rfl⟩ := came_slice K3.out
  have hz4 : w.heap.size + 1 < w4.heap.size := Nat.lt_of_lt_of_le Z3.out hb.size
  clear hb X3 B3 Z3 hc2 K1 X4
  go_wp2_with fail
  have HB := hid (below_set (below_set B4.out w.heap.size 0 (.slice a1 l1.length p1) (Nat.le_refl _)) (w.heap.size + 1) 0 (.slice a2 l2.length p2) (Nat.le_succ _))
  go_ret
  exact ⟨_, rfl, HB.out⟩
theorem ok_nil : OkL [] := ⟨Nat.zero_le _, List.Pairwise.nil, fun x hx => by simp at hx⟩
theorem good_nil : Good [] := ⟨⟨Nat.zero_le _, by decide⟩, fun x hx => by simp at hx⟩
def sA : ByteArray := ⟨#[97]⟩
def sB : ByteArray := ⟨#[98]⟩
def s1 : ByteArray := ⟨#[49]⟩
def s2 : ByteArray := ⟨#[50]⟩
end Go.Proofs.YtodamoblnlcodaaDoor.L
