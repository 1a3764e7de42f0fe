import Derived.Test.YtdhjoimiejdgbaaDoorSdr
import Derived.Lib.SliceRun
import Derived.Test.YtdhjoimiejdgbaaDoorLayC
namespace Go.Proofs.YtdhjoimiejdgbaaDoor.L
open Go.RowKit Bs Go.Maps Go.Shelf
set_option linter.unusedVariables false
theorem cellsR_one : ∀ l : List Rw, ∀ u ∈ cellsR l, u.oneCell' = true
  | [], u, h => by cases h
  | x :: l, u, h => by
    rw [cellsR_cons] at h
    rcases List.mem_cons.1 h with rfl | h
    · rfl
    · rcases List.mem_cons.1 h with rfl | h
      · rfl
      · exact cellsR_one l u h
theorem wrow_one (l : List Nat) : ∀ u ∈ wrow l, u.oneCell' = true := fun u h => by
  obtain ⟨x, _, rfl⟩ := List.mem_map.1 h
  rfl
set_option maxHeartbeats 4000000 in
set_option maxRecDepth 100000 in
theorem cloneR (v : Value) (l : List Rw) (w : World) (h : OwnR w v l) (hl : l.length ≤ 65536) : Calls Tryd.prog 80 #[v] w fun e w' => ∃ v', e = .returned v' ∧ w'.ownsRow w.heap.size 124 2 v' l.length (cellsR l) ∧ Below w.heap.size w w' := by
  obtain ⟨i0, hi, hz0, hz1, hz2⟩ := info_parts infoR
  have q28 : ∀ (w : World) (a : Option Addr) (n c n' c' : Nat), (binOp .eql 120 (.slice a n c) (.slice none n' c')).run Tryd.prog w = .ok (.bool a.isNone) w := fun w a n c n' c' => Lib.run_eql_slice_nil w _ _ a n c n' c' Tryd.underlying120
  rcases own_form h with ⟨rfl, h0⟩ | ⟨g, cap, rfl, hle, hmx, hlt⟩
  · have hnil : l = [] := List.length_eq_zero_iff.1 h0
    subst hnil
    go_enter Tryd.func80, Tryd.ntmps80
    go_wp2
    go_ret
    exact ⟨_, rfl, ⟨rfl, Or.inl ⟨rfl, rfl⟩⟩, Below.refl _ _⟩
  · have HC := hid (fun W (hb : Below w.heap.size w W) => (own_stays h (fun k hk => hb.block k (h.lt k hk).2)).cells (g := g) rfl)
    have CL := hid (cellsR_len l)
    clear h
    generalize hn : l.length = n at *
    clear hle hmx hlt hn
    go_enter Tryd.func80, Tryd.ntmps80
    go_wp2_with (at_builtin; refine wpList_append_own _ rfl _ _ 120 rfl w.heap.size 124 i0 (.agg #[.string ByteArray.empty, .int .i64 0]) 2 24 Tryd.underlying120 hi hz0 hz1 hz2 rfl (by decide) _ 0 [] rfl (World.ownsRow_made w #[] 0 (Nat.le_refl _) (Nat.zero_le _) rfl) ⟨g, 0, none⟩ n cap (cellsR l) rfl (by rw [CL.out]) (HC.out _ ((Below.refl _ w).alloc (Nat.le_refl _) _)) (cellsR_one l) (by unfold maxLen; omega) (by omega) (by simp) ?_)
    intro v' w1 hown hgrow _
    have R := hid (And.intro hown (((Below.refl w.heap.size w).alloc (Nat.le_refl _) _).grown hgrow (by simp) (fun k hk => by simp [Value.ownBlock] at hk; omega)))
    clear hown hgrow
    go_wp2
    go_ret
    exact ⟨v', rfl, R.out.1, R.out.2⟩
set_option maxHeartbeats 4000000 in
set_option maxRecDepth 100000 in
theorem cloneK (v : Value) (l : List Nat) (w : World) (h : OwnK w v l) (hl : l.length ≤ 65536) : Calls Tryd.prog 81 #[v] w fun e w' => ∃ v', e = .returned v' ∧ w'.ownsRow w.heap.size 129 1 v' l.length (wrow l) ∧ Below w.heap.size w w' := by
  obtain ⟨i0, hi, hz0, hz1, hz2⟩ := info_parts infoK
  have q28 : ∀ (w : World) (a : Option Addr) (n c n' c' : Nat), (binOp .eql 106 (.slice a n c) (.slice none n' c')).run Tryd.prog w = .ok (.bool a.isNone) w := fun w a n c n' c' => Lib.run_eql_slice_nil w _ _ a n c n' c' Tryd.underlying106
  rcases own_form h with ⟨rfl, h0⟩ | ⟨g, cap, rfl, hle, hmx, hlt⟩
  · have hnil : l = [] := List.length_eq_zero_iff.1 h0
    subst hnil
    go_enter Tryd.func81, Tryd.ntmps81
    go_wp2
    go_ret
    exact ⟨_, rfl, ⟨rfl, Or.inl ⟨rfl, rfl⟩⟩, Below.refl _ _⟩
  · have HC := hid (fun W (hb : Below w.heap.size w W) => (own_stays h (fun k hk => hb.block k (h.lt k hk).2)).cells (g := g) rfl)
    have CL := hid (wrow_len l)
    clear h
    generalize hn : l.length = n at *
    clear hle hmx hlt hn
    go_enter Tryd.func81, Tryd.ntmps81
    go_wp2_with (at_builtin; refine wpList_append_own _ rfl _ _ 106 rfl w.heap.size 129 i0 (.int .u64 0) 1 8 Tryd.underlying106 hi hz0 hz1 hz2 rfl (by decide) _ 0 [] rfl (World.ownsRow_made w #[] 0 (Nat.le_refl _) (Nat.zero_le _) rfl) ⟨g, 0, none⟩ n cap (wrow l) rfl (by rw [CL.out]; omega) (HC.out _ ((Below.refl _ w).alloc (Nat.le_refl _) _)) (wrow_one l) (by unfold maxLen; omega) (by omega) (by simp) ?_)
    intro v' w1 hown hgrow _
    have R := hid (And.intro hown (((Below.refl w.heap.size w).alloc (Nat.le_refl _) _).grown hgrow (by simp) (fun k hk => by simp [Value.ownBlock] at hk; omega)))
    clear hown hgrow
    go_wp2
    go_ret
    exact ⟨v', rfl, R.out.1, R.out.2⟩
theorem cloneM (mb n : Nat) (D : DataW Unit) (w : World) (h : Own1 w mb n D) : Calls Tryd.prog 79 #[.map (some mb)] w fun e w' => e = .returned (.map (some w.heap.size)) ∧ Own1 w' w.heap.size n D ∧ Below w.heap.size w w' := by
  refine (show Calls Tryd.prog 79 _ _ _ from AnyW.maps_Clone_owns mcl 9 (plainElem Tryd.prog 3) mb n D w h).mono ?_
  rintro e w' ⟨h1, h2, _, h4⟩
  exact ⟨h1, h2, h4⟩
end Go.Proofs.YtdhjoimiejdgbaaDoor.L
