import Derived.Test.YtppblibcbjpfnaaDoorLft
namespace Go.Proofs.YtppblibcbjpfnaaDoor.L
open Go.RowKit
set_option linter.unusedVariables false
set_option maxHeartbeats 4000000 in
theorem taints_any (v : Value) (l : List Tn) (w : World) (hc : CameT w v l) (hg : GoodT l) : Calls Tryd.prog 16 #[v] w fun e w' => ∃ v', e = .returned v' ∧ OwnT w' w.heap.size v' l ∧ Below w.heap.size w w' := by
  obtain ⟨i0, hi, hz0, hz1, hz2⟩ := info_parts infoT
  have hl1 := hg.1.1
  have hl2 := hg.1.2
  rcases hc with ⟨rfl, rfl⟩ | ⟨a, cap, rfl, _, h⟩
  · go_enter Tryd.func16, Tryd.ntmps16
    go_wp2_with (first
      | (at_builtin; refine wpList_append_own_none rfl _ _ 26 rfl w.heap.size 23 i0 3 Tryd.underlying26 hi _ 0 [] rfl (World.ownsRow_made w #[] 0 (Nat.le_refl _) (Nat.zero_le _) rfl) rfl ?_)
      | go_in)
    go_ret
    exact ⟨_, rfl, World.ownsRow_made w #[] 0 (Nat.le_refl _) (Nat.zero_le _) rfl, belowA _ _⟩
  · have hcell : ∀ j u, (cellsG 3 tf l)[j]? = some u → w.cell? (a.add j) = some u := by
      rcases h with h | ⟨b, off, rfl, h⟩
      · intro j u hu
        obtain ⟨h1, _⟩ := cellsG_get _ _ l j u hu
        omega
      · exact h.src
    have hbl : l.length = 0 ∨ a.block < w.heap.size := by
      rcases h with h | ⟨b, off, rfl, h⟩
      · exact Or.inl h
      · exact Or.inr h.1
    have HC := hid hcell
    have HB := hid hbl
    clear h hcell hbl
    go_enter Tryd.func16, Tryd.ntmps16
    go_wp2_with (first
      | (at_builtin; refine wpList_append_own _ rfl _ _ 26 rfl w.heap.size 23 i0 (.agg #[.string ByteArray.empty, .string ByteArray.empty, .string ByteArray.empty]) 3 48 Tryd.underlying26 hi hz0 hz1 hz2 rfl (by decide) _ 0 [] rfl (World.ownsRow_made w #[] 0 (Nat.le_refl _) (Nat.zero_le _) rfl) a l.length cap (cellsG 3 tf l) rfl (cellsG_len _ _ l) ?_ (cellsG_one _ _ l) (by omega) (by omega) (by simp) ?_)
      | go_in)
    · intro j u hu
      obtain ⟨h1, _⟩ := cellsG_get _ _ l j u hu
      have hb : a.block < w.heap.size := by rcases HB.out with h | h <;> omega
      have b1 : Below w.heap.size w (w.alloc (.cells #[] 23)) := belowA _ _
      rw [b1.cell (p := a.add j) (by unfold Addr.add; split <;> exact hb)]
      exact HC.out j u hu
    · intro v' w1 hown hgrow _
      have R := hid (show OwnT w1 w.heap.size v' l ∧ Below w.heap.size w w1 from ⟨hown, (belowA w _).grown hgrow (by simp) (fun k hk => by simp [Value.ownBlock] at hk; omega)⟩)
      clear hown hgrow
      go_wp2
      go_ret
      exact ⟨v', rfl, R.out.1, R.out.2⟩
set_option maxHeartbeats 4000000 in
theorem tols_any (v : Value) (l : List To) (w : World) (hc : CameO w v l) (hg : GoodO l) : Calls Tryd.prog 24 #[v] w fun e w' => ∃ v', e = .returned v' ∧ OwnO w' w.heap.size v' l ∧ Below w.heap.size w w' := by
  obtain ⟨i0, hi, hz0, hz1, hz2⟩ := info_parts infoO
  have hl1 := hg.1.1
  have hl2 := hg.1.2
  rcases hc with ⟨rfl, rfl⟩ | ⟨a, cap, rfl, _, h⟩
  · go_enter Tryd.func24, Tryd.ntmps24
    go_wp2_with (first
      | (at_builtin; refine wpList_append_own_none rfl _ _ 27 rfl w.heap.size 25 i0 4 Tryd.underlying27 hi _ 0 [] rfl (World.ownsRow_made w #[] 0 (Nat.le_refl _) (Nat.zero_le _) rfl) rfl ?_)
      | go_in)
    go_ret
    exact ⟨_, rfl, World.ownsRow_made w #[] 0 (Nat.le_refl _) (Nat.zero_le _) rfl, belowA _ _⟩
  · have hcell : ∀ j u, (cellsG 4 ofn l)[j]? = some u → w.cell? (a.add j) = some u := by
      rcases h with h | ⟨b, off, rfl, h⟩
      · intro j u hu
        obtain ⟨h1, _⟩ := cellsG_get _ _ l j u hu
        omega
      · exact h.src
    have hbl : l.length = 0 ∨ a.block < w.heap.size := by
      rcases h with h | ⟨b, off, rfl, h⟩
      · exact Or.inl h
      · exact Or.inr h.1
    have HC := hid hcell
    have HB := hid hbl
    clear h hcell hbl
    go_enter Tryd.func24, Tryd.ntmps24
    go_wp2_with (first
      | (at_builtin; refine wpList_append_own _ rfl _ _ 27 rfl w.heap.size 25 i0 (.agg #[.string ByteArray.empty, .string ByteArray.empty, .string ByteArray.empty, .string ByteArray.empty]) 4 64 Tryd.underlying27 hi hz0 hz1 hz2 rfl (by decide) _ 0 [] rfl (World.ownsRow_made w #[] 0 (Nat.le_refl _) (Nat.zero_le _) rfl) a l.length cap (cellsG 4 ofn l) rfl (cellsG_len _ _ l) ?_ (cellsG_one _ _ l) (by omega) (by omega) (by simp) ?_)
      | go_in)
    · intro j u hu
      obtain ⟨h1, _⟩ := cellsG_get _ _ l j u hu
      have hb : a.block < w.heap.size := by rcases HB.out with h | h <;> omega
      have b1 : Below w.heap.size w (w.alloc (.cells #[] 25)) := belowA _ _
      rw [b1.cell (p := a.add j) (by unfold Addr.add; split <;> exact hb)]
      exact HC.out j u hu
    · intro v' w1 hown hgrow _
      have R := hid (show OwnO w1 w.heap.size v' l ∧ Below w.heap.size w w1 from ⟨hown, (belowA w _).grown hgrow (by simp) (fun k hk => by simp [Value.ownBlock] at hk; omega)⟩)
      clear hown hgrow
      go_wp2
      go_ret
      exact ⟨v', rfl, R.out.1, R.out.2⟩
set_option maxHeartbeats 4000000 in
theorem tolerated_any (v vo : Value) (l : List Tn) (os : List To) (f : ByteArray) (w : World) (hi : ItemsG 3 tf w v l) (ho : ItemsG 4 ofn w vo os) (hg : GoodT l) (hgo : os.length ≤ maxLen) :
    Calls Tryd.prog 26 #[v, vo, .string f] w fun e w' => e = .returned (.bool (decide ((lft l os f).length = 0))) ∧ Below w.heap.size w w' := by
  have HL := hid (left_any v vo l os f w hi ho hg hgo)
  have hll := Nat.le_trans (lft_len l os f) hg.1.1
  unfold maxLen at hll
  clear hi ho hg hgo
  go_enter Tryd.func26, Tryd.ntmps26
  go_wp2_with fail
  refine HL.out.mono ?_
  rintro e w1 ⟨v', rfl, hown, hb⟩
  obtain ⟨a, cap, rfl, _⟩ := (ownG_came hown).items
  obtain ⟨n, hn⟩ : ∃ n, n = (lft l os f).length := ⟨_, rfl⟩
  rw [← hn] at hll ⊢
  have HN := hid hn
  clear hn
  have HB := hid hb
  clear hown hb
  go_wp2_with fail
  go_ret
  refine ⟨ret_bool ?_, HB.out⟩
  rw [← HN.out]
  by_cases h : n = 0
  · subst h; rfl
  · have h' : ¬ (n : Int) = 0 := by omega
    rw [decide_eq_false h]
    simpa using h'
end Go.Proofs.YtppblibcbjpfnaaDoor.L
