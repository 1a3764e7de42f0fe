import Derived.Test.YtnlohjcjboelgaaCopied
namespace Go.Proofs.Ytnlohjcjboelgaa.L
open Go.RowKit
set_option linter.unusedVariables false
/-- A list as a slice with its room. -/
def Sl (W : World) (v : Value) (l : List It) : Prop := ∃ a cap, v = .slice a l.length cap ∧ l.length ≤ cap ∧ cap ≤ maxLen ∧ (l.length = 0 ∨ ∃ b off, a = some ⟨b, off, none⟩ ∧ b < W.heap.size ∧ ∀ j, j < l.length → W.cell? ⟨b, off + j * 2, none⟩ = some (.string (nm l j)) ∧ W.cell? ⟨b, off + j * 2 + 1, none⟩ = some (.int .i64 (am l j)))
theorem Sl.items {W : World} {v : Value} {l : List It} (h : Sl W v l) : Items W v l := by
  obtain ⟨a, cap, rfl, _, _, h⟩ := h
  exact ⟨a, cap, rfl, h⟩
theorem Sl.low {W W' : World} {v : Value} {l : List It} (h : Sl W v l) (hb : Below W.heap.size W W') : Sl W' v l := by
  obtain ⟨a, cap, rfl, h1, h2, h⟩ := h
  obtain ⟨a', cap', e, h'⟩ := (Items.low ⟨a, cap, rfl, h⟩ hb)
  cases e
  exact ⟨a, cap, rfl, h1, h2, h'⟩
theorem sl_own {w : World} {base : Nat} {v : Value} {l : List It} (h : w.ownsRow base 41 2 v l.length (cellsL l)) : Sl w v l := by
  have hi := items_own h
  obtain ⟨h1, h2⟩ := h
  rcases h2 with ⟨rfl, hz⟩ | ⟨g, cap, cur, rfl, hb, hh, hle, hm, hs, ht⟩
  · exact ⟨none, 0, by rw [hz], by omega, Nat.zero_le _, Or.inl hz⟩
  · obtain ⟨a', cap', e, h'⟩ := hi
    cases e
    exact ⟨_, cap, rfl, hle, hm, h'⟩
set_option maxHeartbeats 4000000 in
theorem cop_addr (l : List It) (a : Addr) (cap : Nat) (w : World) (hg : Good l) (hc : ∀ j u, (cellsL l)[j]? = some u → w.cell? (a.add j) = some u) (hb : l.length = 0 ∨ a.block < w.heap.size) :
    Calls Try.prog 13 #[.slice (some a) l.length cap] w fun e w' => ∃ v', e = .returned v' ∧ Sl w' v' l ∧ Below w.heap.size w w' := by
  obtain ⟨i0, hi, hz0, hz1, hz2⟩ := info_parts info31
  have hl1 := hg.1.1
  have hl2 := hg.1.2
  have HC := hid hc
  have HB := hid hb
  clear hc hb
  go_enter Try.func13, Try.ntmps13
  go_wp2_with (first
    | (at_builtin; refine wpList_append_own _ rfl _ _ 24 rfl w.heap.size 41 i0 (.agg #[.string ByteArray.empty, .int .i64 0]) 2 24 Try.underlying24 hi hz0 hz1 hz2 rfl (by decide) _ 0 [] rfl (World.ownsRow_made w #[] 0 (Nat.le_refl _) (Nat.zero_le _) rfl) a l.length cap (cellsL l) rfl (cellsL_len l) ?_ (cellsL_one l) (by omega) (by omega) (by simp) ?_)
    | go_in)
  · intro j u hu
    have hj := (cellsL_get l j u hu).1
    have hb : a.block < w.heap.size := by rcases HB.out with h | h <;> omega
    have b1 : Below w.heap.size w (w.alloc (.cells #[] 41)) := (Below.refl _ _).alloc (Nat.le_refl _) _
    rw [b1.cell (p := a.add j) (by unfold Addr.add; split <;> exact hb)]
    exact HC.out j u hu
  · intro v' w' hown hgrow _
    have HO := hid hown
    have HB2 := hid (show Below w.heap.size w w' from ((Below.refl _ _).alloc (Nat.le_refl _) _).grown hgrow (by simp) (fun k hk => by simp [Value.ownBlock] at hk; omega))
    clear hown hgrow
    go_wp2
    go_ret
    exact ⟨v', rfl, sl_own HO.out, HB2.out⟩
set_option maxHeartbeats 4000000 in
theorem cop_nil (w : World) : Calls Try.prog 13 #[.slice none 0 0] w fun e w' => ∃ v', e = .returned v' ∧ Sl w' v' [] ∧ Below w.heap.size w w' := by
  obtain ⟨i0, hi, hz0, hz1, hz2⟩ := info_parts info31
  go_enter Try.func13, Try.ntmps13
  go_wp2_with (first
    | (at_builtin; refine wpList_append_own_none rfl _ _ 24 rfl w.heap.size 41 i0 2 Try.underlying24 hi _ 0 [] rfl (World.ownsRow_made w #[] 0 (Nat.le_refl _) (Nat.zero_le _) rfl) rfl ?_)
    | go_in)
  go_ret
  exact ⟨_, rfl, ⟨_, _, rfl, Nat.le_refl _, Nat.zero_le _, Or.inl rfl⟩, (Below.refl _ _).alloc (Nat.le_refl _) _⟩
theorem cop_any (v : Value) (l : List It) (w : World) (hc : Came w v l) (hg : Good l) : Calls Try.prog 13 #[v] w fun e w' => ∃ v', e = .returned v' ∧ Sl w' v' l ∧ Below w.heap.size w w' := by
  rcases hc with ⟨rfl, rfl⟩ | ⟨a, cap, rfl, h⟩
  · exact cop_nil w
  · refine cop_addr l a cap w hg ?_ ?_
    · rcases h with h | ⟨b, off, rfl, h1, h2⟩
      · intro j u hu
        have := (cellsL_get l j u hu).1
        omega
      · exact cellsL_src l w b off h2
    · rcases h with h | ⟨b, off, rfl, h1, h2⟩
      · exact Or.inl h
      · exact Or.inr h1
end Go.Proofs.Ytnlohjcjboelgaa.L
