import Derived.Test.YtnlohjcjboelgaaItems
import Derived.OwnWalk
import Derived.Laws.AppendOwnNone
namespace Go.Proofs.Ytnlohjcjboelgaa.L
open Go.RowKit
set_option linter.unusedVariables false
theorem info31 : (Try.prog.info? 41).map (fun i => (i.zero, i.size, i.bytes)) = some (some (.agg #[.string ByteArray.empty, .int .i64 0]), 2, 24) := by kernel_rfl
/-- The cells of a list. -/
def cellsL (l : List It) : List Value := (List.range (l.length * 2)).map fun i => if i % 2 = 0 then .string (nm l (i / 2)) else .int .i64 (am l (i / 2))
theorem cellsL_len (l : List It) : (cellsL l).length = l.length * 2 := by simp [cellsL]
theorem cellsL_get (l : List It) (j : Nat) (u : Value) (h : (cellsL l)[j]? = some u) : j < l.length * 2 ∧ u = if j % 2 = 0 then .string (nm l (j / 2)) else .int .i64 (am l (j / 2)) := by
  unfold cellsL at h
  rw [List.getElem?_map] at h
  by_cases hj : j < l.length * 2
  · rw [List.getElem?_range hj] at h
    simp at h
    exact ⟨hj, by rw [← h]⟩
  · rw [List.getElem?_eq_none (by simp; omega)] at h
    cases h
theorem cellsL_at (l : List It) (j : Nat) (h : j < l.length) : (cellsL l)[j * 2]? = some (.string (nm l j)) ∧ (cellsL l)[j * 2 + 1]? = some (.int .i64 (am l j)) := by
  unfold cellsL
  rw [List.getElem?_map, List.getElem?_map, List.getElem?_range (by omega), List.getElem?_range (by omega)]
  have e1 : j * 2 % 2 = 0 := by omega
  have e2 : j * 2 / 2 = j := by omega
  have e3 : ¬ (j * 2 + 1) % 2 = 0 := by omega
  have e4 : (j * 2 + 1) / 2 = j := by omega
  simp [e1, e2, e4]
theorem cellsL_one (l : List It) : ∀ u ∈ cellsL l, u.oneCell' = true := by
  intro u hu
  obtain ⟨j, hj⟩ := List.getElem?_of_mem hu
  obtain ⟨_, rfl⟩ := cellsL_get l j u hj
  split <;> rfl
/-- The source's cells. -/
theorem cellsL_src (l : List It) (w : World) (b off : Nat) (hc : ∀ j, j < l.length → w.cell? ⟨b, off + j * 2, none⟩ = some (.string (nm l j)) ∧ w.cell? ⟨b, off + j * 2 + 1, none⟩ = some (.int .i64 (am l j))) :
    ∀ j u, (cellsL l)[j]? = some u → w.cell? ((⟨b, off, none⟩ : Addr).add j) = some u := by
  intro j u hu
  obtain ⟨hj, rfl⟩ := cellsL_get l j u hu
  rw [Go.WideShapes.add_plain]
  obtain ⟨c0, c1⟩ := hc (j / 2) (by omega)
  by_cases e : j % 2 = 0
  · rw [if_pos e, ← c0]
    congr 2
    omega
  · rw [if_neg e, ← c1]
    congr 2
    omega
/-- What is owned is a list. -/
theorem items_own {w : World} {base : Nat} {v : Value} {l : List It} (h : w.ownsRow base 41 2 v l.length (cellsL l)) : Items w v l := by
  obtain ⟨h1, h2⟩ := h
  rcases h2 with ⟨rfl, hz⟩ | ⟨g, cap, cur, rfl, hb, hh, hle, hm, hs, ht⟩
  · exact ⟨none, 0, by rw [hz], Or.inl hz⟩
  · refine ⟨_, cap, rfl, ?_⟩
    by_cases hz : l.length = 0
    · exact Or.inl hz
    · have hlt : g < w.heap.size := by
        apply Classical.byContradiction
        intro n
        rw [Array.getElem?_eq_none (by omega)] at hh
        cases hh
      refine Or.inr ⟨g, 0, rfl, hlt, fun j hj => ?_⟩
      have key : ∀ k u, (cellsL l)[k]? = some u → w.cell? ⟨g, k, none⟩ = some u := by
        intro k u hu
        have hk := (cellsL_get l k u hu).1
        rw [← ht, List.getElem?_take] at hu
        rw [if_pos (by omega)] at hu
        simp [World.cell?, hh]
        simpa using hu
      obtain ⟨a1, a2⟩ := cellsL_at l j hj
      have r1 := key _ _ a1
      have r2 := key _ _ a2
      exact ⟨by simpa using r1, by simpa using r2⟩
set_option maxHeartbeats 4000000 in
theorem copied_addr (l : List It) (a : Addr) (cap : Nat) (w : World) (hg : Good l) (hc : ∀ j u, (cellsL l)[j]? = some u → w.cell? (a.add j) = some u) (hb : l.length = 0 ∨ a.block < w.heap.size) :
    Calls Try.prog 13 #[.slice (some a) l.length cap] w fun e w' => ∃ v', e = .returned v' ∧ Items w' v' l ∧ Below w.heap.size w w' := by
  obtain ⟨i0, hi, hz0, hz1, hz2⟩ := info_parts info31
  have hl1 := hg.1.1
  have hl2 := hg.1.2
  have HC := hid hc
  have HB := hid hb
  clear hc hb
  go_enter Try.func13, Try.ntmps13
  go_wp2_with (first
    | (at_builtin; refine wpList_append_own _ rfl _ _ 24 rfl w.heap.size 41 i0 (.agg #[.string ByteArray.empty, .int .i64 0]) 2 24 Try.underlying24 hi hz0 hz1 hz2 rfl (by decide) _ 0 [] rfl (World.ownsRow_made w #[] 0 (Nat.le_refl _) (Nat.zero_le _) rfl) a l.length cap (cellsL l) rfl (cellsL_len l) ?_ (cellsL_one l) (by omega) (by omega) (by simp) ?_)
    | go_in)
  · intro j u hu
    have hj := (cellsL_get l j u hu).1
    have hb : a.block < w.heap.size := by rcases HB.out with h | h <;> omega
    have b1 : Below w.heap.size w (w.alloc (.cells #[] 41)) := (Below.refl _ _).alloc (Nat.le_refl _) _
    rw [b1.cell (p := a.add j) (by unfold Addr.add; split <;> exact hb)]
    exact HC.out j u hu
  · intro v' w' hown hgrow _
    have HO := hid hown
    have HB2 := hid (show Below w.heap.size w w' from ((Below.refl _ _).alloc (Nat.le_refl _) _).grown hgrow (by simp) (fun k hk => by simp [Value.ownBlock] at hk; omega))
    clear hown hgrow
    go_wp2
    go_ret
    exact ⟨v', rfl, items_own HO.out, HB2.out⟩
set_option maxHeartbeats 4000000 in
theorem copied_nil (w : World) : Calls Try.prog 13 #[.slice none 0 0] w fun e w' => ∃ v', e = .returned v' ∧ Items w' v' [] ∧ Below w.heap.size w w' := by
  obtain ⟨i0, hi, hz0, hz1, hz2⟩ := info_parts info31
  go_enter Try.func13, Try.ntmps13
  go_wp2_with (first
    | (at_builtin; refine wpList_append_own_none rfl _ _ 24 rfl w.heap.size 41 i0 2 Try.underlying24 hi _ 0 [] rfl (World.ownsRow_made w #[] 0 (Nat.le_refl _) (Nat.zero_le _) rfl) rfl ?_)
    | go_in)
  go_ret
  exact ⟨_, rfl, ⟨_, _, rfl, Or.inl rfl⟩, (Below.refl _ _).alloc (Nat.le_refl _) _⟩
/-- What came in is a list of its cells, or nil. -/
def Came (W : World) (v : Value) (l : List It) : Prop := (v = .slice none 0 0 ∧ l = []) ∨ ∃ a cap, v = .slice (some a) l.length cap ∧ (l.length = 0 ∨ ∃ b off, a = ⟨b, off, none⟩ ∧ b < W.heap.size ∧ ∀ j, j < l.length → W.cell? ⟨b, off + j * 2, none⟩ = some (.string (nm l j)) ∧ W.cell? ⟨b, off + j * 2 + 1, none⟩ = some (.int .i64 (am l j)))
theorem Came.items {W : World} {v : Value} {l : List It} (h : Came W v l) : Items W v l := by
  rcases h with ⟨rfl, rfl⟩ | ⟨a, cap, rfl, h⟩
  · exact ⟨none, 0, rfl, Or.inl rfl⟩
  · refine ⟨some a, cap, rfl, ?_⟩
    rcases h with h | ⟨b, off, rfl, h1, h2⟩
    · exact Or.inl h
    · exact Or.inr ⟨b, off, rfl, h1, h2⟩
theorem Came.low {W W' : World} {v : Value} {l : List It} (h : Came W v l) (hb : Below W.heap.size W W') : Came W' v l := by
  rcases h with h | ⟨a, cap, rfl, h⟩
  · exact Or.inl h
  · refine Or.inr ⟨a, cap, rfl, ?_⟩
    rcases h with h | ⟨b, off, rfl, hl, hc⟩
    · exact Or.inl h
    · refine Or.inr ⟨b, off, rfl, Nat.lt_of_lt_of_le hl hb.size, fun j hj => ?_⟩
      rw [hb.cell (p := ⟨b, off + j * 2, none⟩) hl, hb.cell (p := ⟨b, off + j * 2 + 1, none⟩) hl]
      exact hc j hj
theorem copied_any (v : Value) (l : List It) (w : World) (hc : Came w v l) (hg : Good l) : Calls Try.prog 13 #[v] w fun e w' => ∃ v', e = .returned v' ∧ Items w' v' l ∧ Below w.heap.size w w' := by
  rcases hc with ⟨rfl, rfl⟩ | ⟨a, cap, rfl, h⟩
  · exact copied_nil w
  · refine copied_addr l a cap w hg ?_ ?_
    · rcases h with h | ⟨b, off, rfl, h1, h2⟩
      · intro j u hu
        have := (cellsL_get l j u hu).1
        omega
      · exact cellsL_src l w b off h2
    · rcases h with h | ⟨b, off, rfl, h1, h2⟩
      · exact Or.inl h
      · exact Or.inr h1
end Go.Proofs.Ytnlohjcjboelgaa.L
