import Derived.Test.YtkagdmhijjfnnabDoorNl6
namespace Go.Proofs.YtkagdmhijjfnnabDoor
open Go.RowKit Bs
set_option linter.unusedVariables false
/-- A list of numbers in a block from lo on. -/
def Hl (w : World) (lo : Nat) (v : Value) (zs : List Int) : Prop := ∃ a cap, v = .slice a zs.length cap ∧ (zs = [] ∨ ∃ b off, a = some ⟨b, off, none⟩ ∧ lo ≤ b ∧ b < w.heap.size ∧ ∀ j, j < zs.length → w.cell? ⟨b, off + j, none⟩ = some (.int .i64 (zs.getD j 0)))
theorem Hl.low {w w' : World} {lo : Nat} {v : Value} {zs : List Int} (h : Hl w lo v zs) (k : Below w.heap.size w w') : Hl w' lo v zs := by
  obtain ⟨a, cap, rfl, h⟩ := h
  refine ⟨a, cap, rfl, ?_⟩
  rcases h with h | ⟨b, off, rfl, h1, h2, h3⟩
  · exact Or.inl h
  · exact Or.inr ⟨b, off, rfl, h1, Nat.lt_of_lt_of_le h2 k.size, fun j hj => (k.cell (p := ⟨b, off + j, none⟩) h2).trans (h3 j hj)⟩
theorem Hl.keep {w w' : World} {lo q : Nat} {v : Value} {zs : List Int} (h : Hl w lo v zs) (k : Chg q w w') (hq : q < lo) : Hl w' lo v zs := by
  obtain ⟨a, cap, rfl, h⟩ := h
  refine ⟨a, cap, rfl, ?_⟩
  rcases h with h | ⟨b, off, rfl, h1, h2, h3⟩
  · exact Or.inl h
  · exact Or.inr ⟨b, off, rfl, h1, Nat.lt_of_lt_of_le h2 k.size, fun j hj => (k.cell (p := ⟨b, off + j, none⟩) (by show b ≠ q; omega) h2).trans (h3 j hj)⟩
theorem Hl.mono {w : World} {lo lo' : Nat} {v : Value} {zs : List Int} (h : Hl w lo v zs) (hl : lo' ≤ lo) : Hl w lo' v zs := by
  obtain ⟨a, cap, rfl, h⟩ := h
  refine ⟨a, cap, rfl, ?_⟩
  rcases h with h | ⟨b, off, rfl, h1, h2, h3⟩
  · exact Or.inl h
  · exact Or.inr ⟨b, off, rfl, Nat.le_trans hl h1, h2, h3⟩
theorem hl_own {w : World} {base : Nat} {v : Value} {zs : List Int} (h : w.ownsRow base 3 1 v zs.length (zs.map (Value.int .i64))) : Hl w base v zs := by
  have ob := owns_block h
  rcases (holds_of_owns h).ex with ⟨rfl, rfl⟩ | ⟨b, off, cap, rfl, hc⟩
  · exact ⟨none, 0, rfl, Or.inl rfl⟩
  · refine ⟨_, cap, rfl, ?_⟩
    by_cases hz : zs = []
    · exact Or.inl hz
    · have hl : 0 < zs.length := List.length_pos_iff.2 hz
      exact Or.inr ⟨b, off, rfl, ob b rfl, block_lt_of_cell (hc 0 hl), hc⟩
theorem card_out {n : Nat} {S : Nat → Bool} {i j : Nat} (hi : S i = true) (hj : S j = true) (h : card i S = card j S) : i = j := by
  have a : ∀ {x y : Nat}, S x = true → x < y → card x S < card y S := by
    intro x y hx hxy
    have h1 : card (x + 1) S = card x S + 1 := by simp [card, hx]
    have := card_mono S (show x + 1 ≤ y by omega)
    omega
  rcases Nat.lt_trichotomy i j with c | c | c
  · have := a hi c; omega
  · exact c
  · have := a hj c; omega
/-- The members in their order are one list. -/
theorem MsOf.one {n : Nat} {S : Nat → Bool} {l m : List Int} (h : MsOf n S l) (k : MsOf n S m) : l = m := by
  have hl : l.length = m.length := by rw [h.len, k.len]
  apply List.ext_getElem hl
  intro t h1 h2
  obtain ⟨i, a1, a2, a3, a4⟩ := h.get t h1
  obtain ⟨j, b1, b2, b3, b4⟩ := k.get t h2
  have e := card_out (n := n) a3 b3 (by rw [a4, b4])
  have c1 : l.getD t 0 = l[t] := by simp [List.getD_eq_getElem?_getD, List.getElem?_eq_getElem h1]
  have c2 : m.getD t 0 = m[t] := by simp [List.getD_eq_getElem?_getD, List.getElem?_eq_getElem h2]
  rw [← c1, ← c2, a1, b1, e]
theorem MsOf.le {n : Nat} {S : Nat → Bool} {l : List Int} (h : MsOf n S l) : l.length ≤ n := by rw [h.len]; exact card_le _ _
theorem members_own {p q n : Nat} {S : Nat → Bool} (w : World) (h : SetAt w p q n S) (ht : Tab w) :
    Calls Tryd.prog 23 #[.pointer (some ⟨p, 0, none⟩)] w fun e w' => ∃ v ms, e = .returned v ∧ Hl w' w.heap.size v ms ∧ MsOf n S ms ∧ Below w.heap.size w w' := by
  have hb := h.bound
  obtain ⟨ws, x, hx⟩ := h
  have e : mem ws = S := funext hx
  subst e
  refine (members_words p q n ws w x ht).mono ?_
  rintro e w' ⟨v, rfl, own, hbl⟩
  refine ⟨v, _, rfl, hl_own own, ⟨?_, ?_⟩, hbl⟩
  · rw [length_msL ws _ (Nat.le_refl _), isSet_card x]
  · intro t ht
    rw [length_msL ws _ (Nat.le_refl _)] at ht
    obtain ⟨i, h1, h2, h3⟩ := msL_get ws x.wd ws.length (Nat.le_refl _) t ht
    exact ⟨i, h1, hb i h2, h2, h3⟩
set_option maxRecDepth 100000 in
set_option maxHeartbeats 1000000 in
theorem members_nil (w : World) :
    Calls Tryd.prog 23 #[.pointer none] w fun e w' => ∃ v, e = .returned v ∧ Hl w' w.heap.size v [] ∧ Below w.heap.size w w' := by
  obtain ⟨i0, hi0, hz0, hz1, hz2⟩ := info3
  obtain ⟨c, hc⟩ : ∃ c : Nat, c = 0 := ⟨_, rfl⟩
  have HCB : Hid (Calls Tryd.prog 48 #[.slice none 0 0] w fun e w' => e = .returned (.int .i64 (c : Int)) ∧ w' = w) := by rw [hc]; exact countBits_nil w
  have hcb : c ≤ 0 := by omega
  clear hc
  obtain ⟨wm, hmk, hmo, hmg⟩ := run_make_own (P := Tryd.prog) w w.heap.size 22 3 i0 (.int .i64 0) 1 Tryd.underlying22 hi0 hz0 hz1 .i64 .i64 c (by rw [hz2]; omega) (by unfold maxLen; omega) (Nat.le_refl _)
  have hmb : Below w.heap.size w wm := (Below.refl _ _).grown hmg (Nat.le_refl _) (fun k hk => by cases hk)
  have HMO := hid hmo
  have HMB := hid hmb
  clear hmo hmg hmb
  go_enter Tryd.func23, Tryd.ntmps23
  go_wp2_with (first | (go_at_call 51; refine (list_nil _).mono ?_; rintro e w1 ⟨rfl, hww⟩; subst hww) | (go_at_call 48; refine HCB.out.mono ?_; rintro e w1 ⟨rfl, hww⟩; subst hww))
  clear hmk
  have HO := hid (hl_own (zs := []) HMO.out)
  clear HMO
  go_loopw [4, 14] (fun v i wr => v = .slice (some ⟨w1.heap.size, 0, none⟩) 0 c ∧ i = .int .i64 0 ∧ wr = wm) (fun _ _ _ => 0)
  case atStart => exact ⟨rfl, rfl, rfl⟩
  case round =>
    obtain ⟨rfl, rfl, rfl⟩ := hrel
    go_wp2
    go_ret
    exact ⟨_, rfl, HO.out, HMB.out⟩
theorem members_o {v : Value} {q n : Nat} {S : Nat → Bool} (w : World) (h : SO w v q n S) (ht : Tab w) :
    Calls Tryd.prog 23 #[v] w fun e w' => ∃ v ms, e = .returned v ∧ Hl w' w.heap.size v ms ∧ MsOf n S ms ∧ Below w.heap.size w w' := by
  rcases h with ⟨rfl, rfl, hS⟩ | ⟨p, rfl, h⟩
  · refine (members_nil w).mono ?_
    rintro e w' ⟨v, rfl, a, b⟩
    exact ⟨v, [], rfl, a, ⟨rfl, fun t ht => by cases ht⟩, b⟩
  · exact members_own w h ht
set_option maxHeartbeats 1000000 in
/-- SameInts of one list twice. -/
theorem same_yes (lo lo' : Nat) (v v' : Value) (zs : List Int) (w : World) (hL : zs.length ≤ 65536) (h : Hl w lo v zs) (h' : Hl w lo' v' zs) :
    Calls Tryd.prog 38 #[v, v'] w fun e w' => e = .returned (.bool true) ∧ ∃ m, w' = w.drewN m := by
  obtain ⟨a, cap, rfl, h⟩ := h
  obtain ⟨a', cap', rfl, h'⟩ := h'
  obtain ⟨L, hLe⟩ : ∃ L, L = zs.length := ⟨_, rfl⟩
  have HL := hid hLe
  have H := hid h
  have H' := hid h'
  rw [← hLe] at hL ⊢
  clear hLe h h'
  go_enter Tryd.func38, Tryd.ntmps38
  go_wp2
  go_loopw [5] (fun i wr => ∃ k : Nat, k ≤ L ∧ i = .int .i64 k ∧ ∃ m, wr = w.drewN m) (fun i _ => L - (intOf i).toNat)
  case atStart => exact ⟨0, Nat.zero_le _, rfl, 0, rfl⟩
  case round =>
    obtain ⟨k, hk, rfl, m, rfl⟩ := hrel
    by_cases hlt : k < L
    · have hk2 : k < zs.length := by rw [← HL.out]; exact hlt
      rcases H.out with e | ⟨b, off, rfl, _, _, hc⟩
      · rw [e] at hk2; cases hk2
      rcases H'.out with e | ⟨b', off', rfl, _, _, hc'⟩
      · rw [e] at hk2; cases hk2
      have hx := hc k hk2
      have hy := hc' k hk2
      generalize zs.getD k 0 = z at hx hy
      clear hc hc' hk2
      go_wp2_with fail
      go_quiet (fail)
      go_wp2_with fail
      go_roundw
      case rel => exact ⟨k + 1, by omega, by go_num, _, rfl⟩
      case measure => simp [intOf]; omega
    · go_wp2_with fail
      go_ret
      exact ⟨rfl, _, rfl⟩
end Go.Proofs.YtkagdmhijjfnnabDoor
