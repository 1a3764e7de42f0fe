import Derived.Test.YtnlohjcjboelgaaSum
namespace Go.Proofs.Ytnlohjcjboelgaa.L
open Go.RowKit
set_option linter.unusedVariables false
def two (l c : List It) : Nat → List It := fun j => if j = 0 then l else c
theorem new_two' (w : World) (x y : Value) (t : TypeId) : ∀ j, j < 2 → (w.alloc (.cells #[x, y] t)).cell? ⟨w.heap.size, j, none⟩ = some ((fun j => if j = 0 then x else y) j) := by
  intro j hj
  have h : (w.alloc (.cells #[x, y] t)).heap[w.heap.size]? = some (.cells #[x, y] t) := by
    show (w.heap.push _)[w.heap.size]? = _
    simp
  unfold World.cell?
  rw [h]
  rcases (show j = 0 ∨ j = 1 by omega) with rfl | rfl <;> rfl
theorem two_ok {l c : List It} (h : chkAll (two l c) 2 0 = 0) : checkN l = 0 ∧ checkN c = 0 := by
  unfold chkAll at h
  split at h
  · rename_i h1
    unfold chkAll at h
    split at h
    · rename_i h2
      exact ⟨h1, h2⟩
    · rename_i h3; exact absurd h h3
  · rename_i h3; exact absurd h h3
theorem two_good {l c : List It} (h1 : checkN l = 0) (h2 : checkN c = 0) : chkAll (two l c) 2 0 = 0 := by
  show (if checkN l = 0 then (if checkN c = 0 then 0 else checkN c) else checkN l) = 0
  rw [if_pos h1, if_pos h2]
/-- The call of checkAll over two lists. -/
theorem check_two (v1 v2 : Value) (l c : List It) (w : World) (i1 : Items w v1 l) (i2 : Items w v2 c) (g1 : Good l) (g2 : Good c) :
    Calls Try.prog 20 #[.slice (some ⟨w.heap.size, 0, none⟩) 2 2] (w.alloc (.cells #[v1, v2] 24)) fun e w' => e = .returned (.int .i64 (chkAll (two l c) 2 0)) ∧ Below w.heap.size w w' := by
  have b := (Below.refl w.heap.size w).alloc (Nat.le_refl _) (.cells #[v1, v2] 24)
  refine (checkAll_any w.heap.size 2 (fun j => if j = 0 then v1 else v2) (two l c) (w.alloc (.cells #[v1, v2] 24)) (by decide) (by simp) (new_two' w _ _ _) (fun j hj => ?_) (fun j hj => ?_)).mono ?_
  · unfold two
    rcases (show j = 0 ∨ j = 1 by omega) with rfl | rfl
    · exact i1.low b
    · exact i2.low b
  · unfold two
    rcases (show j = 0 ∨ j = 1 by omega) with rfl | rfl
    · exact g1
    · exact g2
  · rintro e w' ⟨rfl, hb⟩
    exact ⟨rfl, b.trans (hb.mono (by simp))⟩
set_option maxHeartbeats 8000000 in
set_option maxRecDepth 100000 in
theorem add_bad (v1 v2 : Value) (l c : List It) (w : World) (s1 : Sl w v1 l) (s2 : Sl w v2 c) (g1 : Good l) (g2 : Good c) (bad : chkAll (two l c) 2 0 ≠ 0) :
    Calls Try.prog 10 #[v1, v2] w fun e w' => e = .returned (.tuple #[.slice none 0 0, .string ByteArray.empty, .int .i64 (chkAll (two l c) 2 0)]) ∧ Below w.heap.size w w' := by
  have CA := hid (check_two v1 v2 l c w s1.items s2.items g1 g2)
  have e2 : (chkAll (two l c) 2 0 != 0) = true := by simpa using bad
  obtain ⟨a1, c1, rfl, _⟩ := s1
  obtain ⟨a2, c2, rfl, _⟩ := s2
  generalize chkAll (two l c) 2 0 = er at *
  generalize l.length = n1 at *
  generalize c.length = n2 at *
  clear bad
  go_enter Try.func10, Try.ntmps10
  go_wp2_with fail
  refine CA.out.mono ?_
  rintro e w1 ⟨rfl, hb1⟩
  have HB1 := hid hb1
  clear hb1
  go_wp2_with fail
  go_ret3
  exact ⟨rfl, HB1.out⟩
theorem cell_two_at (w : World) (b : Nat) (x y : Value) (t : TypeId) (hb : b = w.heap.size) : ∀ (j : Nat) (u : Value), [x, y][j]? = some u → (w.alloc (.cells #[x, y] t)).cell? ((⟨b, 0, none⟩ : Addr).add j) = some u := by
  subst hb
  exact cell_two_new' w x y t
theorem own_wider {w : World} {b1 b2 : Nat} {e : TypeId} {size n : Nat} {v : Value} {xs : List Value} (h : w.ownsRow b2 e size v n xs) (hb : b1 ≤ b2) : w.ownsRow b1 e size v n xs := by
  obtain ⟨h1, h2⟩ := h
  refine ⟨h1, ?_⟩
  rcases h2 with h2 | ⟨g, cap, cur, hv, hg, r⟩
  · exact Or.inl h2
  · exact Or.inr ⟨g, cap, cur, hv, Nat.le_trans hb hg, r⟩
/-- What Add leaves behind right lists. -/
def AddPost (M : List Pr) (w w' : World) (v : Value) (s : ByteArray) (er : Int) : Prop :=
  (∃ K, overAt M M.length 0 = some K ∧ v = .slice none 0 0 ∧ s = pn M K ∧ er = 28) ∨ (overAt M M.length 0 = none ∧ w'.ownsRow w.heap.size 41 2 v (sums M).length (cellsF (sums M)) ∧ s = ByteArray.empty ∧ er = 0)
set_option maxHeartbeats 8000000 in
set_option maxRecDepth 100000 in
theorem add_many (v1 v2 : Value) (l c : List It) (w : World) (s1 : Sl w v1 l) (s2 : Sl w v2 c) (g1 : Good l) (g2 : Good c) (ok : chkAll (two l c) 2 0 = 0) (h : 16 < (mrg 40 l c).length) :
    Calls Try.prog 10 #[v1, v2] w fun e w' => e = .returned (.tuple #[.slice none 0 0, .string ByteArray.empty, .int .i64 27]) ∧ Below w.heap.size w w' := by
  have CA := hid (check_two v1 v2 l c w s1.items s2.items g1 g2)
  rw [ok] at CA
  have PA := hid (fun W (hB : Below w.heap.size w W) => paired_any v1 v2 l c W (s1.low hB) (s2.low hB) (check_len (two_ok ok).1) (check_len (two_ok ok).2))
  obtain ⟨a1, c1, rfl, x1⟩ := s1
  obtain ⟨a2, c2, rfl, x2⟩ := s2
  obtain ⟨M, hM⟩ : ∃ M, M = mrg 40 l c := ⟨_, rfl⟩
  rw [← hM] at PA h
  clear hM x1 x2
  generalize l.length = n1 at *
  generalize c.length = n2 at *
  clear ok g1 g2
  go_enter Try.func10, Try.ntmps10
  go_wp2_with fail
  refine CA.out.mono ?_
  rintro e w1 ⟨rfl, hb1⟩
  have HB1 := hid hb1
  clear hb1 CA
  go_wp2_with fail
  refine (PA.out _ HB1.out).mono ?_
  rintro e w2 ⟨pv, rfl, hown, hb2⟩
  have HB2 := hid (HB1.out.trans (hb2.mono HB1.out.size))
  obtain ⟨ap, cp, rfl, hp⟩ := pairs_cells hown
  have HP := hid hp
  clear hown hb2 PA hp
  go_wp2_with fail
  go_ret3
  exact ⟨rfl, HB2.out⟩
set_option maxHeartbeats 8000000 in
set_option maxRecDepth 100000 in
theorem add_few (v1 v2 : Value) (l c : List It) (w : World) (s1 : Sl w v1 l) (s2 : Sl w v2 c) (g1 : Good l) (g2 : Good c) (ok : chkAll (two l c) 2 0 = 0) (h : (mrg 40 l c).length ≤ 16) (hb : ∀ j, j < (mrg 40 l c).length → 0 ≤ px (mrg 40 l c) j ∧ px (mrg 40 l c) j ≤ 9223372036854775807 ∧ 0 ≤ py (mrg 40 l c) j ∧ py (mrg 40 l c) j ≤ 9223372036854775807) :
    Calls Try.prog 10 #[v1, v2] w fun e w' => ∃ v s er, e = .returned (.tuple #[v, .string s, .int .i64 er]) ∧ Below w.heap.size w w' ∧ AddPost (mrg 40 l c) w w' v s er := by
  obtain ⟨i0, hi, hz0, hz1, hz2⟩ := info_parts info31
  have HB := hid hb
  clear hb
  have CA := hid (check_two v1 v2 l c w s1.items s2.items g1 g2)
  rw [ok] at CA
  have PA := hid (fun W (hB : Below w.heap.size w W) => paired_any v1 v2 l c W (s1.low hB) (s2.low hB) (check_len (two_ok ok).1) (check_len (two_ok ok).2))
  obtain ⟨a1, c1, rfl, x1⟩ := s1
  obtain ⟨a2, c2, rfl, x2⟩ := s2
  obtain ⟨M, hM⟩ : ∃ M, M = mrg 40 l c := ⟨_, rfl⟩
  rw [← hM] at PA h HB ⊢
  clear hM x1 x2
  generalize l.length = n1 at *
  generalize c.length = n2 at *
  clear ok g1 g2
  go_enter Try.func10, Try.ntmps10
  go_wp2_with fail
  refine CA.out.mono ?_
  rintro e w1 ⟨rfl, hb1⟩
  have HB1 := hid hb1
  clear hb1 CA
  go_wp2_with fail
  refine (PA.out _ HB1.out).mono ?_
  rintro e w2 ⟨pv, rfl, hown, hb2⟩
  have HB2 := hid (HB1.out.trans (hb2.mono HB1.out.size))
  obtain ⟨ap, cp, rfl, hp⟩ := pairs_cells hown
  have HP := hid hp
  clear hown hb2 PA hp
  obtain ⟨len, hlen⟩ : ∃ n, n = M.length := ⟨_, rfl⟩
  have HLEN := hid hlen
  rw [← hlen] at h HP HB ⊢
  clear hlen
  go_wp2_with fail
  go_loopw [9, 27] (fun o i wr => ∃ k : Nat, k ≤ len ∧ i = .int .i64 k ∧ Hid (Below w2.heap.size w2 wr) ∧ Hid (wr.ownsRow w2.heap.size 41 2 o (sums (M.take k)).length (cellsF (sums (M.take k)))) ∧ Hid (overAt M len 0 = overAt M (len - k) k)) (fun _ i _ => len - (intOf i).toNat)
  case atStart => exact ⟨0, Nat.zero_le _, rfl, hid (Below.refl _ _), hid (World.ownsRow_nil _ _ _ _), hid rfl⟩
  case round =>
    obtain ⟨k, hk, rfl, BE, OW, OV⟩ := hrel
    have BW := hid (HB2.out.trans (BE.out.mono HB2.out.size))
    by_cases hlt : k < len
    · rcases HP.out with h0 | ⟨b, rfl, hbl, hc⟩
      · omega
      obtain ⟨c0, c1', c2'⟩ := hc k hlt
      obtain ⟨x0, x1, y0, y1⟩ := HB.out k hlt
      rw [← BE.out.cell (p := ⟨b, k * 3, none⟩) hbl] at c0
      rw [← BE.out.cell (p := ⟨b, k * 3 + 1, none⟩) hbl] at c1'
      rw [← BE.out.cell (p := ⟨b, k * 3 + 2, none⟩) hbl] at c2'
      have hsz : b < wr.heap.size := Nat.lt_of_lt_of_le hbl BE.out.size
      have hkl : k < M.length := by rw [← HLEN.out]; exact hlt
      have st := OV.out.trans (overAt_step M len k hlt)
      have sk : (sums (M.take k)).length = k := by unfold sums; rw [List.length_map, List.length_take]; omega
      have HT := hid (sums_take M k hkl)
      have hw2 : w2.heap.size ≤ wr.heap.size := BE.out.size
      by_cases ov : px M k > 9223372036854775807 - py M k
      · rw [if_pos ov] at st
        have HF := hid st
        generalize hpn : pn M k = nmk at *
        have HPN := hid hpn
        clear hpn
        generalize px M k = x at *
        generalize py M k = y at *
        clear st hc sk
        have ov' : 9223372036854775807 - y < x := ov
        clear ov
        go_wp2_with fail
        go_quiet (fail)
        go_wp2_with fail
        go_ret3
        refine ⟨_, _, _, rfl, below_drewN (BW.out.alloc BW.out.size _) _, Or.inl ⟨k, ?_, rfl, HPN.out.symm, rfl⟩⟩
        rw [← HLEN.out]
        exact HF.out
      · rw [if_neg ov] at st
        have HF := hid st
        generalize pn M k = nmk at *
        generalize px M k = x at *
        generalize py M k = y at *
        have ov' : ¬ 9223372036854775807 - y < x := ov
        have hxy : x + y ≤ 9223372036854775807 := by omega
        generalize sums (M.take k) = S at *
        have SK := hid sk
        have hS : S.length ≤ 16 := by omega
        clear ov st hc sk
        go_wp2_with (first
          | (at_builtin; refine wpList_append_own _ rfl _ _ 24 rfl w2.heap.size 41 i0 (.agg #[.string ByteArray.empty, .int .i64 0]) 2 24 Try.underlying24 hi hz0 hz1 hz2 rfl (by decide) _ _ _ rfl ((OW.out.alloc _).alloc _) ⟨wr.heap.size + 1, 0, none⟩ 1 1 [.string nmk, .int .i64 (x + y)] rfl rfl (cell_two_at _ _ _ _ _ (by simp)) (fun x hx => by simp at hx; rcases hx with rfl | rfl <;> rfl) (by unfold maxLen; omega) (by omega) (by simp; omega) ?_; intro v' w3 hown' hgrow3 hnil3)
          | go_in)
        clear hnil3
        have BE3 : Below w2.heap.size w2 w3 := ((BE.out.alloc hw2 _).alloc (by simp; omega) _).grown hgrow3 (by simp; omega) (fun j hj => own_base OW.out j hj)
        exact ⟨⟨k + 1, by omega, by go_num, hid BE3, hid (by rw [HT.out]; exact ownF_snoc hown'), HF⟩, by simp [intOf]; omega⟩
    · obtain rfl : k = len := by omega
      have HF := hid (show overAt M k 0 = none by rw [OV.out, Nat.sub_self]; rfl)
      have HTK := hid (show M.take k = M by rw [HLEN.out, List.take_length])
      go_wp2_with fail
      go_ret3
      have o := OW.out
      rw [HTK.out] at o
      exact ⟨_, _, _, rfl, BW.out, Or.inr ⟨by rw [← HLEN.out]; exact HF.out, own_wider o HB2.out.size, rfl, rfl⟩⟩
end Go.Proofs.Ytnlohjcjboelgaa.L
