import Derived.Test.YtppblibcbjpfnaaDoorTl1
namespace Go.Proofs.YtppblibcbjpfnaaDoor.L
open Go.RowKit
set_option linter.unusedVariables false
/-- The taints of another key or effect. -/
def dels (l : List Tn) (k f : ByteArray) : List Tn := l.filter fun t => !isK k f t
theorem dels_yes (l : List Tn) (sk sf : ByteArray) (k : Nat) (h : k < l.length) (c : isK sk sf l[k] = false) : dels (l.take (k + 1)) sk sf = dels (l.take k) sk sf ++ [l[k]] := by
  unfold dels
  rw [List.take_succ_eq_append_getElem h, List.filter_append, List.filter_cons_of_pos (by rw [c]; rfl)]
  rfl
theorem dels_no (l : List Tn) (sk sf : ByteArray) (k : Nat) (h : k < l.length) (c : isK sk sf l[k] = true) : dels (l.take (k + 1)) sk sf = dels (l.take k) sk sf := by
  unfold dels
  rw [List.take_succ_eq_append_getElem h, List.filter_append, List.filter_cons_of_neg (by rw [c]; decide)]
  simp
theorem dels_len (l : List Tn) (k f : ByteArray) : (dels l k f).length ≤ l.length := List.length_filter_le _ _
theorem row_base {α : Type} {t : TypeId} {m : Nat} {f : α → Nat → ByteArray} {w : World} {base base' : Nat} {v : Value} {l : List α} (h : OwnG t m f w base v l) (hb : base' ≤ base) : OwnG t m f w base' v l := by
  obtain ⟨h1, h2⟩ := h
  refine ⟨h1, ?_⟩
  rcases h2 with h2 | ⟨g, cap, cur, hv, hg, r⟩
  · exact Or.inl h2
  · exact Or.inr ⟨g, cap, cur, hv, Nat.le_trans hb hg, r⟩
set_option maxHeartbeats 4000000 in
set_option maxRecDepth 100000 in
theorem del_any (v : Value) (l : List Tn) (sk sf : ByteArray) (w : World) (hc : ItemsG 3 tf w v l) (hg : GoodT l) : Calls Tryd.prog 21 #[v, .string sk, .string sf] w fun e w' => ∃ v', e = .returned (.tuple #[v', .bool (decide ((dels l sk sf).length < l.length))]) ∧ OwnT w' w.heap.size v' (dels l sk sf) ∧ Below w.heap.size w w' := by
  obtain ⟨i0, hi0, hz0, hz1, hz2'⟩ := info_parts infoT
  have hl := hg.1.1
  have hl2 := hg.1.2
  unfold maxLen at hl
  obtain ⟨a, cap, rfl, hc⟩ := hc
  have HA := hid hc
  have HM := hid (fun k f W => mark_any k f W)
  clear hc
  obtain ⟨len, hlen⟩ : ∃ n, n = l.length := ⟨_, rfl⟩
  have HLEN := hid hlen
  rw [← hlen] at hl hl2 ⊢
  clear hlen hg
  go_enter Tryd.func21, Tryd.ntmps21
  go_wp2_with fail
  refine (HM.out _ _ _).mono ?_
  rintro e w1 ⟨rfl, hb⟩
  have B1 := hid hb
  clear hb
  go_wp2_with fail
  have HT := hid (three w1 (.string sk) (.string ⟨#[]⟩) (.string sf) 23)
  have HW := hid (B1.out.alloc B1.out.size (.cells #[.string sk, .string ⟨#[]⟩, .string sf] 23))
  have hsz : w1.heap.size < (w1.alloc (.cells #[.string sk, .string ⟨#[]⟩, .string sf] 23)).heap.size := by simp
  generalize w1.alloc (.cells #[.string sk, .string ⟨#[]⟩, .string sf] 23) = W1 at *
  go_loopw [9, 17] (fun o i wr => ∃ k : Nat, k ≤ len ∧ i = .int .i64 k ∧ Hid (Below W1.heap.size W1 wr) ∧ Hid (OwnT wr W1.heap.size o (dels (l.take k) sk sf))) (fun _ i _ => len - (intOf i).toNat)
  case atStart => exact ⟨0, Nat.zero_le _, rfl, hid (Below.refl _ _), hid (World.ownsRow_nil _ _ _ _)⟩
  case round =>
    obtain ⟨k, hk, rfl, HB, OW⟩ := hrel
    by_cases hlt : k < len
    · have hkl : k < l.length := by rw [← HLEN.out]; exact hlt
      rcases HA.out with h0 | ⟨b, off, rfl, hat⟩
      · omega
      have hbl := hat.1
      have HBW := hid (HW.out.trans (HB.out.mono HW.out.size))
      have c0 : wr.cell? ⟨b, off + k * 3, none⟩ = some (.string l[k].1) := (HBW.out.cell (p := ⟨b, off + k * 3, none⟩) hbl).trans (hat.2 k hkl 0 (by decide))
      have c1 : wr.cell? ⟨b, off + k * 3 + 1, none⟩ = some (.string l[k].2.1) := (HBW.out.cell (p := ⟨b, off + k * 3 + 1, none⟩) hbl).trans (hat.2 k hkl 1 (by decide))
      have c2 : wr.cell? ⟨b, off + k * 3 + 2, none⟩ = some (.string l[k].2.2) := (HBW.out.cell (p := ⟨b, off + k * 3 + 2, none⟩) hbl).trans (hat.2 k hkl 2 (by decide))
      have d0 : wr.cell? ⟨w1.heap.size, 0, none⟩ = some (.string sk) := (HB.out.cell (p := ⟨w1.heap.size, 0, none⟩) hsz).trans HT.out.1
      have d1 : wr.cell? ⟨w1.heap.size, 1, none⟩ = some (.string ⟨#[]⟩) := (HB.out.cell (p := ⟨w1.heap.size, 1, none⟩) hsz).trans HT.out.2.1
      have d2 : wr.cell? ⟨w1.heap.size, 2, none⟩ = some (.string sf) := (HB.out.cell (p := ⟨w1.heap.size, 2, none⟩) hsz).trans HT.out.2.2
      have s1 : w1.heap.size < wr.heap.size := Nat.lt_of_lt_of_le hsz HB.out.size
      have s2 : b < wr.heap.size := Nat.lt_of_lt_of_le hbl HBW.out.size
      have dn := dels_no l sk sf k hkl
      have dy := dels_yes l sk sf k hkl
      have sk' : (dels (l.take k) sk sf).length ≤ k := Nat.le_trans (dels_len _ _ _) (by rw [List.length_take]; omega)
      generalize dels (l.take k) sk sf = S at *
      generalize l[k] = t at *
      obtain ⟨x, y, z⟩ := t
      simp only at c0 c1 c2
      unfold isK eqS at dn dy
      simp only at dn dy
      clear hat
      cases e1 : (x.toList == sk.toList)
      · have HT2 := hid (dy (by rw [e1]; rfl))
        clear dn dy
        go_wp2_with fail
        have A0 := belowA wr (.cells #[.string x, .string y, .string z] 23)
        have n0 := three wr (.string x) (.string y) (.string z) 23
        have T0 : (wr.alloc (.cells #[.string x, .string y, .string z] 23)).drew.cell? ⟨wr.heap.size, 0, none⟩ = some (.string x) ∧ (wr.alloc (.cells #[.string x, .string y, .string z] 23)).drew.cell? ⟨wr.heap.size, 2, none⟩ = some (.string z) ∧ (wr.alloc (.cells #[.string x, .string y, .string z] 23)).drew.cell? ⟨w1.heap.size, 0, none⟩ = some (.string sk) ∧ (wr.alloc (.cells #[.string x, .string y, .string z] 23)).drew.cell? ⟨w1.heap.size, 1, none⟩ = some (.string ⟨#[]⟩) ∧ (wr.alloc (.cells #[.string x, .string y, .string z] 23)).drew.cell? ⟨w1.heap.size, 2, none⟩ = some (.string sf) := ⟨n0.1, n0.2.2, (A0.cell (p := ⟨w1.heap.size, 0, none⟩) s1).trans d0, (A0.cell (p := ⟨w1.heap.size, 1, none⟩) s1).trans d1, (A0.cell (p := ⟨w1.heap.size, 2, none⟩) s1).trans d2⟩
        have hza : wr.heap.size < (wr.alloc (.cells #[.string x, .string y, .string z] 23)).heap.size := by simp
        have hzb : w1.heap.size < (wr.alloc (.cells #[.string x, .string y, .string z] 23)).heap.size := by simp; omega
        have BA := hid (HB.out.alloc HB.out.size (.cells #[.string x, .string y, .string z] 23))
        have OA := hid (ownG_low OW.out A0)
        have n1 := hid n0.2.1
        clear A0 n0
        go_region_held3 (fun W => W.cell? ⟨wr.heap.size, 0, none⟩ = some (.string x) ∧ W.cell? ⟨wr.heap.size, 2, none⟩ = some (.string z) ∧ W.cell? ⟨w1.heap.size, 0, none⟩ = some (.string sk) ∧ W.cell? ⟨w1.heap.size, 1, none⟩ = some (.string ⟨#[]⟩) ∧ W.cell? ⟨w1.heap.size, 2, none⟩ = some (.string sf))
          (first | exact T0 | exact T1)
          (first
            | (go_at_call 45; refine (HM.out _ _ _).mono ?_; rintro e w2 ⟨rfl, hb⟩; have T1 := five_low T0 hb hza hzb; have D1 := hid hb; clear hb))
        have B2 := hid (BA.out.drew.trans (D1.out.mono BA.out.size))
        have O2 := hid (ownG_low (w := (wr.alloc (.cells #[.string x, .string y, .string z] 23))) OA.out ((Below.refl _ _).drew.trans D1.out))
        have n2 : w2.cell? ⟨wr.heap.size, 1, none⟩ = some (.string y) := (D1.out.cell (p := ⟨wr.heap.size, 1, none⟩) hza).trans n1.out
        have nn0 : w2.cell? ⟨wr.heap.size, 0, none⟩ = some (.string x) := T1.1
        have nn2 : w2.cell? ⟨wr.heap.size, 2, none⟩ = some (.string z) := T1.2.1
        have hz2 : wr.heap.size < w2.heap.size := Nat.lt_of_lt_of_le hza D1.out.size
        clear T0 T1 D1 BA OA
        have hws : W1.heap.size ≤ w2.heap.size := B2.out.size
        go_wp2_with (first
          | (at_builtin; refine wpList_append_own _ rfl _ _ 26 rfl W1.heap.size 23 i0 (.agg #[.string ByteArray.empty, .string ByteArray.empty, .string ByteArray.empty]) 3 48 Tryd.underlying26 hi0 hz0 hz1 hz2' rfl (by decide) _ _ _ rfl (World.ownsRow.alloc O2.out _) ⟨w2.heap.size, 0, none⟩ 1 1 [.string x, .string y, .string z] rfl rfl (cell_three_at _ _ _ _ _ _ rfl) (fun x hx => by simp at hx; rcases hx with rfl | rfl | rfl <;> rfl) (by unfold maxLen; omega) (by omega) (by simp; omega) ?_; intro v' w3 hown' hgrow3 hnil3)
          | go_in)
        clear hnil3
        have B3 : Below W1.heap.size W1 w3 := (B2.out.alloc B2.out.size _).grown hgrow3 (by have := B2.out.size; simp; omega) (fun j hj => own_base O2.out j hj)
        exact ⟨⟨k + 1, by omega, by go_num, hid B3, hid (by rw [HT2.out]; exact ownT_snoc hown')⟩, by simp [intOf]; omega⟩
      · cases e2 : (z.toList == sf.toList)
        · have HT2 := hid (dy (by rw [e1, e2]; rfl))
          clear dn dy
          go_wp2_with fail
          have A0 := belowA wr (.cells #[.string x, .string y, .string z] 23)
          have n0 := three wr (.string x) (.string y) (.string z) 23
          have T0 : (wr.alloc (.cells #[.string x, .string y, .string z] 23)).drew.cell? ⟨wr.heap.size, 0, none⟩ = some (.string x) ∧ (wr.alloc (.cells #[.string x, .string y, .string z] 23)).drew.cell? ⟨wr.heap.size, 2, none⟩ = some (.string z) ∧ (wr.alloc (.cells #[.string x, .string y, .string z] 23)).drew.cell? ⟨w1.heap.size, 0, none⟩ = some (.string sk) ∧ (wr.alloc (.cells #[.string x, .string y, .string z] 23)).drew.cell? ⟨w1.heap.size, 1, none⟩ = some (.string ⟨#[]⟩) ∧ (wr.alloc (.cells #[.string x, .string y, .string z] 23)).drew.cell? ⟨w1.heap.size, 2, none⟩ = some (.string sf) := ⟨n0.1, n0.2.2, (A0.cell (p := ⟨w1.heap.size, 0, none⟩) s1).trans d0, (A0.cell (p := ⟨w1.heap.size, 1, none⟩) s1).trans d1, (A0.cell (p := ⟨w1.heap.size, 2, none⟩) s1).trans d2⟩
          have hza : wr.heap.size < (wr.alloc (.cells #[.string x, .string y, .string z] 23)).heap.size := by simp
          have hzb : w1.heap.size < (wr.alloc (.cells #[.string x, .string y, .string z] 23)).heap.size := by simp; omega
          have BA := hid (HB.out.alloc HB.out.size (.cells #[.string x, .string y, .string z] 23))
          have OA := hid (ownG_low OW.out A0)
          have n1 := hid n0.2.1
          clear A0 n0
          go_region_held3 (fun W => W.cell? ⟨wr.heap.size, 0, none⟩ = some (.string x) ∧ W.cell? ⟨wr.heap.size, 2, none⟩ = some (.string z) ∧ W.cell? ⟨w1.heap.size, 0, none⟩ = some (.string sk) ∧ W.cell? ⟨w1.heap.size, 1, none⟩ = some (.string ⟨#[]⟩) ∧ W.cell? ⟨w1.heap.size, 2, none⟩ = some (.string sf))
            (first | exact T0 | exact T1)
            (first
              | (go_at_call 45; refine (HM.out _ _ _).mono ?_; rintro e w2 ⟨rfl, hb⟩; have T1 := five_low T0 hb hza hzb; have D1 := hid hb; clear hb))
          have B2 := hid (BA.out.drew.trans (D1.out.mono BA.out.size))
          have O2 := hid (ownG_low (w := (wr.alloc (.cells #[.string x, .string y, .string z] 23))) OA.out ((Below.refl _ _).drew.trans D1.out))
          have n2 : w2.cell? ⟨wr.heap.size, 1, none⟩ = some (.string y) := (D1.out.cell (p := ⟨wr.heap.size, 1, none⟩) hza).trans n1.out
          have nn0 : w2.cell? ⟨wr.heap.size, 0, none⟩ = some (.string x) := T1.1
          have nn2 : w2.cell? ⟨wr.heap.size, 2, none⟩ = some (.string z) := T1.2.1
          have hz2 : wr.heap.size < w2.heap.size := Nat.lt_of_lt_of_le hza D1.out.size
          clear T0 T1 D1 BA OA
          have hws : W1.heap.size ≤ w2.heap.size := B2.out.size
          go_wp2_with (first
            | (at_builtin; refine wpList_append_own _ rfl _ _ 26 rfl W1.heap.size 23 i0 (.agg #[.string ByteArray.empty, .string ByteArray.empty, .string ByteArray.empty]) 3 48 Tryd.underlying26 hi0 hz0 hz1 hz2' rfl (by decide) _ _ _ rfl (World.ownsRow.alloc O2.out _) ⟨w2.heap.size, 0, none⟩ 1 1 [.string x, .string y, .string z] rfl rfl (cell_three_at _ _ _ _ _ _ rfl) (fun x hx => by simp at hx; rcases hx with rfl | rfl | rfl <;> rfl) (by unfold maxLen; omega) (by omega) (by simp; omega) ?_; intro v' w3 hown' hgrow3 hnil3)
            | go_in)
          clear hnil3
          have B3 : Below W1.heap.size W1 w3 := (B2.out.alloc B2.out.size _).grown hgrow3 (by have := B2.out.size; simp; omega) (fun j hj => own_base O2.out j hj)
          exact ⟨⟨k + 1, by omega, by go_num, hid B3, hid (by rw [HT2.out]; exact ownT_snoc hown')⟩, by simp [intOf]; omega⟩
        · have HT2 := hid (dn (by rw [e1, e2]; rfl))
          clear dn dy
          go_wp2_with fail
          have A0 := belowA wr (.cells #[.string x, .string y, .string z] 23)
          have n0 := three wr (.string x) (.string y) (.string z) 23
          have T0 : (wr.alloc (.cells #[.string x, .string y, .string z] 23)).drew.cell? ⟨wr.heap.size, 0, none⟩ = some (.string x) ∧ (wr.alloc (.cells #[.string x, .string y, .string z] 23)).drew.cell? ⟨wr.heap.size, 2, none⟩ = some (.string z) ∧ (wr.alloc (.cells #[.string x, .string y, .string z] 23)).drew.cell? ⟨w1.heap.size, 0, none⟩ = some (.string sk) ∧ (wr.alloc (.cells #[.string x, .string y, .string z] 23)).drew.cell? ⟨w1.heap.size, 1, none⟩ = some (.string ⟨#[]⟩) ∧ (wr.alloc (.cells #[.string x, .string y, .string z] 23)).drew.cell? ⟨w1.heap.size, 2, none⟩ = some (.string sf) := ⟨n0.1, n0.2.2, (A0.cell (p := ⟨w1.heap.size, 0, none⟩) s1).trans d0, (A0.cell (p := ⟨w1.heap.size, 1, none⟩) s1).trans d1, (A0.cell (p := ⟨w1.heap.size, 2, none⟩) s1).trans d2⟩
          have hza : wr.heap.size < (wr.alloc (.cells #[.string x, .string y, .string z] 23)).heap.size := by simp
          have hzb : w1.heap.size < (wr.alloc (.cells #[.string x, .string y, .string z] 23)).heap.size := by simp; omega
          have BA := hid (HB.out.alloc HB.out.size (.cells #[.string x, .string y, .string z] 23))
          have OA := hid (ownG_low OW.out A0)
          have n1 := hid n0.2.1
          clear A0 n0
          go_region_held3 (fun W => W.cell? ⟨wr.heap.size, 0, none⟩ = some (.string x) ∧ W.cell? ⟨wr.heap.size, 2, none⟩ = some (.string z) ∧ W.cell? ⟨w1.heap.size, 0, none⟩ = some (.string sk) ∧ W.cell? ⟨w1.heap.size, 1, none⟩ = some (.string ⟨#[]⟩) ∧ W.cell? ⟨w1.heap.size, 2, none⟩ = some (.string sf))
            (first | exact T0 | exact T1)
            (first
              | (go_at_call 45; refine (HM.out _ _ _).mono ?_; rintro e w2 ⟨rfl, hb⟩; have T1 := five_low T0 hb hza hzb; have D1 := hid hb; clear hb))
          have B2 := hid (BA.out.drew.trans (D1.out.mono BA.out.size))
          have O2 := hid (ownG_low (w := (wr.alloc (.cells #[.string x, .string y, .string z] 23))) OA.out ((Below.refl _ _).drew.trans D1.out))
          have n2 : w2.cell? ⟨wr.heap.size, 1, none⟩ = some (.string y) := (D1.out.cell (p := ⟨wr.heap.size, 1, none⟩) hza).trans n1.out
          have nn0 : w2.cell? ⟨wr.heap.size, 0, none⟩ = some (.string x) := T1.1
          have nn2 : w2.cell? ⟨wr.heap.size, 2, none⟩ = some (.string z) := T1.2.1
          have hz2 : wr.heap.size < w2.heap.size := Nat.lt_of_lt_of_le hza D1.out.size
          clear T0 T1 D1 BA OA
          go_wp2_with fail
          exact ⟨⟨k + 1, by omega, by go_num, B2, hid (by rw [HT2.out]; exact O2.out)⟩, by simp [intOf]; omega⟩
    · obtain rfl : k = len := by omega
      have o := OW.out
      rw [show l.take k = l by rw [HLEN.out, List.take_length]] at o
      have O := hid (row_base o HW.out.size)
      obtain ⟨a', cap', e, _⟩ := (ownG_came o).items
      subst e
      have hdl := dels_len l sk sf
      rw [← HLEN.out] at hdl
      have HBW := hid (HW.out.trans (HB.out.mono HW.out.size))
      clear o
      generalize hD : (dels l sk sf).length = D at *
      go_wp2_with fail
      go_ret2
      exact ⟨_, by rw [hD]; rfl, O.out, HBW.out⟩
def CE (l : List Tn) (at' e : Int) : Prop := (16 < l.length ∧ at' = 0 ∧ e = 44) ∨ (l.length ≤ 16 ∧ ((∃ (k : Nat) (hk : k < l.length), at' = (k : Int) ∧ e = tE l[k] ∧ e ≠ 0 ∧ ∀ j (hj : j < l.length), j < k → tE l[j] = 0) ∨ (at' = 0 ∧ e = 0 ∧ ∀ j (hj : j < l.length), tE l[j] = 0)))
set_option maxHeartbeats 4000000 in
theorem each_any (v : Value) (l : List Tn) (w : World) (hc : ItemsG 3 tf w v l) (hg : GoodT l) : Calls Tryd.prog 41 #[v] w fun e w' => ∃ at' er : Int, e = .returned (.tuple #[.int .i64 at', .int .i64 er]) ∧ CE l at' er ∧ Below w.heap.size w w' := by
  have hl := hg.1.1
  unfold maxLen at hl
  obtain ⟨a, cap, rfl, hc⟩ := hc
  have HA := hid hc
  have HM := hid (fun k (hk : k < l.length) W => ctaint_any l[k] W (hg.2 _ (List.getElem_mem hk) 0 (by decide)) (hg.2 _ (List.getElem_mem hk) 1 (by decide)))
  clear hc
  obtain ⟨len, hlen⟩ : ∃ n, n = l.length := ⟨_, rfl⟩
  have HLEN := hid hlen
  rw [← hlen] at hl ⊢
  clear hlen hg
  by_cases h16 : 16 < len
  · have g : (16 : Int) < (len : Int) := by omega
    go_enter Tryd.func41, Tryd.ntmps41
    go_wp2_with fail
    go_ret2
    exact ⟨0, 44, rfl, Or.inl ⟨by rw [← HLEN.out]; exact h16, rfl, rfl⟩, Below.refl _ _⟩
  · have g : ¬ (16 : Int) < (len : Int) := by omega
    go_enter Tryd.func41, Tryd.ntmps41
    go_wp2_with fail
    go_loopw [12] (fun i wr => ∃ k : Nat, k ≤ len ∧ i = .int .i64 k ∧ Hid (Below w.heap.size w wr) ∧ Hid (∀ j (hj : j < l.length), j < k → tE l[j] = 0)) (fun i _ => len - (intOf i).toNat)
    case atStart => exact ⟨0, Nat.zero_le _, rfl, hid (Below.refl _ _), hid (fun j hj h => by omega)⟩
    case round =>
      obtain ⟨k, hk, rfl, HB, HO⟩ := hrel
      have hws : w.heap.size ≤ wr.heap.size := HB.out.size
      by_cases hlt : k < len
      · have hkl : k < l.length := by rw [← HLEN.out]; exact hlt
        rcases HA.out with h0 | ⟨b, off, rfl, hat⟩
        · omega
        have hbl := hat.1
        have c0 : wr.cell? ⟨b, off + k * 3, none⟩ = some (.string l[k].1) := (HB.out.cell (p := ⟨b, off + k * 3, none⟩) hbl).trans (hat.2 k hkl 0 (by decide))
        have c1 : wr.cell? ⟨b, off + k * 3 + 1, none⟩ = some (.string l[k].2.1) := (HB.out.cell (p := ⟨b, off + k * 3 + 1, none⟩) hbl).trans (hat.2 k hkl 1 (by decide))
        have c2 : wr.cell? ⟨b, off + k * 3 + 2, none⟩ = some (.string l[k].2.2) := (HB.out.cell (p := ⟨b, off + k * 3 + 2, none⟩) hbl).trans (hat.2 k hkl 2 (by decide))
        have s2 : b < wr.heap.size := Nat.lt_of_lt_of_le hbl HB.out.size
        have HMk := hid (fun W => HM.out k hkl W)
        have HOk := hid (fun h : tE l[k] = 0 => show ∀ j (hj : j < l.length), j < k + 1 → tE l[j] = 0 from fun j hj h' => by
          by_cases e : j < k
          · exact HO.out j hj e
          · obtain rfl : j = k := by omega
            exact h)
        have HX := hid (fun h : tE l[k] ≠ 0 => show CE l (k : Int) (tE l[k]) from Or.inr ⟨by rw [← HLEN.out]; omega, Or.inl ⟨k, hkl, rfl, rfl, h, HO.out⟩⟩)
        generalize tE l[k] = er at *
        generalize l[k] = t at *
        obtain ⟨x, y, z⟩ := t
        simp only [tv] at HMk c0 c1 c2
        clear hat HO
        by_cases he : er = 0
        · have HO2 := hid (HOk.out he)
          subst he
          clear HX HOk
          go_wp2_with fail
          refine (HMk.out _).mono ?_
          rintro e w2 ⟨rfl, hb⟩
          have B2 := hid ((HB.out.alloc hws (.cells #[.string x, .string y, .string z] 23)).trans (hb.mono (HB.out.alloc hws _).size))
          clear hb
          go_wp2_with fail
          exact ⟨⟨k + 1, by omega, by go_num, B2, HO2⟩, by simp [intOf]; omega⟩
        · have HX2 := hid (HX.out he)
          have he' : (er != 0) = true := by simpa using he
          clear HX HOk he
          go_wp2_with fail
          refine (HMk.out _).mono ?_
          rintro e w2 ⟨rfl, hb⟩
          have B2 := hid ((HB.out.alloc hws (.cells #[.string x, .string y, .string z] 23)).trans (hb.mono (HB.out.alloc hws _).size))
          clear hb
          go_wp2_with fail
          go_ret2
          exact ⟨_, _, rfl, HX2.out, B2.out⟩
      · obtain rfl : k = len := by omega
        have HX := hid (show CE l 0 0 from Or.inr ⟨by rw [← HLEN.out]; omega, Or.inr ⟨rfl, rfl, fun j hj => HO.out j hj (by rw [HLEN.out]; exact hj)⟩⟩)
        clear HO
        go_wp2
        go_ret2
        exact ⟨_, _, rfl, HX.out, HB.out⟩
theorem ce_one {l : List Tn} {a e a' e' : Int} (h : CE l a e) (h' : CE l a' e') : a = a' ∧ e = e' := by
  rcases h with ⟨h0, rfl, rfl⟩ | ⟨h0, ⟨k, hk, rfl, rfl, hne, hb⟩ | ⟨rfl, rfl, ha⟩⟩ <;> rcases h' with ⟨h0', rfl, rfl⟩ | ⟨h0', ⟨k', hk', rfl, rfl, hne', hb'⟩ | ⟨rfl, rfl, ha'⟩⟩
  · exact ⟨rfl, rfl⟩
  · omega
  · omega
  · omega
  · have e1 : ¬ k < k' := fun c => hne (hb' k hk c)
    have e2 : ¬ k' < k := fun c => hne' (hb k' hk' c)
    obtain rfl : k = k' := by omega
    exact ⟨rfl, rfl⟩
  · exact absurd (ha' k hk) hne
  · omega
  · exact absurd (ha k' hk') hne'
  · exact ⟨rfl, rfl⟩
end Go.Proofs.YtppblibcbjpfnaaDoor.L
