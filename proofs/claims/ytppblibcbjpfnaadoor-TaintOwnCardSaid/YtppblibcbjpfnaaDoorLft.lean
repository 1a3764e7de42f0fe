import Derived.Test.YtppblibcbjpfnaaDoorMtc
namespace Go.Proofs.YtppblibcbjpfnaaDoor.L
open Go.RowKit
set_option linter.unusedVariables false
/-- Does one of them tolerate it? -/
def mts (os : List To) (t : Tn) : Bool := os.any fun o => mt o t
theorem any_none {os : List To} {t : Tn} (h : ∀ k (hk : k < os.length), mt os[k] t = false) : mts os t = false := by
  unfold mts
  rw [Bool.eq_false_iff]
  intro e
  obtain ⟨x, hx, e⟩ := List.any_eq_true.1 e
  obtain ⟨k, hk, rfl⟩ := List.getElem_of_mem hx
  rw [h k hk] at e
  cases e
theorem any_one {os : List To} {t : Tn} {k : Nat} (hk : k < os.length) (h : mt os[k] t = true) : mts os t = true := List.any_eq_true.2 ⟨os[k], List.getElem_mem hk, h⟩
set_option maxHeartbeats 4000000 in
theorem matched_any (v : Value) (os : List To) (t : Tn) (w : World) (hc : ItemsG 4 ofn w v os) (hg : os.length ≤ maxLen) : Calls Tryd.prog 46 #[v, tv t] w fun e w' => e = .returned (.bool (mts os t)) ∧ Below w.heap.size w w' := by
  unfold maxLen at hg
  obtain ⟨a, cap, rfl, hc⟩ := hc
  have HM := hid (fun (k : Nat) (hk : k < os.length) W => match_any os[k] t W)
  have HX := hid (fun (k : Nat) (hk : k < os.length) (h : mt os[k] t = true) => any_one hk h)
  have HY := hid (fun h => any_none (os := os) (t := t) h)
  have HA := hid hc
  clear hc
  obtain ⟨len, hlen⟩ : ∃ n, n = os.length := ⟨_, rfl⟩
  have HLEN := hid hlen
  rw [← hlen] at hg ⊢
  clear hlen
  obtain ⟨t0, t1, t2⟩ := t
  simp only [tv] at *
  have HW := hid (belowA w (.cells #[.string t0, .string t1, .string t2] 23))
  have HT := hid (three w (.string t0) (.string t1) (.string t2) 23)
  go_enter Tryd.func46, Tryd.ntmps46
  go_wp2
  generalize hW1 : w.alloc (.cells #[.string t0, .string t1, .string t2] 23) = W1 at *
  have hsz : w.heap.size < W1.heap.size := by rw [← hW1]; simp
  clear hW1
  go_loopw [9] (fun i wr => ∃ k : Nat, k ≤ len ∧ i = .int .i64 k ∧ Hid (Below W1.heap.size W1 wr) ∧ Hid (∀ j (hj : j < os.length), j < k → mt os[j] (t0, t1, t2) = false)) (fun i _ => len - (intOf i).toNat)
  case atStart => exact ⟨0, Nat.zero_le _, rfl, hid (Below.refl _ _), hid (fun j hj h => by omega)⟩
  case round =>
    obtain ⟨k, hk, rfl, HB, HO⟩ := hrel
    by_cases hlt : k < len
    · have hkl : k < os.length := by rw [← HLEN.out]; exact hlt
      rcases HA.out with h0 | ⟨b, off, rfl, hat⟩
      · omega
      have hbl := hat.1
      have HBW := hid (HW.out.trans (HB.out.mono HW.out.size))
      have c0 : wr.cell? ⟨b, off + k * 4, none⟩ = some (.string os[k].1) := (HBW.out.cell (p := ⟨b, off + k * 4, none⟩) hbl).trans (hat.2 k hkl 0 (by decide))
      have c1 : wr.cell? ⟨b, off + k * 4 + 1, none⟩ = some (.string os[k].2.1) := (HBW.out.cell (p := ⟨b, off + k * 4 + 1, none⟩) hbl).trans (hat.2 k hkl 1 (by decide))
      have c2 : wr.cell? ⟨b, off + k * 4 + 2, none⟩ = some (.string os[k].2.2.1) := (HBW.out.cell (p := ⟨b, off + k * 4 + 2, none⟩) hbl).trans (hat.2 k hkl 2 (by decide))
      have c3 : wr.cell? ⟨b, off + k * 4 + 3, none⟩ = some (.string os[k].2.2.2) := (HBW.out.cell (p := ⟨b, off + k * 4 + 3, none⟩) hbl).trans (hat.2 k hkl 3 (by decide))
      have d0 : wr.cell? ⟨w.heap.size, 0, none⟩ = some (.string t0) := (HB.out.cell (p := ⟨w.heap.size, 0, none⟩) hsz).trans HT.out.1
      have d1 : wr.cell? ⟨w.heap.size, 1, none⟩ = some (.string t1) := (HB.out.cell (p := ⟨w.heap.size, 1, none⟩) hsz).trans HT.out.2.1
      have d2 : wr.cell? ⟨w.heap.size, 2, none⟩ = some (.string t2) := (HB.out.cell (p := ⟨w.heap.size, 2, none⟩) hsz).trans HT.out.2.2
      have s1 : w.heap.size < wr.heap.size := Nat.lt_of_lt_of_le hsz HB.out.size
      have s2 : b < wr.heap.size := Nat.lt_of_lt_of_le hbl HBW.out.size
      have HMk := hid (fun W => HM.out k hkl W)
      have HXk := hid (HX.out k hkl)
      have HOk := hid (fun h : mt os[k] (t0, t1, t2) = false => show ∀ j (hj : j < os.length), j < k + 1 → mt os[j] (t0, t1, t2) = false from fun j hj h' => by
        by_cases e : j < k
        · exact HO.out j hj e
        · obtain rfl : j = k := by omega
          exact h)
      generalize os[k] = o at *
      obtain ⟨x0, x1, x2, x3⟩ := o
      simp only [ov] at HMk c0 c1 c2 c3
      cases em : mt (x0, x1, x2, x3) (t0, t1, t2)
      · rw [em] at HMk
        have HO2 := hid (HOk.out em)
        clear em HOk HXk HO HM HX HY hat
        go_wp2_with fail
        refine (HMk.out _).mono ?_
        rintro e w2 ⟨rfl, hb⟩
        have HB2 := hid ((HB.out.alloc HB.out.size (.cells #[.string x0, .string x1, .string x2, .string x3] 25)).trans (hb.mono (HB.out.alloc HB.out.size _).size))
        clear hb
        go_wp2_with fail
        exact ⟨⟨k + 1, by omega, by go_num, HB2, HO2⟩, by simp [intOf]; omega⟩
      · rw [em] at HMk
        have HN := hid (HXk.out em)
        clear em HOk HXk HO HM HX HY hat
        go_wp2_with fail
        refine (HMk.out _).mono ?_
        rintro e w2 ⟨rfl, hb⟩
        have HB2 := hid ((HB.out.alloc HB.out.size (.cells #[.string x0, .string x1, .string x2, .string x3] 25)).trans (hb.mono (HB.out.alloc HB.out.size _).size))
        clear hb
        go_wp2_with fail
        go_ret
        exact ⟨ret_bool HN.out.symm, HW.out.trans (HB2.out.mono HW.out.size)⟩
    · obtain rfl : k = len := by omega
      have HN := hid (HY.out (fun j hj => HO.out j hj (by rw [HLEN.out]; exact hj)))
      clear HO HX HY HM
      go_wp2
      go_ret
      exact ⟨ret_bool HN.out.symm, HW.out.trans (HB.out.mono HW.out.size)⟩
/-- The taints of an effect that nothing tolerates. -/
def keepB (os : List To) (f : ByteArray) (t : Tn) : Bool := eqS t.2.2 f && !mts os t
def lft (l : List Tn) (os : List To) (f : ByteArray) : List Tn := l.filter (keepB os f)
theorem lft_yes (l : List Tn) (os : List To) (f : ByteArray) (k : Nat) (h : k < l.length) (c : keepB os f l[k] = true) : lft (l.take (k + 1)) os f = lft (l.take k) os f ++ [l[k]] := by
  unfold lft
  rw [List.take_succ_eq_append_getElem h, List.filter_append, List.filter_cons_of_pos c]
  rfl
theorem lft_no (l : List Tn) (os : List To) (f : ByteArray) (k : Nat) (h : k < l.length) (c : keepB os f l[k] = false) : lft (l.take (k + 1)) os f = lft (l.take k) os f := by
  unfold lft
  rw [List.take_succ_eq_append_getElem h, List.filter_append, List.filter_cons_of_neg (by rw [c]; decide)]
  simp
theorem lft_len (l : List Tn) (os : List To) (f : ByteArray) : (lft l os f).length ≤ l.length := List.length_filter_le _ _
theorem cell_three_at (w : World) (b : Nat) (x y z : Value) (t : TypeId) (hb : b = w.heap.size) : ∀ (j : Nat) (u : Value), [x, y, z][j]? = some u → (w.alloc (.cells #[x, y, z] t)).cell? ((⟨b, 0, none⟩ : Addr).add j) = some u := by
  subst hb
  intro j u hu
  rw [Go.WideShapes.add_plain]
  have h : (w.alloc (.cells #[x, y, z] t)).heap[w.heap.size]? = some (.cells #[x, y, z] t) := by
    show (w.heap.push _)[w.heap.size]? = _
    simp
  unfold World.cell?
  rw [h]
  match j, hu with
  | 0, hu => simpa using hu
  | 1, hu => simpa using hu
  | 2, hu => simpa using hu
  | n + 3, hu => simp at hu
theorem cellsT_snoc (l : List Tn) (x y z : ByteArray) : cellsG 3 tf (l ++ [(x, y, z)]) = cellsG 3 tf l ++ [.string x, .string y, .string z] := by
  rw [cellsG_app]
  rfl
theorem ownT_snoc {w : World} {base : Nat} {v : Value} {l : List Tn} {x y z : ByteArray} (h : w.ownsRow base 23 3 v (l.length + 1) (cellsG 3 tf l ++ [.string x, .string y, .string z])) : OwnT w base v (l ++ [(x, y, z)]) := by
  show w.ownsRow _ _ _ _ _ _
  rw [cellsT_snoc, List.length_append]
  exact h
set_option maxHeartbeats 4000000 in
set_option maxRecDepth 100000 in
theorem left_any (v vo : Value) (l : List Tn) (os : List To) (f : ByteArray) (w : World) (hi : ItemsG 3 tf w v l) (ho : ItemsG 4 ofn w vo os) (hg : GoodT l) (hgo : os.length ≤ maxLen) :
    Calls Tryd.prog 23 #[v, vo, .string f] w fun e w' => ∃ v', e = .returned v' ∧ OwnT w' w.heap.size v' (lft l os f) ∧ Below w.heap.size w w' := by
  obtain ⟨i0, hi0, hz0, hz1, hz2⟩ := info_parts infoT
  obtain ⟨a, cap, rfl, hi⟩ := hi
  have hl := hg.1.1
  have hl2 := hg.1.2
  have HM := hid (fun (t : Tn) W (hb : Below w.heap.size w W) => matched_any vo os t W (ho.low hb) hgo)
  have HA := hid hi
  clear hi ho hgo
  obtain ⟨len, hlen⟩ : ∃ n, n = l.length := ⟨_, rfl⟩
  rw [← hlen] at hl hl2 ⊢
  have HLEN := hid hlen
  clear hlen hg
  go_enter Tryd.func23, Tryd.ntmps23
  go_wp2
  go_loopw [7, 12] (fun o i wr => ∃ k : Nat, k ≤ len ∧ i = .int .i64 k ∧ Hid (Below w.heap.size w wr) ∧ Hid (OwnT wr w.heap.size o (lft (l.take k) os f))) (fun _ i _ => len - (intOf i).toNat)
  case atStart => exact ⟨0, Nat.zero_le _, rfl, hid (Below.refl _ _), hid (World.ownsRow_nil _ _ _ _)⟩
  case round =>
    obtain ⟨k, hk, rfl, HB, OW⟩ := hrel
    have hws : w.heap.size ≤ wr.heap.size := HB.out.size
    by_cases hlt : k < len
    · have hkl : k < l.length := by rw [← HLEN.out]; exact hlt
      rcases HA.out with h0 | ⟨b, off, rfl, hat⟩
      · omega
      have hbl := hat.1
      have c0 : wr.cell? ⟨b, off + k * 3, none⟩ = some (.string l[k].1) := (HB.out.cell (p := ⟨b, off + k * 3, none⟩) hbl).trans (hat.2 k hkl 0 (by decide))
      have c1 : wr.cell? ⟨b, off + k * 3 + 1, none⟩ = some (.string l[k].2.1) := (HB.out.cell (p := ⟨b, off + k * 3 + 1, none⟩) hbl).trans (hat.2 k hkl 1 (by decide))
      have c2 : wr.cell? ⟨b, off + k * 3 + 2, none⟩ = some (.string l[k].2.2) := (HB.out.cell (p := ⟨b, off + k * 3 + 2, none⟩) hbl).trans (hat.2 k hkl 2 (by decide))
      have hsz : b < wr.heap.size := Nat.lt_of_lt_of_le hbl HB.out.size
      have dn := lft_no l os f k hkl
      have dy := lft_yes l os f k hkl
      have sk : (lft (l.take k) os f).length ≤ k := Nat.le_trans (lft_len _ _ _) (by rw [List.length_take]; omega)
      have HMk := hid (fun W hb => HM.out l[k] W hb)
      generalize lft (l.take k) os f = S at *
      generalize l[k] = t at *
      unfold keepB at dn dy
      obtain ⟨x, y, z⟩ := t
      simp only [tv] at HMk c0 c1 c2 dn dy
      unfold eqS at dn dy
      clear hat HM
      cases e1 : (z.toList == f.toList)
      · have HT := hid (dn (by rw [e1]; rfl))
        clear dn dy
        go_wp2_with fail
        exact ⟨⟨k + 1, by omega, by go_num, hid (HB.out.alloc hws _), hid (by rw [HT.out]; exact ownG_low OW.out (belowA _ _))⟩, by simp [intOf]; omega⟩
      · cases e2 : mts os (x, y, z)
        · have HT := hid (dy (by rw [e1, e2]; rfl))
          rw [e2] at HMk
          clear dn dy e2
          go_wp2_with fail
          refine (HMk.out _ (HB.out.alloc hws _)).mono ?_
          rintro e w2 ⟨rfl, hb⟩
          have d0 : w2.cell? ⟨wr.heap.size, 0, none⟩ = some (.string x) := (hb.cell (p := ⟨wr.heap.size, 0, none⟩) (by simp)).trans (three wr _ _ _ _).1
          have d1 : w2.cell? ⟨wr.heap.size, 1, none⟩ = some (.string y) := (hb.cell (p := ⟨wr.heap.size, 1, none⟩) (by simp)).trans (three wr _ _ _ _).2.1
          have d2 : w2.cell? ⟨wr.heap.size, 2, none⟩ = some (.string z) := (hb.cell (p := ⟨wr.heap.size, 2, none⟩) (by simp)).trans (three wr _ _ _ _).2.2
          have OW2 := hid (ownG_low (ownG_low OW.out (belowA _ _)) hb)
          have HB2 := hid ((HB.out.alloc hws (.cells #[.string x, .string y, .string z] 23)).trans (hb.mono (HB.out.alloc hws _).size))
          have hs2 : wr.heap.size < w2.heap.size := by
            have := hb.size
            simp at this
            omega
          clear hb
          go_wp2_with (first
            | (at_builtin; refine wpList_append_own _ rfl _ _ 26 rfl w.heap.size 23 i0 (.agg #[.string ByteArray.empty, .string ByteArray.empty, .string ByteArray.empty]) 3 48 Tryd.underlying26 hi0 hz0 hz1 hz2 rfl (by decide) _ _ _ rfl (World.ownsRow.alloc OW2.out _) ⟨w2.heap.size, 0, none⟩ 1 1 [.string x, .string y, .string z] rfl rfl (cell_three_at _ _ _ _ _ _ rfl) (fun x hx => by simp at hx; rcases hx with rfl | rfl | rfl <;> rfl) (by unfold maxLen at *; omega) (by omega) (by simp; omega) ?_; intro v' w3 hown' hgrow3 hnil3)
            | go_in)
          clear hnil3
          have B3 : Below w.heap.size w w3 := (HB2.out.alloc HB2.out.size _).grown hgrow3 (by simp; omega) (fun j hj => own_base OW2.out j hj)
          exact ⟨⟨k + 1, by omega, by go_num, hid B3, hid (by rw [HT.out]; exact ownT_snoc hown')⟩, by simp [intOf]; omega⟩
        · have HT := hid (dn (by rw [e1, e2]; rfl))
          rw [e2] at HMk
          clear dn dy e2
          go_wp2_with fail
          refine (HMk.out _ (HB.out.alloc hws _)).mono ?_
          rintro e w2 ⟨rfl, hb⟩
          have OW2 := hid (ownG_low (ownG_low OW.out (belowA _ _)) hb)
          have HB2 := hid ((HB.out.alloc hws (.cells #[.string x, .string y, .string z] 23)).trans (hb.mono (HB.out.alloc hws _).size))
          clear hb
          go_wp2_with fail
          exact ⟨⟨k + 1, by omega, by go_num, HB2, hid (by rw [HT.out]; exact OW2.out)⟩, by simp [intOf]; omega⟩
    · obtain rfl : k = len := by omega
      have o := OW.out
      rw [show l.take k = l by rw [HLEN.out, List.take_length]] at o
      have O := hid o
      clear o
      go_wp2_with fail
      go_ret
      exact ⟨_, rfl, O.out, HB.out⟩
end Go.Proofs.YtppblibcbjpfnaaDoor.L
