import Derived.Test.YtppblibcbjpfnaaDoorQck
import Derived.Test.YtppblibcbjpfnaaDoorTl8
namespace Go.Proofs.YtppblibcbjpfnaaDoor.L
open Go.RowKit
set_option linter.unusedVariables false
set_option maxHeartbeats 4000000 in
theorem qsame_any (x y : Tn) (w : World) : Calls Tryd.prog 48 #[tv x, tv y] w fun e w' => e = .returned (.bool (isK y.1 y.2.2 x)) ∧ Below w.heap.size w w' := by
  obtain ⟨a, b, c⟩ := x
  obtain ⟨p, q, r⟩ := y
  simp only [tv, isK, eqS]
  have HB := hid (below2 w (.cells #[.string a, .string b, .string c] 23) (.cells #[.string p, .string q, .string r] 23))
  cases e1 : (a.toList == p.toList)
  · go_enter Tryd.func48, Tryd.ntmps48
    go_wp2
    go_ret
    exact ⟨rfl, HB.out⟩
  · cases e2 : (c.toList == r.toList) <;>
    · go_enter Tryd.func48, Tryd.ntmps48
      go_wp2
      go_ret
      exact ⟨rfl, HB.out⟩
set_option maxHeartbeats 4000000 in
theorem qabove_any (x y : Tn) (w : World) : Calls Tryd.prog 64 #[tv x, tv y] w fun e w' => e = .returned (.bool (tltB y x)) ∧ Below w.heap.size w w' := by
  obtain ⟨a, b, c⟩ := x
  obtain ⟨p, q, r⟩ := y
  obtain ⟨z, hz⟩ : ∃ z, z = tltB (p, q, r) (a, b, c) := ⟨_, rfl⟩
  rw [← hz]
  simp only [tv, tltB, eqS] at *
  have HB := hid (below2 w (.cells #[.string a, .string b, .string c] 23) (.cells #[.string p, .string q, .string r] 23))
  rcases less_total a.toList p.toList with g | g | g
  · obtain ⟨g1, g2, g3⟩ := less_asymm _ _ g
    have HZ := hid (show z = false by rw [hz, g1, g3]; rfl)
    clear hz g1 g3
    go_enter Tryd.func64, Tryd.ntmps64
    go_wp2
    go_ret
    exact ⟨by rw [HZ.out]; rfl, HB.out⟩
  · have q1 : (a.toList == p.toList) = true := by rw [g]; simp
    have q2 : (p.toList == a.toList) = true := by rw [g]; simp
    have q3 : Op.bytesLess a.toList p.toList = false := by rw [g]; exact less_irrefl _
    have q4 : Op.bytesLess p.toList a.toList = false := by rw [g]; exact less_irrefl _
    rw [q2, q4] at hz
    clear q2 q4 g
    rcases less_total c.toList r.toList with f | f | f
    · obtain ⟨f1, f2, f3⟩ := less_asymm _ _ f
      have HZ := hid (show z = false by rw [hz, f1]; rfl)
      clear hz f1 f3
      go_enter Tryd.func64, Tryd.ntmps64
      go_wp2
      go_ret
      exact ⟨by rw [HZ.out]; rfl, HB.out⟩
    · have r1 : (c.toList == r.toList) = true := by rw [f]; simp
      have r2 : Op.bytesLess c.toList r.toList = false := by rw [f]; exact less_irrefl _
      have HZ := hid (show z = false by rw [hz, f, less_irrefl]; rfl)
      clear hz f
      go_enter Tryd.func64, Tryd.ntmps64
      go_wp2
      go_ret
      exact ⟨by rw [HZ.out]; rfl, HB.out⟩
    · obtain ⟨f1, f2, f3⟩ := less_asymm _ _ f
      have HZ := hid (show z = true by rw [hz, f]; rfl)
      clear hz f2 f
      go_enter Tryd.func64, Tryd.ntmps64
      go_wp2
      go_ret
      exact ⟨by rw [HZ.out]; rfl, HB.out⟩
  · obtain ⟨g1, g2, g3⟩ := less_asymm _ _ g
    have HZ := hid (show z = true by rw [hz, g]; rfl)
    clear hz g2 g
    go_enter Tryd.func64, Tryd.ntmps64
    go_wp2
    go_ret
    exact ⟨by rw [HZ.out]; rfl, HB.out⟩
/-- What CheckTolerations answers. -/
def CO (l : List To) (at' e : Int) : Prop := (16 < l.length ∧ at' = 0 ∧ e = 47) ∨ (l.length ≤ 16 ∧ ((∃ (k : Nat) (hk : k < l.length), at' = (k : Int) ∧ e = oE l[k] ∧ e ≠ 0 ∧ ∀ j (hj : j < l.length), j < k → oE l[j] = 0) ∨ (at' = 0 ∧ e = 0 ∧ ∀ j (hj : j < l.length), oE l[j] = 0)))
theorem co_one {l : List To} {a e a' e' : Int} (h : CO l a e) (h' : CO l a' e') : a = a' ∧ e = e' := by
  rcases h with ⟨h0, rfl, rfl⟩ | ⟨h0, ⟨k, hk, rfl, rfl, hne, hb⟩ | ⟨rfl, rfl, ha⟩⟩ <;> rcases h' with ⟨h0', rfl, rfl⟩ | ⟨h0', ⟨k', hk', rfl, rfl, hne', hb'⟩ | ⟨rfl, rfl, ha'⟩⟩
  · exact ⟨rfl, rfl⟩
  · omega
  · omega
  · omega
  · have e1 : ¬ k < k' := fun c => hne (hb' k hk c)
    have e2 : ¬ k' < k := fun c => hne' (hb k' hk' c)
    obtain rfl : k = k' := by omega
    exact ⟨rfl, rfl⟩
  · exact absurd (ha' k hk) hne
  · omega
  · exact absurd (ha k' hk') hne'
  · exact ⟨rfl, rfl⟩
theorem oE_range (o : To) : 0 ≤ oE o ∧ oE o ≤ 1000 := by
  unfold oE
  split
  · decide
  · split
    · decide
    · split
      · decide
      · split <;> decide
theorem co_range {l : List To} {a e : Int} (h : CO l a e) : 0 ≤ e ∧ e ≤ 1000 := by
  rcases h with ⟨h0, rfl, rfl⟩ | ⟨h0, ⟨k, hk, rfl, rfl, hne, hb⟩ | ⟨rfl, rfl, ha⟩⟩
  · decide
  · exact oE_range _
  · decide
theorem ce_range {l : List Tn} {a e : Int} (h : CE l a e) : 0 ≤ e ∧ e ≤ 1000 := by
  rcases h with ⟨h0, rfl, rfl⟩ | ⟨h0, ⟨k, hk, rfl, rfl, hne, hb⟩ | ⟨rfl, rfl, ha⟩⟩
  · decide
  · rcases tE_cases l[k] with h | h | h | h <;> rw [h] <;> decide
  · decide
set_option maxHeartbeats 4000000 in
theorem ctols_any (v : Value) (l : List To) (w : World) (hc : ItemsG 4 ofn w v l) (hg : GoodO l) : Calls Tryd.prog 31 #[v] w fun e w' => ∃ at' er : Int, e = .returned (.tuple #[.int .i64 at', .int .i64 er]) ∧ CO l at' er ∧ Below w.heap.size w w' := by
  have hl := hg.1.1
  unfold maxLen at hl
  obtain ⟨a, cap, rfl, hc⟩ := hc
  have HA := hid hc
  have HM := hid (fun k (hk : k < l.length) W => ctol_any l[k] W (hg.2 _ (List.getElem_mem hk) 0 (by decide)) (hg.2 _ (List.getElem_mem hk) 2 (by decide)))
  clear hc
  obtain ⟨len, hlen⟩ : ∃ n, n = l.length := ⟨_, rfl⟩
  have HLEN := hid hlen
  rw [← hlen] at hl ⊢
  clear hlen hg
  by_cases h16 : 16 < len
  · have g : (16 : Int) < (len : Int) := by omega
    go_enter Tryd.func31, Tryd.ntmps31
    go_wp2_with fail
    go_ret2
    exact ⟨0, 47, rfl, Or.inl ⟨by rw [← HLEN.out]; exact h16, rfl, rfl⟩, Below.refl _ _⟩
  · have g : ¬ (16 : Int) < (len : Int) := by omega
    go_enter Tryd.func31, Tryd.ntmps31
    go_wp2_with fail
    go_loopw [12] (fun i wr => ∃ k : Nat, k ≤ len ∧ i = .int .i64 k ∧ Hid (Below w.heap.size w wr) ∧ Hid (∀ j (hj : j < l.length), j < k → oE l[j] = 0)) (fun i _ => len - (intOf i).toNat)
    case atStart => exact ⟨0, Nat.zero_le _, rfl, hid (Below.refl _ _), hid (fun j hj h => by omega)⟩
    case round =>
      obtain ⟨k, hk, rfl, HB, HO⟩ := hrel
      have hws : w.heap.size ≤ wr.heap.size := HB.out.size
      by_cases hlt : k < len
      · have hkl : k < l.length := by rw [← HLEN.out]; exact hlt
        rcases HA.out with h0 | ⟨b, off, rfl, hat⟩
        · omega
        have hbl := hat.1
        have c0 : wr.cell? ⟨b, off + k * 4, none⟩ = some (.string l[k].1) := (HB.out.cell (p := ⟨b, off + k * 4, none⟩) hbl).trans (hat.2 k hkl 0 (by decide))
        have c1 : wr.cell? ⟨b, off + k * 4 + 1, none⟩ = some (.string l[k].2.1) := (HB.out.cell (p := ⟨b, off + k * 4 + 1, none⟩) hbl).trans (hat.2 k hkl 1 (by decide))
        have c2 : wr.cell? ⟨b, off + k * 4 + 2, none⟩ = some (.string l[k].2.2.1) := (HB.out.cell (p := ⟨b, off + k * 4 + 2, none⟩) hbl).trans (hat.2 k hkl 2 (by decide))
        have c3 : wr.cell? ⟨b, off + k * 4 + 3, none⟩ = some (.string l[k].2.2.2) := (HB.out.cell (p := ⟨b, off + k * 4 + 3, none⟩) hbl).trans (hat.2 k hkl 3 (by decide))
        have s2 : b < wr.heap.size := Nat.lt_of_lt_of_le hbl HB.out.size
        have HMk := hid (fun W => HM.out k hkl W)
        have HOk := hid (fun h : oE l[k] = 0 => show ∀ j (hj : j < l.length), j < k + 1 → oE l[j] = 0 from fun j hj h' => by
          by_cases e : j < k
          · exact HO.out j hj e
          · obtain rfl : j = k := by omega
            exact h)
        have HX := hid (fun h : oE l[k] ≠ 0 => show CO l (k : Int) (oE l[k]) from Or.inr ⟨by rw [← HLEN.out]; omega, Or.inl ⟨k, hkl, rfl, rfl, h, HO.out⟩⟩)
        generalize oE l[k] = er at *
        generalize l[k] = t at *
        obtain ⟨x0, x1, x2, x3⟩ := t
        simp only [ov] at HMk c0 c1 c2 c3
        clear hat HO
        by_cases he : er = 0
        · have HO2 := hid (HOk.out he)
          subst he
          clear HX HOk
          go_wp2_with fail
          refine (HMk.out _).mono ?_
          rintro e w2 ⟨rfl, hb⟩
          have B2 := hid ((HB.out.alloc hws (.cells #[.string x0, .string x1, .string x2, .string x3] 25)).trans (hb.mono (HB.out.alloc hws _).size))
          clear hb
          go_wp2_with fail
          exact ⟨⟨k + 1, by omega, by go_num, B2, HO2⟩, by simp [intOf]; omega⟩
        · have HX2 := hid (HX.out he)
          have he' : (er != 0) = true := by simpa using he
          clear HX HOk he
          go_wp2_with fail
          refine (HMk.out _).mono ?_
          rintro e w2 ⟨rfl, hb⟩
          have B2 := hid ((HB.out.alloc hws (.cells #[.string x0, .string x1, .string x2, .string x3] 25)).trans (hb.mono (HB.out.alloc hws _).size))
          clear hb
          go_wp2_with fail
          go_ret2
          exact ⟨_, _, rfl, HX2.out, B2.out⟩
      · obtain rfl : k = len := by omega
        have HX := hid (show CO l 0 0 from Or.inr ⟨by rw [← HLEN.out]; omega, Or.inr ⟨rfl, rfl, fun j hj => HO.out j hj (by rw [HLEN.out]; exact hj)⟩⟩)
        clear HO
        go_wp2
        go_ret2
        exact ⟨_, _, rfl, HX.out, HB.out⟩
theorem any_less (l : List Tn) (k f : ByteArray) : decide ((dels l k f).length < l.length) = l.any (isK k f) := by
  cases e : l.any (isK k f)
  · have : dels l k f = l := by
      unfold dels
      apply List.filter_eq_self.2
      intro x hx
      have := List.any_eq_false.1 e x hx
      simpa using this
    rw [this]
    simp
  · apply decide_eq_true
    obtain ⟨x, hx, hp⟩ := List.any_eq_true.1 e
    unfold dels
    exact List.length_filter_lt_length_iff_exists.2 ⟨x, hx, by simp [hp]⟩
theorem any_take (l : List Tn) (p : Tn → Bool) (k : Nat) (h : k < l.length) : (l.take (k + 1)).any p = ((l.take k).any p || p l[k]) := by
  rw [List.take_succ_eq_append_getElem h, List.any_append]
  simp
set_option maxHeartbeats 4000000 in
set_option maxRecDepth 100000 in
theorem qdel_any (v : Value) (l : List Tn) (sk sf : ByteArray) (w : World) (hc : ItemsG 3 tf w v l) (hg : GoodT l) : Calls Tryd.prog 29 #[v, .string sk, .string sf] w fun e w' => ∃ v', e = .returned (.tuple #[v', .bool (l.any (isK sk sf))]) ∧ OwnT w' w.heap.size v' (dels l sk sf) ∧ Below w.heap.size w w' := by
  obtain ⟨i0, hi0, hz0, hz1, hz2⟩ := info_parts infoT
  have hl := hg.1.1
  have hl2 := hg.1.2
  obtain ⟨a, cap, rfl, hc⟩ := hc
  have HA := hid hc
  clear hc
  obtain ⟨len, hlen⟩ : ∃ n, n = l.length := ⟨_, rfl⟩
  have HLEN := hid hlen
  rw [← hlen] at hl hl2 ⊢
  clear hlen hg
  unfold maxLen at hl
  go_enter Tryd.func29, Tryd.ntmps29
  go_wp2
  go_loopw [8, 9, 10] (fun o hd i wr => ∃ k : Nat, k ≤ len ∧ i = .int .i64 k ∧ hd = .bool ((l.take k).any (isK sk sf)) ∧ Hid (Below w.heap.size w wr) ∧ Hid (OwnT wr w.heap.size o (dels (l.take k) sk sf))) (fun _ _ i _ => len - (intOf i).toNat)
  case atStart => exact ⟨0, Nat.zero_le _, rfl, rfl, hid (Below.refl _ _), hid (World.ownsRow_nil _ _ _ _)⟩
  case round =>
    obtain ⟨k, hk, rfl, rfl, HB, OW⟩ := hrel
    have hws : w.heap.size ≤ wr.heap.size := HB.out.size
    by_cases hlt : k < len
    · have hkl : k < l.length := by rw [← HLEN.out]; exact hlt
      rcases HA.out with h0 | ⟨b, off, rfl, hat⟩
      · omega
      have hbl := hat.1
      have c0 : wr.cell? ⟨b, off + k * 3, none⟩ = some (.string l[k].1) := (HB.out.cell (p := ⟨b, off + k * 3, none⟩) hbl).trans (hat.2 k hkl 0 (by decide))
      have c1 : wr.cell? ⟨b, off + k * 3 + 1, none⟩ = some (.string l[k].2.1) := (HB.out.cell (p := ⟨b, off + k * 3 + 1, none⟩) hbl).trans (hat.2 k hkl 1 (by decide))
      have c2 : wr.cell? ⟨b, off + k * 3 + 2, none⟩ = some (.string l[k].2.2) := (HB.out.cell (p := ⟨b, off + k * 3 + 2, none⟩) hbl).trans (hat.2 k hkl 2 (by decide))
      have s2 : b < wr.heap.size := Nat.lt_of_lt_of_le hbl HB.out.size
      have dn := dels_no l sk sf k hkl
      have dy := dels_yes l sk sf k hkl
      have at1 := any_take l (isK sk sf) k hkl
      have sk' : (dels (l.take k) sk sf).length ≤ k := Nat.le_trans (dels_len _ _ _) (by rw [List.length_take]; omega)
      have gb1 : (k : Int) < (len : Int) := by omega
      have gb2 : (0 : Int) ≤ (k : Int) := by omega
      generalize dels (l.take k) sk sf = S at *
      generalize (l.take k).any (isK sk sf) = ah at *
      generalize hk2 : isK sk sf l[k] = ik at *
      generalize l[k] = t at *
      obtain ⟨x, y, z⟩ := t
      unfold isK eqS at hk2
      simp only at hk2 c0 c1 c2
      clear hat
      cases e1 : (x.toList == sk.toList)
      · rw [e1, Bool.false_and] at hk2
        subst hk2
        have HT := hid (dy rfl)
        have HAH := hid at1
        rw [Bool.or_false] at HAH
        clear dn dy at1
        go_wp2_with (first
          | (at_builtin; refine wpList_append_own _ rfl _ _ 26 rfl w.heap.size 23 i0 (.agg #[.string ByteArray.empty, .string ByteArray.empty, .string ByteArray.empty]) 3 48 Tryd.underlying26 hi0 hz0 hz1 hz2 rfl (by decide) _ _ _ rfl (World.ownsRow.alloc OW.out _) ⟨wr.heap.size, 0, none⟩ 1 1 [.string x, .string y, .string z] rfl rfl (cell_three_at _ _ _ _ _ _ (by simp)) (fun x hx => by simp at hx; rcases hx with rfl | rfl | rfl <;> rfl) (by unfold maxLen; omega) (by omega) (by simp; omega) ?_; intro v' w3 hown' hgrow3 hnil3)
          | go_in)
        clear hnil3
        have B3 : Below w.heap.size w w3 := (HB.out.alloc hws _).grown hgrow3 (by simp; omega) (fun j hj => own_base OW.out j hj)
        exact ⟨⟨k + 1, by omega, by go_num, by rw [HAH.out], hid B3, hid (by rw [HT.out]; exact ownT_snoc hown')⟩, by simp [intOf]; omega⟩
      · rw [e1, Bool.true_and] at hk2
        cases e2 : (z.toList == sf.toList)
        · rw [e2] at hk2
          subst hk2
          have HT := hid (dy rfl)
          have HAH := hid at1
          rw [Bool.or_false] at HAH
          clear dn dy at1
          go_wp2_with (first
            | (at_builtin; refine wpList_append_own _ rfl _ _ 26 rfl w.heap.size 23 i0 (.agg #[.string ByteArray.empty, .string ByteArray.empty, .string ByteArray.empty]) 3 48 Tryd.underlying26 hi0 hz0 hz1 hz2 rfl (by decide) _ _ _ rfl (World.ownsRow.alloc OW.out _) ⟨wr.heap.size, 0, none⟩ 1 1 [.string x, .string y, .string z] rfl rfl (cell_three_at _ _ _ _ _ _ (by simp)) (fun x hx => by simp at hx; rcases hx with rfl | rfl | rfl <;> rfl) (by unfold maxLen; omega) (by omega) (by simp; omega) ?_; intro v' w3 hown' hgrow3 hnil3)
            | go_in)
          clear hnil3
          have B3 : Below w.heap.size w w3 := (HB.out.alloc hws _).grown hgrow3 (by simp; omega) (fun j hj => own_base OW.out j hj)
          exact ⟨⟨k + 1, by omega, by go_num, by rw [HAH.out], hid B3, hid (by rw [HT.out]; exact ownT_snoc hown')⟩, by simp [intOf]; omega⟩
        · rw [e2] at hk2
          subst hk2
          have HT := hid (dn rfl)
          have HAH := hid at1
          rw [Bool.or_true] at HAH
          clear dn dy at1
          go_wp2_with fail
          exact ⟨⟨k + 1, by omega, by go_num, by rw [HAH.out], HB, hid (by rw [HT.out]; exact OW.out)⟩, by simp [intOf]; omega⟩
    · obtain rfl : k = len := by omega
      have o := OW.out
      rw [show l.take k = l by rw [HLEN.out, List.take_length]] at o ⊢
      have O := hid o
      clear o OW
      go_wp2_with fail
      go_ret2
      exact ⟨_, rfl, O.out, HB.out⟩
end Go.Proofs.YtppblibcbjpfnaaDoor.L
