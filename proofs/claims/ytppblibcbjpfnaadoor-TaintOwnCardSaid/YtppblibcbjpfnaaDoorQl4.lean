import Derived.Test.YtppblibcbjpfnaaDoorQl3
namespace Go.Proofs.YtppblibcbjpfnaaDoor.L
open Go.RowKit
set_option linter.unusedVariables false
def NoT (l : List Tn) (n : Nat) (t : Tn) : Prop := (l.take n).any (isK t.1 t.2.2) = false
theorem any_take_no {l : List Tn} {t : Tn} {n : Nat} (hn : n < l.length) (h : (l.take n).any (isK t.1 t.2.2) = false) (h' : isK t.1 t.2.2 l[n] = false) : (l.take (n + 1)).any (isK t.1 t.2.2) = false := by
  rw [List.take_succ_eq_append_getElem hn, List.any_append, h]
  simp [h']
theorem any_take_yes {l : List Tn} {t : Tn} {n m : Nat} (hn : n < l.length) (hnm : n < m) (h' : isK t.1 t.2.2 l[n] = true) : (l.take m).any (isK t.1 t.2.2) = true :=
  List.any_eq_true.2 ⟨l[n], List.mem_take_iff_getElem.2 ⟨n, by omega, rfl⟩, h'⟩
set_option maxHeartbeats 8000000 in
set_option maxRecDepth 100000 in
theorem qmake_any (v : Value) (l : List Tn) (w : World) (hc : ItemsG 3 tf w v l) (hg : GoodT l) : Calls Tryd.prog 27 #[v] w fun e w' => ∃ v' l' at' er, e = .returned (.tuple #[v', .int .i64 at', .int .i64 er]) ∧ Below w.heap.size w w' ∧ MkR l at' er ∧ ((er ≠ 0 ∧ v' = .slice none 0 0) ∨ (er = 0 ∧ ItemsG 3 tf w' v' l' ∧ l'.Perm l ∧ Up l')) := by
  have hl := hg.1.1
  unfold maxLen at hl
  obtain ⟨a, cap, rfl, hc⟩ := hc
  have HA := hid hc
  have HM := hid (fun k (hk : k < l.length) W => qctaint_any l[k] W (hg.2 _ (List.getElem_mem hk) 0 (by decide)) (hg.2 _ (List.getElem_mem hk) 1 (by decide)))
  clear hc
  obtain ⟨len, hlen⟩ : ∃ n, n = l.length := ⟨_, rfl⟩
  have HLEN := hid hlen
  rw [← hlen] at hl ⊢
  clear hlen hg
  by_cases h16 : 16 < len
  · have g : (16 : Int) < (len : Int) := by omega
    go_enter Tryd.func27, Tryd.ntmps27
    go_wp2_with fail
    go_ret3
    exact ⟨_, [], 0, 44, rfl, Below.refl _ _, Or.inl ⟨by decide, Or.inl ⟨by rw [← HLEN.out]; exact h16, rfl, rfl⟩⟩, Or.inl ⟨by decide, rfl⟩⟩
  · have g : ¬ (16 : Int) < (len : Int) := by omega
    go_enter Tryd.func27, Tryd.ntmps27
    go_wp2_with fail
    go_loopw [5] (fun i wr => ∃ k : Nat, k ≤ len ∧ i = .int .i64 k ∧ Hid (Below w.heap.size w wr) ∧ Hid (∀ j (hj : j < l.length), j < k → tE l[j] = 0)) (fun i _ => len - (intOf i).toNat)
    case atStart => exact ⟨0, Nat.zero_le _, rfl, hid (Below.refl _ _), hid (fun j hj h => by omega)⟩
    case round =>
      obtain ⟨k, hk, rfl, HB, HO⟩ := hrel
      have hws : w.heap.size ≤ wr.heap.size := HB.out.size
      by_cases hlt : k < len
      · have hkl : k < l.length := by rw [← HLEN.out]; exact hlt
        rcases HA.out with h0 | ⟨b, off, rfl, hat⟩
        · omega
        have hbl := hat.1
        have c0 : wr.cell? ⟨b, off + k * 3, none⟩ = some (.string l[k].1) := (HB.out.cell (p := ⟨b, off + k * 3, none⟩) hbl).trans (hat.2 (k) hkl 0 (by decide))
        have c1 : wr.cell? ⟨b, off + k * 3 + 1, none⟩ = some (.string l[k].2.1) := (HB.out.cell (p := ⟨b, off + k * 3 + 1, none⟩) hbl).trans (hat.2 (k) hkl 1 (by decide))
        have c2 : wr.cell? ⟨b, off + k * 3 + 2, none⟩ = some (.string l[k].2.2) := (HB.out.cell (p := ⟨b, off + k * 3 + 2, none⟩) hbl).trans (hat.2 (k) hkl 2 (by decide))
        have s2 : b < wr.heap.size := Nat.lt_of_lt_of_le hbl HB.out.size
        have HMk := hid (fun W => HM.out k hkl W)
        have HOk := hid (fun h : tE l[k] = 0 => show ∀ j (hj : j < l.length), j < k + 1 → tE l[j] = 0 from fun j hj h' => by
          by_cases e : j < k
          · exact HO.out j hj e
          · obtain rfl : j = k := by omega
            exact h)
        have HX := hid (fun h : tE l[k] ≠ 0 => show CE l (k : Int) (tE l[k]) from Or.inr ⟨by rw [← HLEN.out]; omega, Or.inl ⟨k, hkl, rfl, rfl, h, HO.out⟩⟩)
        generalize tE l[k] = er at *
        generalize l[k] = t at *
        obtain ⟨x, y, z⟩ := t
        simp only [tv] at HMk c0 c1 c2
        clear hat HO
        by_cases he : er = 0
        · have HO2 := hid (HOk.out he)
          subst he
          clear HX HOk
          go_wp2_with fail
          refine (HMk.out _).mono ?_
          rintro e w2 ⟨rfl, hb⟩
          have B2 := hid (HB.out.trans (hb.mono HB.out.size))
          clear hb
          go_wp2_with fail
          exact ⟨⟨k + 1, by omega, by go_num, B2, HO2⟩, by simp [intOf]; omega⟩
        · have HX2 := hid (HX.out he)
          have he' : (er != 0) = true := by simpa using he
          have HER := hid he
          clear HX HOk he
          go_wp2_with fail
          refine (HMk.out _).mono ?_
          rintro e w2 ⟨rfl, hb⟩
          have B2 := hid (HB.out.trans (hb.mono HB.out.size))
          clear hb
          go_wp2_with fail
          go_ret3
          exact ⟨_, [], _, _, rfl, B2.out, Or.inl ⟨HER.out, HX2.out⟩, Or.inl ⟨HER.out, rfl⟩⟩
      · have HCE := hid (show CE l 0 0 from Or.inr ⟨by rw [← HLEN.out]; omega, Or.inr ⟨rfl, rfl, fun j hj => HO.out j hj (by have := HLEN.out; omega)⟩⟩)
        have H16 := hid (show l.length ≤ 16 by rw [← HLEN.out]; omega)
        have HEA := hid (show ∀ x ∈ l, tE x = 0 from each_mem (fun j hj => HO.out j hj (by have := HLEN.out; omega)))
        have gk : ¬ (k : Int) < (len : Int) := by omega
        have BW := HB
        clear HO HB hws hlt
        generalize wr = wA at *
        go_wp2_with fail
        go_loopw [7] (fun i wr => ∃ k : Nat, k ≤ len ∧ i = .int .i64 k ∧ Hid (Below wA.heap.size wA wr) ∧ Hid (∀ j (hj : j < l.length), j < k → (l.take j).any (isK l[j].1 l[j].2.2) = false)) (fun i _ => len - (intOf i).toNat)
        case atStart => exact ⟨0, Nat.zero_le _, rfl, hid (Below.refl _ _), hid (fun j hj h => by omega)⟩
        case round =>
          obtain ⟨m, hm, rfl, HB, HO⟩ := hrel
          by_cases hlm : m < len
          · have hml : m < l.length := by rw [← HLEN.out]; exact hlm
            have HOk := hid (fun h : (l.take m).any (isK l[m].1 l[m].2.2) = false => show ∀ j (hj : j < l.length), j < m + 1 → (l.take j).any (isK l[j].1 l[j].2.2) = false from fun j hj h' => by
              by_cases e : j < m
              · exact HO.out j hj e
              · obtain rfl : j = m := by omega
                exact h)
            have HX := hid (fun h : (l.take m).any (isK l[m].1 l[m].2.2) = true => show MkR l (m : Int) 45 from Or.inr (Or.inl ⟨HCE.out, rfl, m, hml, rfl, h, HO.out⟩))
            have BC := hid (BW.out.trans (HB.out.mono BW.out.size))
            have BM := HB
            clear HB HO
            have g1 : (m : Int) < (len : Int) := by omega
            have gm0 : (0 : Int) ≤ (m : Int) := by omega
            generalize wr = wB at *
            go_wp2_with fail
            go_loopw [8] (fun i wr => ∃ n : Nat, n ≤ m ∧ i = .int .i64 n ∧ Hid (Below wB.heap.size wB wr) ∧ Hid (NoT l n l[m])) (fun i _ => m - (intOf i).toNat)
            case atStart => exact ⟨0, Nat.zero_le _, rfl, hid (Below.refl _ _), hid (by unfold NoT; simp)⟩
            case round =>
              obtain ⟨n, hn, rfl, HB, HI⟩ := hrel
              by_cases hnm : n < m
              · have hnl : n < l.length := by omega
                rcases HA.out with h0 | ⟨b, off, rfl, hat⟩
                · omega
                have hbl := hat.1
                have HBW := hid (BC.out.trans (HB.out.mono BC.out.size))
                have c0 : wr.cell? ⟨b, off + m * 3, none⟩ = some (.string l[m].1) := (HBW.out.cell (p := ⟨b, off + m * 3, none⟩) hbl).trans (hat.2 (m) hml 0 (by decide))
                have c1 : wr.cell? ⟨b, off + m * 3 + 1, none⟩ = some (.string l[m].2.1) := (HBW.out.cell (p := ⟨b, off + m * 3 + 1, none⟩) hbl).trans (hat.2 (m) hml 1 (by decide))
                have c2 : wr.cell? ⟨b, off + m * 3 + 2, none⟩ = some (.string l[m].2.2) := (HBW.out.cell (p := ⟨b, off + m * 3 + 2, none⟩) hbl).trans (hat.2 (m) hml 2 (by decide))
                have d0 : wr.cell? ⟨b, off + n * 3, none⟩ = some (.string l[n].1) := (HBW.out.cell (p := ⟨b, off + n * 3, none⟩) hbl).trans (hat.2 (n) hnl 0 (by decide))
                have d1 : wr.cell? ⟨b, off + n * 3 + 1, none⟩ = some (.string l[n].2.1) := (HBW.out.cell (p := ⟨b, off + n * 3 + 1, none⟩) hbl).trans (hat.2 (n) hnl 1 (by decide))
                have d2 : wr.cell? ⟨b, off + n * 3 + 2, none⟩ = some (.string l[n].2.2) := (HBW.out.cell (p := ⟨b, off + n * 3 + 2, none⟩) hbl).trans (hat.2 (n) hnl 2 (by decide))
                have s2 : b < wr.heap.size := Nat.lt_of_lt_of_le hbl HBW.out.size
                have HMk := hid (fun W => (qsame_any l[m] l[n] W))
                have HI2 := hid (fun h : isK l[m].1 l[m].2.2 l[n] = false => show NoT l (n + 1) l[m] from any_take_no hnl HI.out h)
                have HX3 := hid (fun h : isK l[m].1 l[m].2.2 l[n] = true => HX.out (any_take_yes hnl hnm h))
                rw [isK_comm] at HMk
                clear HI HX HOk
                generalize isK l[m].1 l[m].2.2 l[n] = r at HMk HI2 HX3
                generalize l[m] = x at *
                generalize l[n] = y at *
                obtain ⟨x0, x1, x2⟩ := x
                obtain ⟨y0, y1, y2⟩ := y
                simp only [tv] at c0 c1 c2 d0 d1 d2 HMk
                clear hat
                have g2 : (n : Int) < (m : Int) := by omega
                have g3 : (n : Int) < (len : Int) := by omega
                have g4 : (0 : Int) ≤ (n : Int) := by omega
                cases r
                · have HI3 := hid (HI2.out rfl)
                  clear HX3 HI2
                  have T0 : wr.drew.cell? ⟨b, off + m * 3, none⟩ = some (.string x0) ∧ wr.drew.cell? ⟨b, off + m * 3 + 1, none⟩ = some (.string x1) ∧ wr.drew.cell? ⟨b, off + m * 3 + 2, none⟩ = some (.string x2) ∧ wr.drew.cell? ⟨b, off + n * 3, none⟩ = some (.string y0) ∧ wr.drew.cell? ⟨b, off + n * 3 + 1, none⟩ = some (.string y1) ∧ wr.drew.cell? ⟨b, off + n * 3 + 2, none⟩ = some (.string y2) := ⟨c0, c1, c2, d0, d1, d2⟩
                  go_wp2_with fail
                  go_region_held3 (fun W => W.cell? ⟨b, off + m * 3, none⟩ = some (.string x0) ∧ W.cell? ⟨b, off + m * 3 + 1, none⟩ = some (.string x1) ∧ W.cell? ⟨b, off + m * 3 + 2, none⟩ = some (.string x2) ∧ W.cell? ⟨b, off + n * 3, none⟩ = some (.string y0) ∧ W.cell? ⟨b, off + n * 3 + 1, none⟩ = some (.string y1) ∧ W.cell? ⟨b, off + n * 3 + 2, none⟩ = some (.string y2))
                    (first | exact T0 | exact T1)
                    (first
                      | (go_at_call 48; refine (HMk.out _).mono ?_; rintro e w2 ⟨rfl, hb⟩; have T1 := six_low' T0 hb s2; have D1 := hid hb; clear hb))
                  have B2 := hid (show Below wB.heap.size wB w2 from HB.out.drew.trans (D1.out.mono HB.out.size))
                  clear T0 T1 D1
                  go_wp2_with fail
                  exact ⟨⟨n + 1, by omega, by go_num, B2, HI3⟩, by simp [intOf]; omega⟩
                · have HX4 := hid (HX3.out rfl)
                  clear HX3 HI2
                  have T0 : wr.drew.cell? ⟨b, off + m * 3, none⟩ = some (.string x0) ∧ wr.drew.cell? ⟨b, off + m * 3 + 1, none⟩ = some (.string x1) ∧ wr.drew.cell? ⟨b, off + m * 3 + 2, none⟩ = some (.string x2) ∧ wr.drew.cell? ⟨b, off + n * 3, none⟩ = some (.string y0) ∧ wr.drew.cell? ⟨b, off + n * 3 + 1, none⟩ = some (.string y1) ∧ wr.drew.cell? ⟨b, off + n * 3 + 2, none⟩ = some (.string y2) := ⟨c0, c1, c2, d0, d1, d2⟩
                  go_wp2_with fail
                  go_region_held3 (fun W => W.cell? ⟨b, off + m * 3, none⟩ = some (.string x0) ∧ W.cell? ⟨b, off + m * 3 + 1, none⟩ = some (.string x1) ∧ W.cell? ⟨b, off + m * 3 + 2, none⟩ = some (.string x2) ∧ W.cell? ⟨b, off + n * 3, none⟩ = some (.string y0) ∧ W.cell? ⟨b, off + n * 3 + 1, none⟩ = some (.string y1) ∧ W.cell? ⟨b, off + n * 3 + 2, none⟩ = some (.string y2))
                    (first | exact T0 | exact T1)
                    (first
                      | (go_at_call 48; refine (HMk.out _).mono ?_; rintro e w2 ⟨rfl, hb⟩; have T1 := six_low' T0 hb s2; have D1 := hid hb; clear hb))
                  have B2 := hid (show Below wB.heap.size wB w2 from HB.out.drew.trans (D1.out.mono HB.out.size))
                  clear T0 T1 D1
                  go_wp2_with fail
                  go_ret3
                  exact ⟨_, [], _, 45, rfl, BC.out.trans (B2.out.mono BC.out.size), HX4.out, Or.inl ⟨by decide, rfl⟩⟩
              · obtain rfl : n = m := by omega
                have HO2 := hid (HOk.out HI.out)
                have B2 := hid (BM.out.trans (HB.out.mono BM.out.size))
                clear HOk HX HI
                go_wp2_with fail
                exact ⟨⟨n + 1, by omega, by go_num, B2, HO2⟩, by simp [intOf]; omega⟩
          · have g1 : ¬ (m : Int) < (len : Int) := by omega
            have HD := hid (show Di l from dist_of (fun j hj => HO.out j hj (by have := HLEN.out; omega)))
            have BC := hid (BW.out.trans (HB.out.mono BW.out.size))
            clear HO HB BW
            generalize wr = wB at *
            go_wp2_with fail
            go_loopw [9, 10] (fun o i wr => ∃ (k : Nat) (q : List Tn), k ≤ len ∧ i = .int .i64 k ∧ Hid (Below wB.heap.size wB wr) ∧ Hid (OwnT wr wB.heap.size o q) ∧ Hid (q.Perm (l.take k) ∧ Up q)) (fun _ i _ => len - (intOf i).toNat)
            case atStart => exact ⟨0, [], Nat.zero_le _, rfl, hid (Below.refl _ _), hid (World.ownsRow_nil _ _ _ _), hid ⟨by simp, List.Pairwise.nil⟩⟩
            case round =>
              obtain ⟨p, q, hp, rfl, HB, OW, HQ⟩ := hrel
              by_cases hlp : p < len
              · have hkl : p < l.length := by rw [← HLEN.out]; exact hlp
                rcases HA.out with h0 | ⟨b, off, rfl, hat⟩
                · omega
                have hbl := hat.1
                have HBW := hid (BC.out.trans (HB.out.mono BC.out.size))
                have c0 : wr.cell? ⟨b, off + p * 3, none⟩ = some (.string l[p].1) := (HBW.out.cell (p := ⟨b, off + p * 3, none⟩) hbl).trans (hat.2 (p) hkl 0 (by decide))
                have c1 : wr.cell? ⟨b, off + p * 3 + 1, none⟩ = some (.string l[p].2.1) := (HBW.out.cell (p := ⟨b, off + p * 3 + 1, none⟩) hbl).trans (hat.2 (p) hkl 1 (by decide))
                have c2 : wr.cell? ⟨b, off + p * 3 + 2, none⟩ = some (.string l[p].2.2) := (HBW.out.cell (p := ⟨b, off + p * 3 + 2, none⟩) hbl).trans (hat.2 (p) hkl 2 (by decide))
                have s2 : b < wr.heap.size := Nat.lt_of_lt_of_le hbl HBW.out.size
                have hql : q.length ≤ 16 := by rw [HQ.out.1.length_eq, List.length_take]; have := H16.out; omega
                have HMk := hid (qwith_any _ q l[p] wr (ownG_came OW.out).items hql)
                have HQ2 := hid (ins_next hkl HD.out HQ.out.1 HQ.out.2)
                clear hql HQ
                generalize insT q l[p] = q' at *
                generalize l[p] = x at *
                obtain ⟨x0, x1, x2⟩ := x
                simp only [tv] at c0 c1 c2 HMk
                clear hat OW
                have g2 : (p : Int) < (len : Int) := by omega
                have g3 : (0 : Int) ≤ (p : Int) := by omega
                go_wp2_with fail
                refine HMk.out.mono ?_
                rintro e w2 ⟨v', rfl, OW2, hb⟩
                have B2 := hid (HB.out.trans (hb.mono HB.out.size))
                have O2 := hid (row_base OW2 HB.out.size)
                clear hb OW2
                go_wp2_with fail
                exact ⟨⟨p + 1, q', by omega, by go_num, B2, O2, HQ2⟩, by simp [intOf]; omega⟩
              · obtain rfl : p = len := by omega
                have R := hid (show q.Perm l by
                  have := HQ.out.1
                  rwa [List.take_of_length_le (by rw [← HLEN.out]; exact Nat.le_refl _)] at this)
                have g2 : ¬ (p : Int) < (p : Int) := by omega
                have RM := hid (show MkR l 0 0 from Or.inr (Or.inr ⟨rfl, rfl, ⟨H16.out, HEA.out, HD.out⟩⟩))
                have RI := hid (ownG_came OW.out).items
                clear OW
                go_wp2_with fail
                go_ret3
                exact ⟨_, q, 0, 0, rfl, BC.out.trans (HB.out.mono BC.out.size), RM.out, Or.inr ⟨rfl, RI.out, R.out, HQ.out.2⟩⟩
end Go.Proofs.YtppblibcbjpfnaaDoor.L
