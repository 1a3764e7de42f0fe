import Derived.Test.YtppblibcbjpfnaaDoorQl2
namespace Go.Proofs.YtppblibcbjpfnaaDoor.L
open Go.RowKit
set_option linter.unusedVariables false
theorem isK_comm (x y : Tn) : isK y.1 y.2.2 x = isK x.1 x.2.2 y := by
  cases e : isK x.1 x.2.2 y
  · rw [Bool.eq_false_iff] at e ⊢
    exact fun h => e (isK_iff.2 ⟨(isK_iff.1 h).1.symm, (isK_iff.1 h).2.symm⟩)
  · exact isK_iff.2 ⟨(isK_iff.1 e).1.symm, (isK_iff.1 e).2.symm⟩
theorem up_di {l : List Tn} (h : Up l) : Di l := h.imp tlt_not
theorem six_low' {W W' : World} {b i1 i2 i3 i4 i5 i6 : Nat} {u1 u2 u3 u4 u5 u6 : Value} (h : W.cell? ⟨b, i1, none⟩ = some u1 ∧ W.cell? ⟨b, i2, none⟩ = some u2 ∧ W.cell? ⟨b, i3, none⟩ = some u3 ∧ W.cell? ⟨b, i4, none⟩ = some u4 ∧ W.cell? ⟨b, i5, none⟩ = some u5 ∧ W.cell? ⟨b, i6, none⟩ = some u6) (hb : Below W.heap.size W W') (h1 : b < W.heap.size) :
    W'.cell? ⟨b, i1, none⟩ = some u1 ∧ W'.cell? ⟨b, i2, none⟩ = some u2 ∧ W'.cell? ⟨b, i3, none⟩ = some u3 ∧ W'.cell? ⟨b, i4, none⟩ = some u4 ∧ W'.cell? ⟨b, i5, none⟩ = some u5 ∧ W'.cell? ⟨b, i6, none⟩ = some u6 := six_cells h hb h1 h1
theorem ins_next {l o : List Tn} {k : Nat} (hk : k < l.length) (hd : Di l) (hp : o.Perm (l.take k)) (hu : Up o) : (insT o l[k]).Perm (l.take (k + 1)) ∧ Up (insT o l[k]) := by
  refine ⟨(ins_perm o l[k]).trans ?_, ins_up hu fun x hx => ?_⟩
  · rw [List.take_succ_eq_append_getElem hk]
    exact hp.append_right _
  · obtain ⟨i, hi, rfl⟩ := List.mem_take_iff_getElem.1 (hp.mem_iff.1 hx)
    exact List.pairwise_iff_getElem.1 hd i k (by omega) hk (by omega)
set_option maxHeartbeats 8000000 in
set_option maxRecDepth 100000 in
theorem qcheck_any (v : Value) (l : List Tn) (w : World) (hc : ItemsG 3 tf w v l) (hg : GoodT l) : Calls Tryd.prog 50 #[v] w fun e w' => ∃ er : Int, e = .returned (.int .i64 er) ∧ Below w.heap.size w w' ∧ ChR l er := by
  have hl := hg.1.1
  unfold maxLen at hl
  obtain ⟨a, cap, rfl, hc⟩ := hc
  have HA := hid hc
  have HM := hid (fun k (hk : k < l.length) W => qctaint_any l[k] W (hg.2 _ (List.getElem_mem hk) 0 (by decide)) (hg.2 _ (List.getElem_mem hk) 1 (by decide)))
  clear hc
  obtain ⟨len, hlen⟩ : ∃ n, n = l.length := ⟨_, rfl⟩
  have HLEN := hid hlen
  rw [← hlen] at hl ⊢
  clear hlen hg
  by_cases h16 : 16 < len
  · have g : (16 : Int) < (len : Int) := by omega
    go_enter Tryd.func50, Tryd.ntmps50
    go_wp2_with fail
    go_ret
    exact ⟨44, rfl, Below.refl _ _, Or.inl ⟨by decide, 0, Or.inl ⟨by rw [← HLEN.out]; exact h16, rfl, rfl⟩⟩⟩
  · have g : ¬ (16 : Int) < (len : Int) := by omega
    go_enter Tryd.func50, Tryd.ntmps50
    go_wp2_with fail
    go_loopw [3] (fun i wr => ∃ k : Nat, k ≤ len ∧ i = .int .i64 k ∧ Hid (Below w.heap.size w wr) ∧ Hid (∀ j (hj : j < l.length), j < k → tE l[j] = 0)) (fun i _ => len - (intOf i).toNat)
    case atStart => exact ⟨0, Nat.zero_le _, rfl, hid (Below.refl _ _), hid (fun j hj h => by omega)⟩
    case round =>
      obtain ⟨k, hk, rfl, HB, HO⟩ := hrel
      have hws : w.heap.size ≤ wr.heap.size := HB.out.size
      by_cases hlt : k < len
      · have hkl : k < l.length := by rw [← HLEN.out]; exact hlt
        rcases HA.out with h0 | ⟨b, off, rfl, hat⟩
        · omega
        have hbl := hat.1
        have c0 : wr.cell? ⟨b, off + k * 3, none⟩ = some (.string l[k].1) := (HB.out.cell (p := ⟨b, off + k * 3, none⟩) hbl).trans (hat.2 (k) hkl 0 (by decide))
        have c1 : wr.cell? ⟨b, off + k * 3 + 1, none⟩ = some (.string l[k].2.1) := (HB.out.cell (p := ⟨b, off + k * 3 + 1, none⟩) hbl).trans (hat.2 (k) hkl 1 (by decide))
        have c2 : wr.cell? ⟨b, off + k * 3 + 2, none⟩ = some (.string l[k].2.2) := (HB.out.cell (p := ⟨b, off + k * 3 + 2, none⟩) hbl).trans (hat.2 (k) hkl 2 (by decide))
        have s2 : b < wr.heap.size := Nat.lt_of_lt_of_le hbl HB.out.size
        have HMk := hid (fun W => HM.out k hkl W)
        have HOk := hid (fun h : tE l[k] = 0 => show ∀ j (hj : j < l.length), j < k + 1 → tE l[j] = 0 from fun j hj h' => by
          by_cases e : j < k
          · exact HO.out j hj e
          · obtain rfl : j = k := by omega
            exact h)
        have HX := hid (fun h : tE l[k] ≠ 0 => show CE l (k : Int) (tE l[k]) from Or.inr ⟨by rw [← HLEN.out]; omega, Or.inl ⟨k, hkl, rfl, rfl, h, HO.out⟩⟩)
        generalize tE l[k] = er at *
        generalize l[k] = t at *
        obtain ⟨x, y, z⟩ := t
        simp only [tv] at HMk c0 c1 c2
        clear hat HO
        by_cases he : er = 0
        · have HO2 := hid (HOk.out he)
          subst he
          clear HX HOk
          go_wp2_with fail
          refine (HMk.out _).mono ?_
          rintro e w2 ⟨rfl, hb⟩
          have B2 := hid (HB.out.trans (hb.mono HB.out.size))
          clear hb
          go_wp2_with fail
          exact ⟨⟨k + 1, by omega, by go_num, B2, HO2⟩, by simp [intOf]; omega⟩
        · have HX2 := hid (HX.out he)
          have he' : (er != 0) = true := by simpa using he
          have HER := hid he
          clear HX HOk he
          go_wp2_with fail
          refine (HMk.out _).mono ?_
          rintro e w2 ⟨rfl, hb⟩
          have B2 := hid (HB.out.trans (hb.mono HB.out.size))
          clear hb
          go_wp2_with fail
          go_ret
          exact ⟨_, rfl, B2.out, Or.inl ⟨HER.out, _, HX2.out⟩⟩
      · have HCE := hid (show CE l 0 0 from Or.inr ⟨by rw [← HLEN.out]; omega, Or.inr ⟨rfl, rfl, fun j hj => HO.out j hj (by have := HLEN.out; omega)⟩⟩)
        have H16 := hid (show l.length ≤ 16 by rw [← HLEN.out]; omega)
        have HEA := hid (show ∀ x ∈ l, tE x = 0 from each_mem (fun j hj => HO.out j hj (by have := HLEN.out; omega)))
        have gk : ¬ (k : Int) < (len : Int) := by omega
        have BW := HB
        clear HO HB hws hlt
        generalize wr = wA at *
        go_wp2_with fail
        go_loopw [5] (fun i wr => ∃ k : Nat, i = .int .i64 (k + 1 : Nat) ∧ (k + 1 ≤ len ∨ (k = 0 ∧ len = 0)) ∧ Hid (Below wA.heap.size wA wr) ∧ Hid (∀ j (hj : j + 1 < l.length), j < k → tltB l[j] l[j + 1] = true)) (fun i _ => len + 1 - (intOf i).toNat)
        case atStart => exact ⟨0, rfl, by omega, hid (Below.refl _ _), hid (fun j hj h => by omega)⟩
        case round =>
          obtain ⟨m, rfl, hm, HB, HO⟩ := hrel
          by_cases hlm : m + 1 < len
          · have hml : m + 1 < l.length := by rw [← HLEN.out]; exact hlm
            rcases HA.out with h0 | ⟨b, off, rfl, hat⟩
            · omega
            have hbl := hat.1
            have HBW := hid (BW.out.trans (HB.out.mono BW.out.size))
            have c0 : wr.cell? ⟨b, off + (m + 1) * 3, none⟩ = some (.string l[m + 1].1) := (HBW.out.cell (p := ⟨b, off + (m + 1) * 3, none⟩) hbl).trans (hat.2 (m + 1) hml 0 (by decide))
            have c1 : wr.cell? ⟨b, off + (m + 1) * 3 + 1, none⟩ = some (.string l[m + 1].2.1) := (HBW.out.cell (p := ⟨b, off + (m + 1) * 3 + 1, none⟩) hbl).trans (hat.2 (m + 1) hml 1 (by decide))
            have c2 : wr.cell? ⟨b, off + (m + 1) * 3 + 2, none⟩ = some (.string l[m + 1].2.2) := (HBW.out.cell (p := ⟨b, off + (m + 1) * 3 + 2, none⟩) hbl).trans (hat.2 (m + 1) hml 2 (by decide))
            have d0 : wr.cell? ⟨b, off + m * 3, none⟩ = some (.string l[m].1) := (HBW.out.cell (p := ⟨b, off + m * 3, none⟩) hbl).trans (hat.2 (m) (by omega) 0 (by decide))
            have d1 : wr.cell? ⟨b, off + m * 3 + 1, none⟩ = some (.string l[m].2.1) := (HBW.out.cell (p := ⟨b, off + m * 3 + 1, none⟩) hbl).trans (hat.2 (m) (by omega) 1 (by decide))
            have d2 : wr.cell? ⟨b, off + m * 3 + 2, none⟩ = some (.string l[m].2.2) := (HBW.out.cell (p := ⟨b, off + m * 3 + 2, none⟩) hbl).trans (hat.2 (m) (by omega) 2 (by decide))
            have s2 : b < wr.heap.size := Nat.lt_of_lt_of_le hbl HBW.out.size
            have HMk := hid (fun W => qabove_any l[m + 1] l[m] W)
            have HOk := hid (fun h : tltB l[m] l[m + 1] = true => show ∀ j (hj : j + 1 < l.length), j < m + 1 → tltB l[j] l[j + 1] = true from fun j hj h' => by
              by_cases e : j < m
              · exact HO.out j hj e
              · obtain rfl : j = m := by omega
                exact h)
            have HX := hid (fun h : tltB l[m] l[m + 1] = false => show ¬ OkUp l from fun o => by
              have := List.pairwise_iff_getElem.1 o.up m (m + 1) (by omega) hml (by omega)
              rw [h] at this
              cases this)
            generalize tltB l[m] l[m + 1] = r at *
            generalize l[m + 1] = x at *
            generalize l[m] = y at *
            obtain ⟨x0, x1, x2⟩ := x
            obtain ⟨y0, y1, y2⟩ := y
            simp only [tv] at c0 c1 c2 d0 d1 d2 HMk
            clear hat HO
            have g0 : (0 : Int) ≤ (m : Int) := by omega
            have g1 : (m : Int) + 1 < (len : Int) := by omega
            have g2 : (0 : Int) ≤ (m : Int) + 1 := by omega
            have g3 : (m : Int) < (len : Int) := by omega
            have hwr : IntKind.i64.wrap (m : Int) = (m : Int) := by rw [IntKind.wrap_i64]; omega
            cases r
            · have HX2 := hid (HX.out rfl)
              clear HX HOk
              have T0 : wr.drew.cell? ⟨b, off + (m + 1) * 3, none⟩ = some (.string x0) ∧ wr.drew.cell? ⟨b, off + (m + 1) * 3 + 1, none⟩ = some (.string x1) ∧ wr.drew.cell? ⟨b, off + (m + 1) * 3 + 2, none⟩ = some (.string x2) ∧ wr.drew.cell? ⟨b, off + m * 3, none⟩ = some (.string y0) ∧ wr.drew.cell? ⟨b, off + m * 3 + 1, none⟩ = some (.string y1) ∧ wr.drew.cell? ⟨b, off + m * 3 + 2, none⟩ = some (.string y2) := ⟨c0, c1, c2, d0, d1, d2⟩
              go_wp2_with fail
              go_region_held3 (fun W => W.cell? ⟨b, off + (m + 1) * 3, none⟩ = some (.string x0) ∧ W.cell? ⟨b, off + (m + 1) * 3 + 1, none⟩ = some (.string x1) ∧ W.cell? ⟨b, off + (m + 1) * 3 + 2, none⟩ = some (.string x2) ∧ W.cell? ⟨b, off + m * 3, none⟩ = some (.string y0) ∧ W.cell? ⟨b, off + m * 3 + 1, none⟩ = some (.string y1) ∧ W.cell? ⟨b, off + m * 3 + 2, none⟩ = some (.string y2))
                (first | exact T0 | exact T1)
                (first
                  | (go_at_call 64; refine (HMk.out _).mono ?_; rintro e w2 ⟨rfl, hb⟩; have T1 := six_low' T0 hb s2; have D1 := hid hb; clear hb))
              have B2 := hid (show Below wA.heap.size wA w2 from HB.out.drew.trans (D1.out.mono HB.out.size))
              clear T0 T1 D1
              go_wp2_with fail
              go_ret
              exact ⟨45, rfl, BW.out.trans (B2.out.mono BW.out.size), Or.inr (Or.inl ⟨HCE.out, rfl, HX2.out⟩)⟩
            · have HO2 := hid (HOk.out rfl)
              clear HX HOk
              have T0 : wr.drew.cell? ⟨b, off + (m + 1) * 3, none⟩ = some (.string x0) ∧ wr.drew.cell? ⟨b, off + (m + 1) * 3 + 1, none⟩ = some (.string x1) ∧ wr.drew.cell? ⟨b, off + (m + 1) * 3 + 2, none⟩ = some (.string x2) ∧ wr.drew.cell? ⟨b, off + m * 3, none⟩ = some (.string y0) ∧ wr.drew.cell? ⟨b, off + m * 3 + 1, none⟩ = some (.string y1) ∧ wr.drew.cell? ⟨b, off + m * 3 + 2, none⟩ = some (.string y2) := ⟨c0, c1, c2, d0, d1, d2⟩
              go_wp2_with fail
              go_region_held3 (fun W => W.cell? ⟨b, off + (m + 1) * 3, none⟩ = some (.string x0) ∧ W.cell? ⟨b, off + (m + 1) * 3 + 1, none⟩ = some (.string x1) ∧ W.cell? ⟨b, off + (m + 1) * 3 + 2, none⟩ = some (.string x2) ∧ W.cell? ⟨b, off + m * 3, none⟩ = some (.string y0) ∧ W.cell? ⟨b, off + m * 3 + 1, none⟩ = some (.string y1) ∧ W.cell? ⟨b, off + m * 3 + 2, none⟩ = some (.string y2))
                (first | exact T0 | exact T1)
                (first
                  | (go_at_call 64; refine (HMk.out _).mono ?_; rintro e w2 ⟨rfl, hb⟩; have T1 := six_low' T0 hb s2; have D1 := hid hb; clear hb))
              have B2 := hid (show Below wA.heap.size wA w2 from HB.out.drew.trans (D1.out.mono HB.out.size))
              clear T0 T1 D1
              go_wp2_with fail
              exact ⟨⟨m + 1, by go_num, by omega, B2, HO2⟩, by simp [intOf]; omega⟩
          · have g1 : ¬ (m : Int) + 1 < (len : Int) := by omega
            have R := hid (show OkUp l from ⟨H16.out, HEA.out, up_adj (fun j hj => HO.out j hj (by have := HLEN.out; omega))⟩)
            clear HO
            go_wp2_with fail
            go_ret
            exact ⟨0, rfl, BW.out.trans (HB.out.mono BW.out.size), Or.inr (Or.inr ⟨rfl, R.out⟩)⟩
end Go.Proofs.YtppblibcbjpfnaaDoor.L
