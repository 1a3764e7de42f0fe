import Derived.Test.YtppblibcbjpfnaaDoorSw1
import Derived.Test.YtppblibcbjpfnaaDoorTl7
namespace Go.Proofs.YtppblibcbjpfnaaDoor.L
open Go.RowKit Go.Sort
set_option linter.unusedVariables false
set_option maxHeartbeats 4000000 in
set_option maxRecDepth 100000 in
theorem make_own (v : Value) (l : List Tn) (w : World) (hc : CameT w v l) (hg : GoodT l) : Calls Tryd.prog 15 #[v] w fun e w' => ∃ v' l' at' er, e = .returned (.tuple #[v', .int .i64 at', .int .i64 er]) ∧ Below w.heap.size w w' ∧ ((er ≠ 0 ∧ (0 < er ∧ er ≤ 1000) ∧ v' = .slice none 0 0 ∧ (0 ≤ at' ∧ at' ≤ l.length) ∧ ¬ OkT l) ∨ (er = 0 ∧ at' = 0 ∧ OwnT w' w.heap.size v' l' ∧ SortedT l l' ∧ OkT l)) ∧ MkR l at' er := by
  have HSR := hid (fun W (hb : Below w.heap.size w W) => sorted_own v l W (hc.low hb) hg)
  have HE := hid (each_any v l w hc.items hg)
  have hl := hg.1.1
  unfold maxLen at hl
  obtain ⟨a, cap, rfl, hi, hcap⟩ : ∃ a cap, v = .slice a l.length cap ∧ (l.length = 0 ∨ ∃ b off, a = some ⟨b, off, none⟩ ∧ At 3 tf w b off l) ∧ l.length ≤ cap := by
    rcases hc with ⟨rfl, rfl⟩ | ⟨a, cap, rfl, hcap, h⟩
    · exact ⟨none, 0, rfl, Or.inl rfl, Nat.zero_le _⟩
    · refine ⟨some a, cap, rfl, ?_, hcap.1⟩
      rcases h with h | ⟨b, off, rfl, h⟩
      · exact Or.inl h
      · exact Or.inr ⟨b, off, rfl, h⟩
  have HA := hid hi
  clear hi hc
  obtain ⟨len, hlen⟩ : ∃ n, n = l.length := ⟨_, rfl⟩
  have HLEN := hid hlen
  rw [← hlen] at hl HSR hcap HE ⊢
  clear hlen hg
  go_enter Tryd.func15, Tryd.ntmps15
  go_wp2_with fail
  refine HE.out.mono ?_
  rintro e w1 ⟨at', er, rfl, hce, hb⟩
  have B1 := hid hb
  clear hb HE
  rcases hce.cases with ⟨h1, h2, h3, h4⟩ | ⟨rfl, rfl, h3, h4⟩
  · have h1' : (er != 0) = true := by simpa using h1
    have R := hid (show er ≠ 0 ∧ (0 < er ∧ er ≤ 1000) ∧ (0 ≤ at' ∧ at' ≤ len) ∧ ¬ OkT l from ⟨h1, h2, by rw [HLEN.out]; exact h3, h4⟩)
    have RM := hid (show MkR l at' er from Or.inl ⟨h1, hce⟩)
    clear h1 h2 h3 h4 hce
    go_wp2_with fail
    go_ret3
    exact ⟨_, [], _, _, rfl, B1.out, Or.inl ⟨R.out.1, R.out.2.1, rfl, R.out.2.2.1, R.out.2.2.2⟩, RM.out⟩
  · have H16 := hid h3
    have HEA := hid h4
    have HCE := hid hce
    clear h3 h4 hce
    go_wp2_with fail
    have BW := B1
    go_loopw [20] (fun i wr => ∃ k : Nat, k ≤ len ∧ i = .int .i64 k ∧ Hid (Below w1.heap.size w1 wr) ∧ Hid (∀ j (hj : j < l.length), j < k → (l.take j).any (isK l[j].1 l[j].2.2) = false)) (fun i _ => len - (intOf i).toNat)
    case atStart => exact ⟨0, Nat.zero_le _, rfl, hid (Below.refl _ _), hid (fun j hj h => by omega)⟩
    case round =>
      obtain ⟨k, hk, rfl, HB, HO⟩ := hrel
      by_cases hlt : k < len
      · have hkl : k < l.length := by rw [← HLEN.out]; exact hlt
        have HIT := hid (fun c' => items_take (cap := cap) HA.out hkl c')
        rcases HA.out with h0 | ⟨b, off, rfl, hat⟩
        · omega
        have hbl := hat.1
        have HBW := hid (B1.out.trans (HB.out.mono B1.out.size))
        have c0 : wr.cell? ⟨b, off + k * 3, none⟩ = some (.string l[k].1) := (HBW.out.cell (p := ⟨b, off + k * 3, none⟩) hbl).trans (hat.2 k hkl 0 (by decide))
        have c1 : wr.cell? ⟨b, off + k * 3 + 1, none⟩ = some (.string l[k].2.1) := (HBW.out.cell (p := ⟨b, off + k * 3 + 1, none⟩) hbl).trans (hat.2 k hkl 1 (by decide))
        have c2 : wr.cell? ⟨b, off + k * 3 + 2, none⟩ = some (.string l[k].2.2) := (HBW.out.cell (p := ⟨b, off + k * 3 + 2, none⟩) hbl).trans (hat.2 k hkl 2 (by decide))
        have s2 : b < wr.heap.size := Nat.lt_of_lt_of_le hbl HBW.out.size
        have HH := hid (fun c' W (hb : Below w.heap.size w W) => has_any (.slice (some ⟨b, off, none⟩) k c') (l.take k) l[k].1 l[k].2.2 W ((HIT.out c').low hb) (by unfold maxLen; rw [List.length_take]; omega))
        have HOk := hid (fun h : (l.take k).any (isK l[k].1 l[k].2.2) = false => show ∀ j (hj : j < l.length), j < k + 1 → (l.take j).any (isK l[j].1 l[j].2.2) = false from fun j hj h' => by
          by_cases e : j < k
          · exact HO.out j hj e
          · obtain rfl : j = k := by omega
            exact h)
        have HX := hid (fun h : (l.take k).any (isK l[k].1 l[k].2.2) = true => show (¬ l.Pairwise fun x y => ¬ sameK x y) ∧ MkR l (k : Int) 45 from ⟨not_dist hkl h, Or.inr (Or.inl ⟨HCE.out, rfl, k, hkl, rfl, h, HO.out⟩)⟩)
        generalize (l.take k).any (isK l[k].1 l[k].2.2) = r at *
        generalize l[k] = t at *
        obtain ⟨x, y, z⟩ := t
        simp only at c0 c1 c2 HH
        clear hat HO HIT
        have g1 : (0 : Int) ≤ (k : Int) := by omega
        have g2 : (k : Int) ≤ (cap : Int) := by omega
        cases r
        · have HO2 := hid (HOk.out rfl)
          clear HX HOk
          go_wp2_with fail
          have n0 := three wr (.string x) (.string y) (.string z) 23
          have T0 : (wr.alloc (.cells #[.string x, .string y, .string z] 23)).drew.cell? ⟨wr.heap.size, 0, none⟩ = some (.string x) ∧ (wr.alloc (.cells #[.string x, .string y, .string z] 23)).drew.cell? ⟨wr.heap.size, 2, none⟩ = some (.string z) := ⟨n0.1, n0.2.2⟩
          have hza : wr.heap.size < (wr.alloc (.cells #[.string x, .string y, .string z] 23)).heap.size := by simp
          have BA := hid (HB.out.alloc HB.out.size (.cells #[.string x, .string y, .string z] 23))
          clear n0
          go_region_held3 (fun W => W.cell? ⟨wr.heap.size, 0, none⟩ = some (.string x) ∧ W.cell? ⟨wr.heap.size, 2, none⟩ = some (.string z))
            (first | exact T0 | exact T1)
            (first
              | (go_at_call 42; refine (HH.out _ _ (BW.out.trans (BA.out.drew.mono BW.out.size))).mono ?_; rintro e w2 ⟨rfl, hb⟩; have T1 : w2.cell? ⟨wr.heap.size, 0, none⟩ = some (.string x) ∧ w2.cell? ⟨wr.heap.size, 2, none⟩ = some (.string z) := ⟨(hb.cell (p := ⟨wr.heap.size, 0, none⟩) hza).trans T0.1, (hb.cell (p := ⟨wr.heap.size, 2, none⟩) hza).trans T0.2⟩; have D1 := hid hb; clear hb))
          have B2 := hid (BA.out.drew.trans (D1.out.mono BA.out.size))
          clear T0 T1 D1 BA
          go_wp2_with fail
          exact ⟨⟨k + 1, by omega, by go_num, B2, HO2⟩, by simp [intOf]; omega⟩
        · have HX2 := hid (HX.out rfl)
          clear HX HOk
          go_wp2_with fail
          have n0 := three wr (.string x) (.string y) (.string z) 23
          have T0 : (wr.alloc (.cells #[.string x, .string y, .string z] 23)).drew.cell? ⟨wr.heap.size, 0, none⟩ = some (.string x) ∧ (wr.alloc (.cells #[.string x, .string y, .string z] 23)).drew.cell? ⟨wr.heap.size, 2, none⟩ = some (.string z) := ⟨n0.1, n0.2.2⟩
          have hza : wr.heap.size < (wr.alloc (.cells #[.string x, .string y, .string z] 23)).heap.size := by simp
          have BA := hid (HB.out.alloc HB.out.size (.cells #[.string x, .string y, .string z] 23))
          clear n0
          go_region_held3 (fun W => W.cell? ⟨wr.heap.size, 0, none⟩ = some (.string x) ∧ W.cell? ⟨wr.heap.size, 2, none⟩ = some (.string z))
            (first | exact T0 | exact T1)
            (first
              | (go_at_call 42; refine (HH.out _ _ (BW.out.trans (BA.out.drew.mono BW.out.size))).mono ?_; rintro e w2 ⟨rfl, hb⟩; have T1 : w2.cell? ⟨wr.heap.size, 0, none⟩ = some (.string x) ∧ w2.cell? ⟨wr.heap.size, 2, none⟩ = some (.string z) := ⟨(hb.cell (p := ⟨wr.heap.size, 0, none⟩) hza).trans T0.1, (hb.cell (p := ⟨wr.heap.size, 2, none⟩) hza).trans T0.2⟩; have D1 := hid hb; clear hb))
          have B2 := hid (BA.out.drew.trans (D1.out.mono BA.out.size))
          clear T0 T1 D1 BA
          go_wp2_with fail
          go_ret3
          exact ⟨_, [], _, _, rfl, B1.out.trans (B2.out.mono B1.out.size), Or.inl ⟨by decide, by decide, rfl, by omega, fun o => HX2.out.1 o.dist⟩, HX2.out.2⟩
      · obtain rfl : k = len := by omega
        have HD := hid (dist_of (fun j hj => HO.out j hj (by rw [HLEN.out]; exact hj)))
        have HBW := hid (B1.out.trans (HB.out.mono B1.out.size))
        have SR := hid (HSR.out wr HBW.out)
        clear HO HSR
        go_wp2_with fail
        refine SR.out.mono ?_
        rintro e w3 ⟨v3, l3, rfl, hc3, hs3, hb⟩
        have R := hid (show OwnT w3 w.heap.size v3 l3 ∧ SortedT l l3 ∧ Below w.heap.size w w3 from ⟨row_base hc3 HBW.out.size, hs3, HBW.out.trans (hb.mono HBW.out.size)⟩)
        clear hc3 hs3 hb
        go_wp2_with fail
        go_ret3
        exact ⟨_, l3, _, _, rfl, R.out.2.2, Or.inr ⟨rfl, rfl, R.out.1, R.out.2.1, ⟨H16.out, HEA.out, HD.out⟩⟩, Or.inr (Or.inr ⟨rfl, rfl, ⟨H16.out, HEA.out, HD.out⟩⟩)⟩
def PutO (base : Nat) (te : Int) (t : Tn) (D : List Tn) (w' : World) (v' : Value) (l' : List Tn) (er : Int) : Prop := (te ≠ 0 ∧ er = te ∧ v' = .slice none 0 0) ∨ (te = 0 ∧ D.length = 16 ∧ er = 44 ∧ v' = .slice none 0 0) ∨ (te = 0 ∧ D.length ≠ 16 ∧ er = 0 ∧ OwnT w' base v' l' ∧ SortedT (D ++ [t]) l')
set_option maxHeartbeats 4000000 in
set_option maxRecDepth 100000 in
theorem put_own (v : Value) (l : List Tn) (t : Tn) (w : World) (hc : CameT w v l) (hg : GoodT l) (ho : OkUp l) (ht : t.1.size ≤ maxLen ∧ t.2.1.size ≤ maxLen ∧ t.2.2.size ≤ maxLen) : Calls Tryd.prog 20 #[v, tv t] w fun e w' => ∃ v' l' er, e = .returned (.tuple #[v', .int .i64 er]) ∧ RowKit.Below w.heap.size w w' ∧ PutO w.heap.size (tE t) t (dels l t.1 t.2.2) w' v' l' er := by
  obtain ⟨i0, hi0, hz0, hz1, hz2⟩ := info_parts infoT
  have HCK := hid (fun W (hb : RowKit.Below w.heap.size w W) => check_any v l W (hc.low hb).items hg)
  have HCT := hid (fun W => ctaint_any t W ht.1 ht.2.1)
  have HDL := hid (fun W (hb : RowKit.Below w.heap.size w W) => del_any v l t.1 t.2.2 W (hc.low hb).items hg)
  have hd16 : (dels l t.1 t.2.2).length ≤ 16 := Nat.le_trans (dels_len _ _ _) ho.len
  have HS := hid (fun W v' (h : CameT W v' (dels l t.1 t.2.2 ++ [t])) => sorted_own v' (dels l t.1 t.2.2 ++ [t]) W h ⟨⟨by rw [List.length_append]; unfold maxLen; simp; omega, by rw [List.length_append]; simp; omega⟩, fun x hx i hi => by
    rcases List.mem_append.1 hx with h | h
    · exact (dels_good hg _ _).2 x h i hi
    · rw [List.mem_singleton.1 h]
      match i, hi with
      | 0, _ => exact ht.1
      | 1, _ => exact ht.2.1
      | 2, _ => exact ht.2.2⟩)
  have HOK := hid ho
  obtain ⟨x, y, z⟩ := t
  simp only [tv] at *
  generalize dels l x z = D at *
  generalize hE : tE (x, y, z) = te at *
  clear hE hc hg ho ht
  have HW := hid (belowA w (.cells #[.string x, .string y, .string z] 23))
  have HT := hid (three w (.string x) (.string y) (.string z) 23)
  have hsz : w.heap.size < (w.alloc (.cells #[.string x, .string y, .string z] 23)).heap.size := by simp
  go_enter Tryd.func20, Tryd.ntmps20
  go_wp2_with fail
  refine (HCK.out _ HW.out).mono ?_
  rintro e w1 ⟨er, rfl, hb, _, hiff⟩
  obtain rfl : er = 0 := hiff.2 HOK.out
  have B1 := hid (HW.out.trans (hb.mono HW.out.size))
  have c0 : w1.cell? ⟨w.heap.size, 0, none⟩ = some (.string x) := (hb.cell (p := ⟨w.heap.size, 0, none⟩) hsz).trans HT.out.1
  have c1 : w1.cell? ⟨w.heap.size, 1, none⟩ = some (.string y) := (hb.cell (p := ⟨w.heap.size, 1, none⟩) hsz).trans HT.out.2.1
  have c2 : w1.cell? ⟨w.heap.size, 2, none⟩ = some (.string z) := (hb.cell (p := ⟨w.heap.size, 2, none⟩) hsz).trans HT.out.2.2
  have z1 : w.heap.size < w1.heap.size := Nat.lt_of_lt_of_le hsz hb.size
  clear hb hiff HCK HOK
  go_wp2_with fail
  refine (HCT.out _).mono ?_
  rintro e w2 ⟨rfl, hb⟩
  have B2 := hid (B1.out.trans (hb.mono B1.out.size))
  have e0 : w2.cell? ⟨w.heap.size, 0, none⟩ = some (.string x) := (hb.cell (p := ⟨w.heap.size, 0, none⟩) z1).trans c0
  have e1 : w2.cell? ⟨w.heap.size, 1, none⟩ = some (.string y) := (hb.cell (p := ⟨w.heap.size, 1, none⟩) z1).trans c1
  have e2 : w2.cell? ⟨w.heap.size, 2, none⟩ = some (.string z) := (hb.cell (p := ⟨w.heap.size, 2, none⟩) z1).trans c2
  have z2 : w.heap.size < w2.heap.size := Nat.lt_of_lt_of_le z1 hb.size
  clear hb c0 c1 c2
  by_cases h0 : te = 0
  · subst h0
    go_wp2_with fail
    refine (HDL.out _ B2.out).mono ?_
    rintro e w3 ⟨vd, rfl, hod, hb⟩
    have B3 := hid (B2.out.trans (hb.mono B2.out.size))
    have f0 : w3.cell? ⟨w.heap.size, 0, none⟩ = some (.string x) := (hb.cell (p := ⟨w.heap.size, 0, none⟩) z2).trans e0
    have f1 : w3.cell? ⟨w.heap.size, 1, none⟩ = some (.string y) := (hb.cell (p := ⟨w.heap.size, 1, none⟩) z2).trans e1
    have f2 : w3.cell? ⟨w.heap.size, 2, none⟩ = some (.string z) := (hb.cell (p := ⟨w.heap.size, 2, none⟩) z2).trans e2
    have z3 : w.heap.size < w3.heap.size := Nat.lt_of_lt_of_le z2 hb.size
    have OD := hid (row_base hod B2.out.size)
    obtain ⟨ad, cd, rfl, _⟩ := (ownG_came hod).items
    clear hb hod e0 e1 e2 HDL
    by_cases hD : D.length = 16
    · have g : ((D.length : Int) == 16) = true := by rw [hD]; rfl
      have HD := hid hD
      clear hD
      go_wp2_with fail
      go_ret2
      exact ⟨_, [], _, rfl, B3.out, Or.inr (Or.inl ⟨rfl, HD.out, rfl, rfl⟩)⟩
    · have g : ((D.length : Int) == 16) = false := by simp; omega
      have HD := hid hD
      clear hD
      go_wp2_with (first
        | (at_builtin; refine wpList_append_own _ rfl _ _ 26 rfl w.heap.size 23 i0 (.agg #[.string ByteArray.empty, .string ByteArray.empty, .string ByteArray.empty]) 3 48 Tryd.underlying26 hi0 hz0 hz1 hz2 rfl (by decide) _ _ _ rfl (World.ownsRow.alloc OD.out _) ⟨w3.heap.size, 0, none⟩ 1 1 [.string x, .string y, .string z] rfl rfl (cell_three_at _ _ _ _ _ _ rfl) (fun x hx => by simp at hx; rcases hx with rfl | rfl | rfl <;> rfl) (by unfold maxLen; omega) (by omega) (by simp; omega) ?_; intro va w4 hown hgrow hnil)
        | fail)
      clear hnil
      have B4 := hid (show RowKit.Below w.heap.size w w4 from (B3.out.alloc B3.out.size _).grown hgrow (by have := B3.out.size; simp; omega) (fun j hj => own_base OD.out j hj))
      have SS := hid (HS.out w4 va (ownG_came (ownT_snoc hown)))
      clear hown hgrow
      refine SS.out.mono ?_
      rintro e w5 ⟨vs, ls, rfl, hcs, hss, hb⟩
      have R := hid (show OwnT w5 w.heap.size vs ls ∧ SortedT (D ++ [(x, y, z)]) ls ∧ RowKit.Below w.heap.size w w5 from ⟨row_base hcs B4.out.size, hss, B4.out.trans (hb.mono B4.out.size)⟩)
      clear hcs hss hb SS
      go_wp2_with fail
      go_ret2
      exact ⟨_, ls, _, rfl, R.out.2.2, Or.inr (Or.inr ⟨rfl, HD.out, rfl, R.out.1, R.out.2.1⟩)⟩
  · have h0' : (te != 0) = true := by simpa using h0
    have H0 := hid h0
    clear h0
    go_wp2_with fail
    go_ret2
    exact ⟨_, [], _, rfl, B2.out, Or.inl ⟨H0.out, rfl, rfl⟩⟩
end Go.Proofs.YtppblibcbjpfnaaDoor.L
