import Derived.Test.YtppblibcbjpfnaaDoorQl3
namespace Go.Proofs.YtppblibcbjpfnaaDoor.L
open Go.RowKit
set_option linter.unusedVariables false
def MS (os : List To) (n : Nat) (t : Tn) : Bool := (os.take n).any fun o => mt o t
theorem ms_next {os : List To} {n : Nat} (h : n < os.length) (t : Tn) : MS os (n + 1) t = (MS os n t || mt os[n] t) := by
  unfold MS
  rw [List.take_succ_eq_append_getElem h, List.any_append]
  simp
theorem ms_all (os : List To) (t : Tn) : MS os os.length t = mts os t := by
  unfold MS mts
  rw [List.take_length]
theorem sev_cells {W W' : World} {b1 b2 i1 i2 i3 i4 i5 i6 i7 : Nat} {u1 u2 u3 u4 u5 u6 u7 : Value} (h : W.cell? ⟨b1, i1, none⟩ = some u1 ∧ W.cell? ⟨b1, i2, none⟩ = some u2 ∧ W.cell? ⟨b1, i3, none⟩ = some u3 ∧ W.cell? ⟨b2, i4, none⟩ = some u4 ∧ W.cell? ⟨b2, i5, none⟩ = some u5 ∧ W.cell? ⟨b2, i6, none⟩ = some u6 ∧ W.cell? ⟨b2, i7, none⟩ = some u7) (hb : Below W.heap.size W W') (h1 : b1 < W.heap.size) (h2 : b2 < W.heap.size) :
    W'.cell? ⟨b1, i1, none⟩ = some u1 ∧ W'.cell? ⟨b1, i2, none⟩ = some u2 ∧ W'.cell? ⟨b1, i3, none⟩ = some u3 ∧ W'.cell? ⟨b2, i4, none⟩ = some u4 ∧ W'.cell? ⟨b2, i5, none⟩ = some u5 ∧ W'.cell? ⟨b2, i6, none⟩ = some u6 ∧ W'.cell? ⟨b2, i7, none⟩ = some u7 := by
  obtain ⟨a1, a2, a3, a4, a5, a6, a7⟩ := h
  exact ⟨(hb.cell (p := ⟨b1, i1, none⟩) h1).trans a1, (hb.cell (p := ⟨b1, i2, none⟩) h1).trans a2, (hb.cell (p := ⟨b1, i3, none⟩) h1).trans a3, (hb.cell (p := ⟨b2, i4, none⟩) h2).trans a4, (hb.cell (p := ⟨b2, i5, none⟩) h2).trans a5, (hb.cell (p := ⟨b2, i6, none⟩) h2).trans a6, (hb.cell (p := ⟨b2, i7, none⟩) h2).trans a7⟩
set_option maxHeartbeats 4000000 in
set_option maxRecDepth 100000 in
theorem qleft_any (v vo : Value) (l : List Tn) (os : List To) (f : ByteArray) (w : World) (hi : ItemsG 3 tf w v l) (ho : ItemsG 4 ofn w vo os) (hg : GoodT l) (hgo : os.length ≤ maxLen) :
    Calls Tryd.prog 30 #[v, vo, .string f] w fun e w' => ∃ v', e = .returned v' ∧ OwnT w' w.heap.size v' (lft l os f) ∧ Below w.heap.size w w' := by
  obtain ⟨i0, hi0, hz0, hz1, hz2⟩ := info_parts infoT
  obtain ⟨a, cap, rfl, hi⟩ := hi
  obtain ⟨ao, capo, rfl, ho⟩ := ho
  have hl := hg.1.1
  have hl2 := hg.1.2
  unfold maxLen at hl hgo
  have HA := hid hi
  have HAO := hid ho
  clear hi ho
  obtain ⟨len, hlen⟩ : ∃ n, n = l.length := ⟨_, rfl⟩
  obtain ⟨leo, hleo⟩ : ∃ n, n = os.length := ⟨_, rfl⟩
  rw [← hlen] at hl hl2 ⊢
  rw [← hleo] at hgo ⊢
  have HLEN := hid hlen
  have HLEO := hid hleo
  clear hlen hg hleo
  go_enter Tryd.func30, Tryd.ntmps30
  go_wp2_with fail
  go_loopw [7, 8] (fun o i wr => ∃ k : Nat, k ≤ len ∧ i = .int .i64 k ∧ Hid (Below w.heap.size w wr) ∧ Hid (OwnT wr w.heap.size o (lft (l.take k) os f))) (fun _ i _ => len - (intOf i).toNat)
  case atStart => exact ⟨0, Nat.zero_le _, rfl, hid (Below.refl _ _), hid (World.ownsRow_nil _ _ _ _)⟩
  case round =>
    obtain ⟨k, hk, rfl, HB, OW⟩ := hrel
    have hws : w.heap.size ≤ wr.heap.size := HB.out.size
    by_cases hlt : k < len
    · have hkl : k < l.length := by rw [← HLEN.out]; exact hlt
      rcases HA.out with h0 | ⟨b, off, rfl, hat⟩
      · omega
      have hbl := hat.1
      have HC := hid (fun W (hb : Below w.heap.size w W) => show W.cell? ⟨b, off + k * 3, none⟩ = some (.string l[k].1) ∧ W.cell? ⟨b, off + k * 3 + 1, none⟩ = some (.string l[k].2.1) ∧ W.cell? ⟨b, off + k * 3 + 2, none⟩ = some (.string l[k].2.2) from ⟨(hb.cell (p := ⟨b, off + k * 3, none⟩) hbl).trans (hat.2 k hkl 0 (by decide)), (hb.cell (p := ⟨b, off + k * 3 + 1, none⟩) hbl).trans (hat.2 k hkl 1 (by decide)), (hb.cell (p := ⟨b, off + k * 3 + 2, none⟩) hbl).trans (hat.2 k hkl 2 (by decide))⟩)
      have hsz : b < wr.heap.size := Nat.lt_of_lt_of_le hbl HB.out.size
      have dn := lft_no l os f k hkl
      have dy := lft_yes l os f k hkl
      have sk : (lft (l.take k) os f).length ≤ k := Nat.le_trans (lft_len _ _ _) (by rw [List.length_take]; omega)
      generalize lft (l.take k) os f = S at *
      generalize l[k] = t at *
      unfold keepB at dn dy
      obtain ⟨x, y, z⟩ := t
      simp only at HC dn dy
      unfold eqS at dn dy
      clear hat
      obtain ⟨c0, c1, c2⟩ := HC.out wr HB.out
      have gk1 : (k : Int) < (len : Int) := by omega
      have gk0 : (0 : Int) ≤ (k : Int) := by omega
      cases e1 : (z.toList == f.toList)
      · have HT := hid (dn (by rw [e1]; rfl))
        clear dn dy
        go_wp2_with fail
        exact ⟨⟨k + 1, by omega, by go_num, HB, hid (by rw [HT.out]; exact OW.out)⟩, by simp [intOf]; omega⟩
      · have HN := hid (fun h : mts os (x, y, z) = true => dn (by rw [e1, h]; rfl))
        have HY := hid (fun h : mts os (x, y, z) = false => dy (by rw [e1, h]; rfl))
        clear dn dy
        go_wp2_with fail
        clear c0 c1 c2
        generalize wr = wB at *
        go_loopw [9, 10] (fun fr j wr => ∃ n : Nat, n ≤ leo ∧ j = .int .i64 n ∧ fr = .bool (MS os n (x, y, z)) ∧ Hid (Below wB.heap.size wB wr)) (fun _ j _ => leo - (intOf j).toNat)
        case atStart => exact ⟨0, Nat.zero_le _, rfl, rfl, hid (Below.refl _ _)⟩
        case round =>
          obtain ⟨n, hn, rfl, rfl, HB9⟩ := hrel
          have BC := hid (HB.out.trans (HB9.out.mono HB.out.size))
          by_cases hln : n < leo
          · have hno : n < os.length := by rw [← HLEO.out]; exact hln
            rcases HAO.out with h0 | ⟨bo, offo, rfl, hato⟩
            · omega
            have hbo := hato.1
            obtain ⟨c0, c1, c2⟩ := HC.out wr BC.out
            have d0 : wr.cell? ⟨bo, offo + n * 4, none⟩ = some (.string os[n].1) := (BC.out.cell (p := ⟨bo, offo + n * 4, none⟩) hbo).trans (hato.2 n hno 0 (by decide))
            have d1 : wr.cell? ⟨bo, offo + n * 4 + 1, none⟩ = some (.string os[n].2.1) := (BC.out.cell (p := ⟨bo, offo + n * 4 + 1, none⟩) hbo).trans (hato.2 n hno 1 (by decide))
            have d2 : wr.cell? ⟨bo, offo + n * 4 + 2, none⟩ = some (.string os[n].2.2.1) := (BC.out.cell (p := ⟨bo, offo + n * 4 + 2, none⟩) hbo).trans (hato.2 n hno 2 (by decide))
            have d3 : wr.cell? ⟨bo, offo + n * 4 + 3, none⟩ = some (.string os[n].2.2.2) := (BC.out.cell (p := ⟨bo, offo + n * 4 + 3, none⟩) hbo).trans (hato.2 n hno 3 (by decide))
            have s1 : b < wr.heap.size := Nat.lt_of_lt_of_le hbl BC.out.size
            have s2 : bo < wr.heap.size := Nat.lt_of_lt_of_le hbo BC.out.size
            have HMk := hid (fun W => qmatch_any os[n] (x, y, z) W)
            have HMS := hid (ms_next hno (x, y, z))
            generalize mt os[n] (x, y, z) = r at *
            generalize os[n] = o at *
            obtain ⟨o0, o1, o2, o3⟩ := o
            simp only [tv, ov] at HMk d0 d1 d2 d3
            clear hato
            have g1 : (n : Int) < (leo : Int) := by omega
            have g2 : (0 : Int) ≤ (n : Int) := by omega
            generalize MS os n (x, y, z) = q at *
            have T0 : wr.drew.cell? ⟨b, off + k * 3, none⟩ = some (.string x) ∧ wr.drew.cell? ⟨b, off + k * 3 + 1, none⟩ = some (.string y) ∧ wr.drew.cell? ⟨b, off + k * 3 + 2, none⟩ = some (.string z) ∧ wr.drew.cell? ⟨bo, offo + n * 4, none⟩ = some (.string o0) ∧ wr.drew.cell? ⟨bo, offo + n * 4 + 1, none⟩ = some (.string o1) ∧ wr.drew.cell? ⟨bo, offo + n * 4 + 2, none⟩ = some (.string o2) ∧ wr.drew.cell? ⟨bo, offo + n * 4 + 3, none⟩ = some (.string o3) := ⟨c0, c1, c2, d0, d1, d2, d3⟩
            go_wp2_with fail
            go_region_held3 (fun W => W.cell? ⟨b, off + k * 3, none⟩ = some (.string x) ∧ W.cell? ⟨b, off + k * 3 + 1, none⟩ = some (.string y) ∧ W.cell? ⟨b, off + k * 3 + 2, none⟩ = some (.string z) ∧ W.cell? ⟨bo, offo + n * 4, none⟩ = some (.string o0) ∧ W.cell? ⟨bo, offo + n * 4 + 1, none⟩ = some (.string o1) ∧ W.cell? ⟨bo, offo + n * 4 + 2, none⟩ = some (.string o2) ∧ W.cell? ⟨bo, offo + n * 4 + 3, none⟩ = some (.string o3))
              (first | exact T0 | exact T1)
              (first
                | (go_at_call 51; refine (HMk.out _).mono ?_; rintro e w2 ⟨rfl, hb⟩; have T1 := sev_cells T0 hb s1 s2; have D1 := hid hb; clear hb))
            have B2 := hid (show Below wB.heap.size wB w2 from HB9.out.drew.trans (D1.out.mono HB9.out.size))
            clear T0 T1 D1
            cases q
            · go_wp2_with fail
              exact ⟨⟨n + 1, by omega, by go_num, by rw [HMS.out]; simp, B2⟩, by simp [intOf]; omega⟩
            · go_wp2_with fail
              exact ⟨⟨n + 1, by omega, by go_num, by rw [HMS.out]; simp, B2⟩, by simp [intOf]; omega⟩
          · obtain rfl : n = leo := by omega
            have hq : MS os n (x, y, z) = mts os (x, y, z) := by rw [HLEO.out]; exact ms_all _ _
            rw [hq]
            clear hq
            obtain ⟨c0, c1, c2⟩ := HC.out wr BC.out
            have g1 : ¬ (n : Int) < (n : Int) := by omega
            have hwr : w.heap.size ≤ wr.heap.size := BC.out.size
            have OW2 := hid (ownG_low OW.out HB9.out)
            have s1 : b < wr.heap.size := Nat.lt_of_lt_of_le hbl BC.out.size
            generalize mts os (x, y, z) = r at *
            cases r
            · have HT := hid (HY.out rfl)
              clear HN HY
              go_wp2_with (first
                | (at_builtin; refine wpList_append_own _ rfl _ _ 26 rfl w.heap.size 23 i0 (.agg #[.string ByteArray.empty, .string ByteArray.empty, .string ByteArray.empty]) 3 48 Tryd.underlying26 hi0 hz0 hz1 hz2 rfl (by decide) _ _ _ rfl (World.ownsRow.alloc OW2.out _) ⟨wr.heap.size, 0, none⟩ 1 1 [.string x, .string y, .string z] rfl rfl (cell_three_at _ _ _ _ _ _ rfl) (fun x hx => by simp at hx; rcases hx with rfl | rfl | rfl <;> rfl) (by unfold maxLen at *; omega) (by omega) (by simp; omega) ?_; intro v' w3 hown' hgrow3 hnil3)
                | go_in)
              clear hnil3
              have B3 : Below w.heap.size w w3 := (BC.out.alloc BC.out.size _).grown hgrow3 (by simp; omega) (fun j hj => own_base OW2.out j hj)
              exact ⟨⟨k + 1, by omega, by go_num, hid B3, hid (by rw [HT.out]; exact ownT_snoc hown')⟩, by simp [intOf]; omega⟩
            · have HT := hid (HN.out rfl)
              clear HN HY
              go_wp2_with fail
              exact ⟨⟨k + 1, by omega, by go_num, BC, hid (by rw [HT.out]; exact OW2.out)⟩, by simp [intOf]; omega⟩
    · obtain rfl : k = len := by omega
      have o := OW.out
      rw [show l.take k = l by rw [HLEN.out, List.take_length]] at o
      have O := hid o
      clear o
      have g1 : ¬ (k : Int) < (k : Int) := by omega
      go_wp2_with fail
      go_ret
      exact ⟨_, rfl, O.out, HB.out⟩
end Go.Proofs.YtppblibcbjpfnaaDoor.L
