import Derived.Test.YtppblibcbjpfnaaDoorTl8
namespace Go.Proofs.YtppblibcbjpfnaaDoor.L
open Go.RowKit Go.Sort
set_option linter.unusedVariables false
theorem tri3_low {W W' : World} {b : Nat} {x y z : Value} (h : W.cell? ⟨b, 0, none⟩ = some x ∧ W.cell? ⟨b, 1, none⟩ = some y ∧ W.cell? ⟨b, 2, none⟩ = some z) (hb : RowKit.Below W.heap.size W W') (hz : b < W.heap.size) : W'.cell? ⟨b, 0, none⟩ = some x ∧ W'.cell? ⟨b, 1, none⟩ = some y ∧ W'.cell? ⟨b, 2, none⟩ = some z :=
  ⟨(hb.cell (p := ⟨b, 0, none⟩) hz).trans h.1, (hb.cell (p := ⟨b, 1, none⟩) hz).trans h.2.1, (hb.cell (p := ⟨b, 2, none⟩) hz).trans h.2.2⟩
theorem put_again {L W : List Tn} {t : Tn} {w' : World} {v' : Value} {l' : List Tn} {er : Int} (hp : Put L W t) (hr : PutR (tE t) t (dels W t.1 t.2.2) w' v' l' er) : er = 0 ∧ CameT w' v' W := by
  rcases hr with ⟨h, _⟩ | ⟨_, h, _⟩ | ⟨_, _, h, hc, hs⟩
  · exact absurd hp.et h
  · rw [hp.deq] at h
    exact absurd h hp.room
  · rw [hp.again hs] at hc
    exact ⟨h, hc⟩
theorem any_take (l : List Tn) (t : Tn) (k : Nat) (h : k < l.length) : (l.take (k + 1)).any (fun u => eqS u.1 t.1 && eqS u.2.1 t.2.1 && eqS u.2.2 t.2.2) = ((l.take k).any (fun u => eqS u.1 t.1 && eqS u.2.1 t.2.1 && eqS u.2.2 t.2.2) || (eqS l[k].1 t.1 && eqS l[k].2.1 t.2.1 && eqS l[k].2.2 t.2.2)) := by
  rw [List.take_succ_eq_append_getElem h, List.any_append]
  simp
theorem any_mem {l : List Tn} {t : Tn} (h : t ∈ l) : l.any (fun u => eqS u.1 t.1 && eqS u.2.1 t.2.1 && eqS u.2.2 t.2.2) = true := List.any_eq_true.2 ⟨t, h, by rw [eqS_iff.2 rfl, eqS_iff.2 rfl, eqS_iff.2 rfl]; rfl⟩
set_option maxHeartbeats 8000000 in
set_option maxRecDepth 100000 in
theorem putf_any (v1 v2 : Value) (L W : List Tn) (t : Tn) (had : Bool) (w : World) (c1 : CameT w v1 L) (c2 : CameT w v2 W) (g1 : GoodT L) (g2 : GoodT W) (hp : Put L W t) (hh : had = decide ((dels L t.1 t.2.2).length < L.length)) (ht : t.1.size ≤ maxLen ∧ t.2.1.size ≤ maxLen ∧ t.2.2.size ≤ maxLen) :
    Calls Tryd.prog 22 #[v1, v2, tv t, .bool had] w fun e w' => e = .returned (.bool true) ∧ RowKit.Below w.heap.size w w' := by
  have C1 := hid c1
  have C2 := hid c2
  have HP := hid hp
  have HH := hid hh
  have CP1 := hid (fun W' (h : CameT W' v1 L) => taints_any v1 L W' h g1)
  have CP2 := hid (fun W' (h : CameT W' v2 W) => taints_any v2 W W' h g2)
  have PU := hid (fun W' v (h : CameT W' v W) => put_any v W t W' h g2 hp.okW ht)
  have DL1 := hid (fun W' v (h : CameT W' v L) => del_any v L t.1 t.2.2 W' h.items g1)
  have DL2 := hid (fun W' v (h : CameT W' v W) => del_any v W t.1 t.2.2 W' h.items g2)
  have N0 := hid (fun W' => num_any 0 W' (by decide))
  have hW16 : W.length ≤ 16 := hp.okW.len
  have hL16 : L.length ≤ 16 := hp.okL.len
  clear c1 c2 hp hh
  obtain ⟨x, y, z⟩ := t
  simp only [tv] at *
  have HT := hid (three w (.string x) (.string y) (.string z) 23)
  have HW := hid (belowA w (.cells #[.string x, .string y, .string z] 23))
  have hz : w.heap.size < (w.alloc (.cells #[.string x, .string y, .string z] 23)).heap.size := by simp
  go_enter Tryd.func22, Tryd.ntmps22
  go_wp2_with fail
  generalize hW0 : w.alloc (.cells #[.string x, .string y, .string z] 23) = W0 at *
  clear hW0
  have T0 : W0.drew.cell? ⟨w.heap.size, 0, none⟩ = some (.string x) ∧ W0.drew.cell? ⟨w.heap.size, 1, none⟩ = some (.string y) ∧ W0.drew.cell? ⟨w.heap.size, 2, none⟩ = some (.string z) := HT.out
  go_region_held3 (fun W => W.cell? ⟨w.heap.size, 0, none⟩ = some (.string x) ∧ W.cell? ⟨w.heap.size, 1, none⟩ = some (.string y) ∧ W.cell? ⟨w.heap.size, 2, none⟩ = some (.string z))
    (first | exact T0 | exact T1 | exact T2)
    (first
      | (go_at_call 16; refine (CP2.out _ (C2.out.low HW.out.drew)).mono ?_; rintro e y1 ⟨xa, rfl, hxa, hb⟩; have T1 := tri3_low T0 hb hz; have XA := hid (ownG_came hxa); have D1 := hid (show RowKit.Below W0.heap.size W0 y1 from (RowKit.Below.refl _ _).drew.trans hb); clear hb hxa)
      | (go_at_call 20; refine (PU.out _ _ XA.out).mono ?_; rintro e y2 ⟨va, la, er, rfl, hb, hr⟩; obtain ⟨her, hca⟩ := put_again HP.out hr; subst her; have T2 := tri3_low T1 hb (Nat.lt_of_lt_of_le hz D1.out.size); have VA := hid hca; have D2 := hid (D1.out.trans (hb.mono D1.out.size)); clear hb hr hca))
  have B2 := hid (HW.out.trans (D2.out.mono HW.out.size))
  have HT2 := hid T2
  have z2 : w.heap.size < y2.heap.size := Nat.lt_of_lt_of_le hz D2.out.size
  clear T0 T1 T2 XA D1 D2 PU HT
  go_wp2_with fail
  refine (N0.out _).mono ?_
  rintro e y3 ⟨rfl, hww⟩; have hw2 := hww.symm; clear hww; subst hw2
  go_wp2_with fail
  refine (same_any va v2 W y2 VA.out.items (C2.out.low B2.out).items (by unfold maxLen; omega)).mono ?_
  rintro e y4 ⟨rfl, hb⟩
  have B4 := hid (B2.out.trans (hb.mono B2.out.size))
  have HT4 := hid (tri3_low HT2.out hb z2)
  have z4 : w.heap.size < y4.heap.size := Nat.lt_of_lt_of_le z2 hb.size
  clear hb HT2 z2 VA B2
  obtain ⟨a2, k2, rfl, h2⟩ := (C2.out.low B4.out).items
  have H2 := hid h2
  clear h2
  obtain ⟨ln, hln⟩ : ∃ n, n = W.length := ⟨_, rfl⟩
  have HLN := hid hln
  rw [← hln] at hW16 C2 CP2 ⊢
  clear hln
  have HMEM := hid (any_mem HP.out.mem)
  go_wp2_with fail
  go_loopw [11, 12] (fun sv i wr => ∃ k : Nat, k ≤ ln ∧ i = .int .i64 k ∧ sv = .bool ((W.take k).any (fun u => eqS u.1 x && eqS u.2.1 y && eqS u.2.2 z)) ∧ Hid (RowKit.Below y4.heap.size y4 wr)) (fun _ i _ => ln - (intOf i).toNat)
  case atStart => exact ⟨0, Nat.zero_le _, rfl, by simp, hid (RowKit.Below.refl _ _)⟩
  case round =>
    obtain ⟨k, hk, rfl, rfl, HB⟩ := hrel
    by_cases hlt : k < ln
    · have hkl : k < W.length := by rw [← HLN.out]; exact hlt
      rcases H2.out with h0 | ⟨b, off, rfl, hat⟩
      · omega
      have c0 : wr.cell? ⟨b, off + k * 3, none⟩ = some (.string W[k].1) := (HB.out.cell (p := ⟨b, off + k * 3, none⟩) hat.1).trans (hat.2 k hkl 0 (by decide))
      have c1 : wr.cell? ⟨b, off + k * 3 + 1, none⟩ = some (.string W[k].2.1) := (HB.out.cell (p := ⟨b, off + k * 3 + 1, none⟩) hat.1).trans (hat.2 k hkl 1 (by decide))
      have c2 : wr.cell? ⟨b, off + k * 3 + 2, none⟩ = some (.string W[k].2.2) := (HB.out.cell (p := ⟨b, off + k * 3 + 2, none⟩) hat.1).trans (hat.2 k hkl 2 (by decide))
      obtain ⟨d0, d1, d2⟩ := tri3_low HT4.out HB.out z4
      have AT := hid (any_take W (x, y, z) k hkl)
      generalize W[k] = u at *
      obtain ⟨u0, u1, u2⟩ := u
      simp only at c0 c1 c2 AT
      generalize (W.take k).any (fun u => eqS u.1 x && eqS u.2.1 y && eqS u.2.2 z) = sb at *
      clear hat
      have q1 : (k : Int) < (ln : Int) := by omega
      have q2 : (0 : Int) ≤ (k : Int) := by omega
      cases sb
      · cases f0 : (u0.toList == x.toList)
        · rw [show eqS u0 x = false from f0] at AT
          go_wp2_with fail
          go_quiet (fail)
          go_wp2_with fail
          exact ⟨⟨k + 1, by omega, by go_num, by rw [AT.out] <;> rfl, hid (below_drewN HB.out nq)⟩, by simp [intOf]; omega⟩
        · cases f1 : (u1.toList == y.toList)
          · rw [show eqS u0 x = true from f0, show eqS u1 y = false from f1] at AT
            go_wp2_with fail
            go_quiet (fail)
            go_wp2_with fail
            exact ⟨⟨k + 1, by omega, by go_num, by rw [AT.out] <;> rfl, hid (below_drewN HB.out nq)⟩, by simp [intOf]; omega⟩
          · cases f2 : (u2.toList == z.toList)
            · rw [show eqS u0 x = true from f0, show eqS u1 y = true from f1, show eqS u2 z = false from f2] at AT
              go_wp2_with fail
              go_quiet (fail)
              go_wp2_with fail
              exact ⟨⟨k + 1, by omega, by go_num, by rw [AT.out] <;> rfl, hid (below_drewN HB.out nq)⟩, by simp [intOf]; omega⟩
            · rw [show eqS u0 x = true from f0, show eqS u1 y = true from f1, show eqS u2 z = true from f2] at AT
              go_wp2_with fail
              go_quiet (fail)
              go_wp2_with fail
              exact ⟨⟨k + 1, by omega, by go_num, by rw [AT.out] <;> rfl, hid (below_drewN HB.out nq)⟩, by simp [intOf]; omega⟩
      · rw [Bool.true_or] at AT
        go_wp2_with fail
        go_quiet (fail)
        go_wp2_with fail
        exact ⟨⟨k + 1, by omega, by go_num, by rw [AT.out] <;> rfl, hid (below_drewN HB.out nq)⟩, by simp [intOf]; omega⟩
    · obtain rfl : k = ln := by omega
      have hat : (W.take k).any (fun u => eqS u.1 x && eqS u.2.1 y && eqS u.2.2 z) = true := by rw [HLN.out, List.take_length]; exact HMEM.out
      rw [hat]
      have B5 := hid (B4.out.trans (HB.out.mono B4.out.size))
      have HT5 := hid (tri3_low HT4.out HB.out z4)
      have z5 : w.heap.size < wr.heap.size := Nat.lt_of_lt_of_le z4 HB.out.size
      clear hat HB HT4 z4 B4 H2 HMEM
      go_wp2_with fail
      have T0 : wr.drew.cell? ⟨w.heap.size, 0, none⟩ = some (.string x) ∧ wr.drew.cell? ⟨w.heap.size, 1, none⟩ = some (.string y) ∧ wr.drew.cell? ⟨w.heap.size, 2, none⟩ = some (.string z) := HT5.out
      go_region_held3 (fun W => W.cell? ⟨w.heap.size, 0, none⟩ = some (.string x) ∧ W.cell? ⟨w.heap.size, 1, none⟩ = some (.string y) ∧ W.cell? ⟨w.heap.size, 2, none⟩ = some (.string z))
        (first | exact T0 | exact T1 | exact T2)
        (first
          | (go_at_call 16; refine (CP2.out _ (C2.out.low B5.out.drew)).mono ?_; rintro e m1 ⟨xb1, rfl, hxa, hb⟩; have T1 := tri3_low T0 hb z5; have XA := hid (ownG_came hxa); have D1 := hid (show RowKit.Below wr.heap.size wr m1 from (RowKit.Below.refl _ _).drew.trans hb); clear hb hxa)
          | (go_at_call 21; refine (DL2.out _ _ XA.out).mono ?_; rintro e n1 ⟨vd1, rfl, hod, hb⟩; have T2 := tri3_low T1 hb (Nat.lt_of_lt_of_le z5 D1.out.size); have VD1 := hid (ownG_came hod); have D2 := hid (D1.out.trans (hb.mono D1.out.size)); clear hb hod))
      have BN1 := hid (B5.out.trans (D2.out.mono B5.out.size))
      have HTN1 := hid T2
      have zn1 : w.heap.size < n1.heap.size := Nat.lt_of_lt_of_le z5 D2.out.size
      clear T0 T1 T2 XA D1 D2 HT5 z5 B5
      go_wp2_with fail
      have T0 : n1.drew.cell? ⟨w.heap.size, 0, none⟩ = some (.string x) ∧ n1.drew.cell? ⟨w.heap.size, 1, none⟩ = some (.string y) ∧ n1.drew.cell? ⟨w.heap.size, 2, none⟩ = some (.string z) := HTN1.out
      go_region_held3 (fun W => W.cell? ⟨w.heap.size, 0, none⟩ = some (.string x) ∧ W.cell? ⟨w.heap.size, 1, none⟩ = some (.string y) ∧ W.cell? ⟨w.heap.size, 2, none⟩ = some (.string z))
        (first | exact T0 | exact T1 | exact T2)
        (first
          | (go_at_call 16; refine (CP1.out _ (C1.out.low BN1.out.drew)).mono ?_; rintro e m2 ⟨xb2, rfl, hxa, hb⟩; have T1 := tri3_low T0 hb zn1; have XA := hid (ownG_came hxa); have D1 := hid (show RowKit.Below n1.heap.size n1 m2 from (RowKit.Below.refl _ _).drew.trans hb); clear hb hxa)
          | (go_at_call 21; refine (DL1.out _ _ XA.out).mono ?_; rintro e n2 ⟨vd2, rfl, hod, hb⟩; have T2 := tri3_low T1 hb (Nat.lt_of_lt_of_le zn1 D1.out.size); have VD2 := hid (ownG_came hod); have D2 := hid (D1.out.trans (hb.mono D1.out.size)); clear hb hod))
      have BN2 := hid (BN1.out.trans (D2.out.mono BN1.out.size))
      have HTN2 := hid T2
      have zn2 : w.heap.size < n2.heap.size := Nat.lt_of_lt_of_le zn1 D2.out.size
      have VE := hid (VD1.out.low D2.out)
      clear T0 T1 T2 XA D1 D2 HTN1 zn1 BN1 VD1
      have DQ := hid HP.out.deq
      simp only at DQ
      have WL := hid HP.out.wlen
      simp only at WL
      have GEd := hid (dels_ge (HP.out.okL.up.imp tlt_not) x z)
      have DLn := hid (dels_len L x z)
      have DS := hid (fun h => dels_same (l := L) (k := x) (f := z) h)
      rw [DQ.out] at VE
      obtain ⟨al, kl, hvl, _⟩ := (C1.out.low BN2.out).items
      subst hvl
      obtain ⟨ar, kr, hvr, _⟩ := VD2.out.items
      subst hvr
      have hdm : (dels L x z).length ≤ maxLen := by have := DLn.out; unfold maxLen; omega
      have SM := hid (same_any vd1 _ (dels L x z) n2 VE.out.items VD2.out.items hdm)
      have C1n := hid (C1.out.low BN2.out)
      have w1 : decide ((dels W x z).length < W.length) = true := by
        rw [decide_eq_true_iff, DQ.out, WL.out]
        omega
      rw [w1]
      have hk1 : k = (dels L x z).length + 1 := HLN.out.trans WL.out
      by_cases hdl : (dels L x z).length < L.length
      · have hhad : had = true := by rw [HH.out]; exact decide_eq_true hdl
        rw [decide_eq_true hdl]
        subst hhad
        have hL1 : L.length = (dels L x z).length + 1 := by have := GEd.out; omega
        rw [hL1]
        subst hk1
        have hn16 : (dels L x z).length ≤ 16 := by omega
        generalize (dels L x z).length = n at *
        clear hL1 w1 hdl DLn GEd WL HH DS DL1 DL2 CP1 CP2 HLN
        go_wp2_with fail
        refine SM.out.mono ?_
        rintro e m5 ⟨rfl, hb⟩
        have BB := hid (BN2.out.trans (hb.mono BN2.out.size))
        clear hb SM
        go_wp2_with fail
        go_ret
        exact ⟨by first | rfl | (refine ret_bool ?_; simp) , BB.out⟩
      · have hhad : had = false := by rw [HH.out]; exact decide_eq_false hdl
        have hL1 : (dels L x z).length = L.length := by have := DLn.out; omega
        have hDL := DS.out hL1
        rw [decide_eq_false hdl]
        subst hhad
        rw [hDL] at hk1 SM VD2 VE hdm ⊢
        have SM2 := hid (fun W' (hb : RowKit.Below n2.heap.size n2 W') => same_any _ _ L W' (VD2.out.low hb).items (C1n.out.low hb).items hdm)
        subst hk1
        clear hL1 w1 hdl DLn GEd WL HH DS DL1 DL2 CP1 CP2 HLN hDL
        generalize L.length = n at *
        go_wp2_with fail
        refine SM.out.mono ?_
        rintro e m5 ⟨rfl, hb⟩
        have BB := hid (BN2.out.trans (hb.mono BN2.out.size))
        have SM3 := hid (SM2.out m5 hb)
        clear hb SM SM2
        go_wp2_with fail
        refine SM3.out.mono ?_
        rintro e m6 ⟨rfl, hb⟩
        have BC := hid (BB.out.trans (hb.mono BB.out.size))
        clear hb SM3
        go_wp2_with fail
        go_ret
        exact ⟨by first | rfl | (refine ret_bool ?_; simp), BC.out⟩
end Go.Proofs.YtppblibcbjpfnaaDoor.L
