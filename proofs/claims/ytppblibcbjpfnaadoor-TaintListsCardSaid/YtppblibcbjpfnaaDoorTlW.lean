import Derived.Test.YtppblibcbjpfnaaDoorTl9
import Derived.Test.YtppblibcbjpfnaaDoorAwk
namespace Go.Proofs.YtppblibcbjpfnaaDoor.L
open Go.RowKit Go.Sort
set_option linter.unusedVariables false
/-- The law's argument in memory. -/
structure OpAl (W : World) (b : Nat) (t : Tn) (v : Value) : Prop where
  c1 : W.cell? ⟨b, 1, none⟩ = some (.string t.1)
  c2 : W.cell? ⟨b, 2, none⟩ = some (.string t.2.1)
  c3 : W.cell? ⟨b, 3, none⟩ = some (.string t.2.2)
  c10 : W.cell? ⟨b, 10, none⟩ = some v
  lt : b < W.heap.size
theorem opl_new (w : World) (kd : Int) (t : Tn) (o : To) (s key : ByteArray) (v vo : Value) (ty : TypeId) : OpAl (w.alloc (.cells #[.int .i64 kd, .string t.1, .string t.2.1, .string t.2.2, .string o.1, .string o.2.1, .string o.2.2.1, .string o.2.2.2, .string s, .string key, v, vo] ty)) w.heap.size t v := by
  have h : (w.alloc (.cells #[.int .i64 kd, .string t.1, .string t.2.1, .string t.2.2, .string o.1, .string o.2.1, .string o.2.2.1, .string o.2.2.2, .string s, .string key, v, vo] ty)).heap[w.heap.size]? = some (.cells #[.int .i64 kd, .string t.1, .string t.2.1, .string t.2.2, .string o.1, .string o.2.1, .string o.2.2.1, .string o.2.2.2, .string s, .string key, v, vo] ty) := by
    show (w.heap.push _)[w.heap.size]? = _
    simp
  refine ⟨?_, ?_, ?_, ?_, ?_⟩
  all_goals first | (unfold World.cell?; rw [h]; rfl) | simp
theorem OpAl.low {W W' : World} {b : Nat} {t : Tn} {v : Value} (h : OpAl W b t v) (hb : RowKit.Below W.heap.size W W') : OpAl W' b t v := by
  have e : ∀ i, W'.cell? ⟨b, i, none⟩ = W.cell? ⟨b, i, none⟩ := fun i => hb.cell (p := ⟨b, i, none⟩) h.lt
  obtain ⟨a1, a2, a3, a10, lt⟩ := h
  exact ⟨(e _).trans a1, (e _).trans a2, (e _).trans a3, (e _).trans a10, Nat.lt_of_lt_of_le lt hb.size⟩
theorem PutR.low {te : Int} {t : Tn} {D : List Tn} {w w' : World} {v : Value} {l' : List Tn} {er : Int} (h : PutR te t D w v l' er) (hb : RowKit.Below w.heap.size w w') : PutR te t D w' v l' er := by
  rcases h with h | h | ⟨h1, h2, h3, h4, h5⟩
  · exact Or.inl h
  · exact Or.inr (Or.inl h)
  · exact Or.inr (Or.inr ⟨h1, h2, h3, h4.low hb, h5⟩)
theorem tr_low {W W' : World} {b : Nat} {x y z : Value} (h : W.cell? ⟨b, 1, none⟩ = some x ∧ W.cell? ⟨b, 2, none⟩ = some y ∧ W.cell? ⟨b, 3, none⟩ = some z) (hb : RowKit.Below W.heap.size W W') (hz : b < W.heap.size) : W'.cell? ⟨b, 1, none⟩ = some x ∧ W'.cell? ⟨b, 2, none⟩ = some y ∧ W'.cell? ⟨b, 3, none⟩ = some z :=
  ⟨(hb.cell (p := ⟨b, 1, none⟩) hz).trans h.1, (hb.cell (p := ⟨b, 2, none⟩) hz).trans h.2.1, (hb.cell (p := ⟨b, 3, none⟩) hz).trans h.2.2⟩
set_option maxHeartbeats 8000000 in
set_option maxRecDepth 100000 in
theorem lists_walk (kd : Int) (t : Tn) (o : To) (s key : ByteArray) (v vo : Value) (l : List Tn) (w : World) (hc : CameT w v l) (hg : GoodT l) (ht : t.1.size ≤ maxLen ∧ t.2.1.size ≤ maxLen ∧ t.2.2.size ≤ maxLen) :
    Calls Tryd.prog 4 #[.agg #[.int .i64 kd, .string t.1, .string t.2.1, .string t.2.2, .string o.1, .string o.2.1, .string o.2.2.1, .string o.2.2.2, .string s, .string key, v, vo]] w fun e w' => e = .returned (.bool true) ∧ RowKit.Below w.heap.size w w' := by
  have H0 := hid (opl_new w kd t o s key v vo 29)
  have HW0 := hid (belowA w (.cells #[.int .i64 kd, .string t.1, .string t.2.1, .string t.2.2, .string o.1, .string o.2.1, .string o.2.2.1, .string o.2.2.2, .string s, .string key, v, vo] 29))
  have HC := hid hc
  have HG := hid hg
  have CP := hid (fun W (h : CameT W v l) => taints_any v l W h hg)
  have N0 := hid (fun W' => num_any 0 W' (by decide))
  have hl := hg.1.1
  have hl2 := hg.1.2
  unfold maxLen at hl
  obtain ⟨a, cap, rfl, hA⟩ := hc.items
  have HA := hid hA
  clear hc hg hA
  obtain ⟨ln, hln⟩ : ∃ n, n = l.length := ⟨_, rfl⟩
  have HLN := hid hln
  rw [← hln] at hl hl2 HC CP H0 HW0 ⊢
  clear hln
  go_enter Tryd.func4, Tryd.ntmps4
  go_wp2_with fail
  refine (awake_any _).mono ?_
  rintro e w1 ⟨rfl, hb⟩
  have B1 := hid (HW0.out.trans (hb.mono HW0.out.size))
  have H1 := hid (H0.out.low hb)
  clear hb HW0 H0
  obtain ⟨c1, c2, c3, c10, lt⟩ := H1.out
  go_wp2_with fail
  refine (CP.out _ (HC.out.low B1.out)).mono ?_
  rintro e w2 ⟨x1, rfl, hx1, hb⟩
  have B2 := hid (B1.out.trans (hb.mono B1.out.size))
  have H2 := hid (H1.out.low hb)
  have MK := hid (make_any x1 l w2 (ownG_came hx1) HG.out)
  clear hb hx1 c1 c2 c3 c10 lt B1 H1
  go_wp2_with fail
  refine MK.out.mono ?_
  rintro e w3 ⟨vl, l', at', er, rfl, hb, hr⟩
  have B3 := hid (B2.out.trans (hb.mono B2.out.size))
  have H3 := hid (H2.out.low hb)
  obtain ⟨c1, c2, c3, c10, lt⟩ := H3.out
  clear hb B2 H2 MK
  rcases hr with ⟨h1, h2, rfl, h3, h4⟩ | ⟨rfl, rfl, hcl, hsl, hok⟩
  · have NE := hid (fun W => num_any er W (by omega))
    have e0 : (er != 0) = true := by simpa using h1
    have CK := hid (fun W v (h : CameT W v l) => check_any v l W h.items HG.out)
    have NB := hid (show ¬ OkUp l from fun h => h4 h.ok)
    have k1 : (0 : Int) ≤ at' := h3.1
    have k2 : at' < (ln : Int) + 1 := by have := HLN.out; omega
    clear h1 h2 h3 h4
    go_wp2_with fail
    refine (NE.out _).mono ?_
    rintro e w9 ⟨rfl, hww⟩; have hw2 := hww.symm; clear hww; subst hw2
    go_wp2_with fail
    refine (CP.out _ (HC.out.low B3.out)).mono ?_
    rintro e w4 ⟨x2, rfl, hx2, hb⟩
    have B4 := hid (B3.out.trans (hb.mono B3.out.size))
    have CK4 := hid (CK.out w4 x2 (ownG_came hx2))
    clear hb hx2 B3 CK
    go_wp2_with fail
    refine CK4.out.mono ?_
    rintro e w5 ⟨er2, rfl, hb, hr2, hiff⟩
    have B5 := hid (B4.out.trans (hb.mono B4.out.size))
    have NE2 := hid (fun W => num_any er2 W hr2)
    have e2 : (er2 != 0) = true := by
      have : er2 ≠ 0 := fun h => NB.out (hiff.1 h)
      simpa using this
    clear hb hr2 hiff CK4 B4
    go_wp2_with fail
    refine (NE2.out _).mono ?_
    rintro e w9 ⟨rfl, hww⟩; have hw2 := hww.symm; clear hww; subst hw2
    go_wp2_with fail
    go_ret
    exact ⟨by first | rfl | (refine ret_bool ?_; simp), B5.out⟩
  · have OU := hid (made_up hok hsl)
    have gl' : GoodT l' := HG.out.sub (Nat.le_of_eq hsl.1.length_eq) fun x hx => hsl.1.mem_iff.1 hx
    have GL := hid gl'
    have SL := hid hsl
    have OK := hid hok
    have CL := hid hcl
    obtain ⟨al, cl, rfl, hAl⟩ := hcl.items
    have hll : l'.length = ln := hsl.1.length_eq.trans HLN.out.symm
    rw [hll] at CL ⊢
    have hl16 : ln ≤ 16 := by rw [HLN.out]; exact hok.len
    have HLL := hid hll
    clear hll hcl hsl hok gl' hAl
    have CPL := hid (fun W (h : CameT W (.slice al ln cl) l') => taints_any (.slice al ln cl) l' W h GL.out)
    have CKL := hid (fun W v (h : CameT W v l') => check_any v l' W h.items GL.out)
    have hlm : l'.length ≤ maxLen := GL.out.1.1
    go_wp2_with fail
    refine (N0.out _).mono ?_
    rintro e w9 ⟨rfl, hww⟩; have hw2 := hww.symm; clear hww; subst hw2
    go_wp2_with fail
    refine (rises_any _ l' w3 CL.out.items hlm OU.out.up).mono ?_
    rintro e w4 ⟨rfl, hb⟩
    have B4 := hid (B3.out.trans (hb.mono B3.out.size))
    have H4 := hid (H3.out.low hb)
    have CL4 := hid (CL.out.low hb)
    clear hb B3 H3 CL c1 c2 c3 c10 lt
    obtain ⟨c1, c2, c3, c10, lt⟩ := H4.out
    go_wp2_with fail
    refine (CPL.out _ CL4.out).mono ?_
    rintro e w5 ⟨x3, rfl, hx3, hb⟩
    have B5 := hid (B4.out.trans (hb.mono B4.out.size))
    have H5 := hid (H4.out.low hb)
    have CL5 := hid (CL4.out.low hb)
    have CK5 := hid (CKL.out w5 x3 (ownG_came hx3))
    clear hb hx3 B4 H4 CL4 c1 c2 c3 c10 lt
    obtain ⟨c1, c2, c3, c10, lt⟩ := H5.out
    go_wp2_with fail
    refine CK5.out.mono ?_
    rintro e w6 ⟨er2, rfl, hb, _, hiff⟩
    obtain rfl : er2 = 0 := hiff.2 OU.out
    have B6 := hid (B5.out.trans (hb.mono B5.out.size))
    have H6 := hid (H5.out.low hb)
    have CL6 := hid (CL5.out.low hb)
    clear hb hiff B5 H5 CL5 CK5 c1 c2 c3 c10 lt
    obtain ⟨c1, c2, c3, c10, lt⟩ := H6.out
    go_wp2_with fail
    refine (N0.out _).mono ?_
    rintro e w9 ⟨rfl, hww⟩; have hw2 := hww.symm; clear hww; subst hw2
    obtain ⟨i0, hi0, hz0, hz1, hz2⟩ := info_parts infoT
    go_wp2_with (first
      | (at_make; refine wpList_make_own w6 rfl _ _ 26 rfl w6.heap.size 23 i0 (.agg #[.string ByteArray.empty, .string ByteArray.empty, .string ByteArray.empty]) 3 Tryd.underlying26 hi0 hz0 hz1 .i64 .i64 (ln : Int) ln rfl rfl rfl (by rw [hz2]; omega) (by unfold maxLen; omega) (Nat.le_refl _) ?_; intro w7 hown hgrow; have B7 := hid (show RowKit.Below w6.heap.size w6 w7 from (RowKit.Below.refl _ _).grown hgrow (Nat.le_refl _) (fun k hk => by cases hk)); have OB := hid (show OwnT w7 w6.heap.size (.slice (some ⟨w6.heap.size, 0, none⟩) 0 ln) [] from hown); have c10' := (H6.out.low B7.out).c10; clear hown hgrow)
      | fail)
    clear CP CKL c1 c2 c3 c10 lt c10'
    go_loopw [6, 7] (fun bv i wr => ∃ k : Nat, k ≤ ln ∧ i = .int .i64 ((k : Int) - 1) ∧ Hid (RowKit.Below w6.heap.size w6 wr) ∧ Hid (OwnT wr w6.heap.size bv (l.drop k).reverse)) (fun _ i _ => (intOf i + 1).toNat)
    case atStart => exact ⟨ln, Nat.le_refl _, rfl, B7, hid (by rw [HLN.out, List.drop_length]; rw [← HLN.out]; exact OB.out)⟩
    case round =>
      obtain ⟨k, hk, rfl, HB, OW⟩ := hrel
      by_cases h0 : k = 0
      · subst h0
        have OR := hid (show OwnT wr w6.heap.size _ l.reverse from OW.out)
        have B8 := hid (B6.out.trans (HB.out.mono B6.out.size))
        have H8 := hid (H6.out.low HB.out)
        have CL8 := hid (CL6.out.low HB.out)
        have GR : GoodT l.reverse := HG.out.sub (by simp) (fun x hx => by simpa using hx)
        have MR := hid (make_any _ l.reverse wr (ownG_came OR.out) GR)
        clear OW OB B7 HB B6 H6 CL6 OR
        obtain ⟨c1, c2, c3, c10, lt⟩ := H8.out
        go_wp2_with fail
        refine MR.out.mono ?_
        rintro e w9 ⟨vm, lm, at2, er2, rfl, hb, hr⟩
        rcases hr with ⟨_, _, _, _, hno⟩ | ⟨rfl, rfl, hcm, hsm, _⟩
        · exact absurd (ok_rev OK.out) hno
        obtain rfl : lm = l' := perm_up (sorted_up hsm (ok_rev OK.out).dist) OU.out.up (hsm.1.trans ((List.reverse_perm l).trans SL.out.1.symm))
        have B9 := hid (B8.out.trans (hb.mono B8.out.size))
        have H9 := hid (H8.out.low hb)
        have CL9 := hid (CL8.out.low hb)
        have CM := hid hcm
        clear hb hcm hsm B8 H8 CL8 MR c1 c2 c3 c10 lt
        obtain ⟨c1, c2, c3, c10, lt⟩ := H9.out
        go_wp2_with fail
        refine (N0.out _).mono ?_
        rintro e w10 ⟨rfl, hww⟩; have hw2 := hww.symm; clear hww; subst hw2
        go_wp2_with fail
        refine (same_any _ _ lm w9 CL9.out.items CM.out.items hlm).mono ?_
        rintro e w10 ⟨rfl, hb⟩
        have B10 := hid (B9.out.trans (hb.mono B9.out.size))
        have H10 := hid (H9.out.low hb)
        have CL10 := hid (CL9.out.low hb)
        clear hb B9 H9 CL9 CM c1 c2 c3 c10 lt
        obtain ⟨c1, c2, c3, c10, lt⟩ := H10.out
        go_wp2_with fail
        have PU := hid (fun W v (h : CameT W v lm) => put_any v lm t W h GL.out OU.out ht)
        have DL := hid (fun W v (h : CameT W v lm) => del_any v lm t.1 t.2.2 W h.items GL.out)
        simp only [tv] at PU
        have T0 : w10.drew.cell? ⟨w.heap.size, 1, none⟩ = some (.string t.1) ∧ w10.drew.cell? ⟨w.heap.size, 2, none⟩ = some (.string t.2.1) ∧ w10.drew.cell? ⟨w.heap.size, 3, none⟩ = some (.string t.2.2) := ⟨c1, c2, c3⟩
        go_region_held3 (fun W => W.cell? ⟨w.heap.size, 1, none⟩ = some (.string t.1) ∧ W.cell? ⟨w.heap.size, 2, none⟩ = some (.string t.2.1) ∧ W.cell? ⟨w.heap.size, 3, none⟩ = some (.string t.2.2))
          (first | exact T0 | exact T1 | exact T2)
          (first
            | (go_at_call 16; refine (CPL.out _ (CL10.out.low ((RowKit.Below.refl _ _).drew))).mono ?_; rintro e m11 ⟨xb11, rfl, hxa, hb⟩; have T1 := tr_low T0 hb lt; have XA := hid (ownG_came hxa); have D1 := hid (show RowKit.Below w10.heap.size w10 m11 from (RowKit.Below.refl _ _).drew.trans hb); clear hb hxa)
            | (go_at_call 20; refine (PU.out _ _ XA.out).mono ?_; rintro e w11 ⟨vw, lw, g, rfl, hb, hr⟩; have PR := hid hr; clear hr; have T2 := tr_low T1 hb (Nat.lt_of_lt_of_le lt D1.out.size); have D2 := hid (D1.out.trans (hb.mono D1.out.size)); clear hb))
        have B11 := hid (B10.out.trans (D2.out.mono B10.out.size))
        have H11 := hid (H10.out.low D2.out)
        have CL11 := hid (CL10.out.low D2.out)
        clear T0 T1 T2 XA D1 D2 B10 H10 CL10 c1 c2 c3 c10 lt
        obtain ⟨c1, c2, c3, c10, lt⟩ := H11.out
        go_wp2_with fail
        have T0 : w11.drew.cell? ⟨w.heap.size, 1, none⟩ = some (.string t.1) ∧ w11.drew.cell? ⟨w.heap.size, 2, none⟩ = some (.string t.2.1) ∧ w11.drew.cell? ⟨w.heap.size, 3, none⟩ = some (.string t.2.2) := ⟨c1, c2, c3⟩
        go_region_held3 (fun W => W.cell? ⟨w.heap.size, 1, none⟩ = some (.string t.1) ∧ W.cell? ⟨w.heap.size, 2, none⟩ = some (.string t.2.1) ∧ W.cell? ⟨w.heap.size, 3, none⟩ = some (.string t.2.2))
          (first | exact T0 | exact T1 | exact T2)
          (first
            | (go_at_call 16; refine (CPL.out _ (CL11.out.low ((RowKit.Below.refl _ _).drew))).mono ?_; rintro e m12 ⟨xb12, rfl, hxa, hb⟩; have T1 := tr_low T0 hb lt; have XA := hid (ownG_came hxa); have D1 := hid (show RowKit.Below w11.heap.size w11 m12 from (RowKit.Below.refl _ _).drew.trans hb); clear hb hxa)
            | (go_at_call 21; refine (DL.out _ _ XA.out).mono ?_; rintro e w12 ⟨vd, rfl, _, hb⟩; have T2 := tr_low T1 hb (Nat.lt_of_lt_of_le lt D1.out.size); have D2 := hid (D1.out.trans (hb.mono D1.out.size)); clear hb))
        have B12 := hid (B11.out.trans (D2.out.mono B11.out.size))
        have H12 := hid (H11.out.low D2.out)
        have CL12 := hid (CL11.out.low D2.out)
        have PR12 := hid (PutR.low PR.out D2.out)
        clear T0 T1 T2 XA D1 D2 B11 H11 CL11 PR c1 c2 c3 c10 lt
        obtain ⟨c1, c2, c3, c10, lt⟩ := H12.out
        have CT := hid (fun W => ctaint_any t W ht.1 ht.2.1)
        simp only [tv] at CT
        go_wp2_with fail
        refine (CT.out _).mono ?_
        rintro e w13 ⟨rfl, hb⟩
        have B13 := hid (B12.out.trans (hb.mono B12.out.size))
        have H13 := hid (H12.out.low hb)
        have CL13 := hid (CL12.out.low hb)
        have PR13 := hid (PutR.low PR12.out hb)
        clear hb B12 H12 CL12 PR12 c1 c2 c3 c10 lt
        obtain ⟨c1, c2, c3, c10, lt⟩ := H13.out
        have te := tE_cases t
        have NT := hid (fun W => num_any (tE t) W (by omega))
        clear te
        go_wp2_with fail
        refine (NT.out _).mono ?_
        rintro e w14 ⟨rfl, hww⟩; have hw2 := hww.symm; clear hww; subst hw2
        rcases PR13.out with ⟨hte, rfl, rfl⟩ | ⟨hte, hd16, rfl, rfl⟩ | ⟨hte, hd16, rfl, hcw, hsw⟩
        · have e0 : (tE t != 0) = true := by simpa using hte
          generalize tE t = te at *
          clear hte
          go_wp2_with fail
          have T0 : w13.drew.cell? ⟨w.heap.size, 1, none⟩ = some (.string t.1) ∧ w13.drew.cell? ⟨w.heap.size, 2, none⟩ = some (.string t.2.1) ∧ w13.drew.cell? ⟨w.heap.size, 3, none⟩ = some (.string t.2.2) := ⟨c1, c2, c3⟩
          go_region_held3 (fun W => W.cell? ⟨w.heap.size, 1, none⟩ = some (.string t.1) ∧ W.cell? ⟨w.heap.size, 2, none⟩ = some (.string t.2.1) ∧ W.cell? ⟨w.heap.size, 3, none⟩ = some (.string t.2.2))
            (first | exact T0 | exact T1)
            (first
              | (go_at_call 9; refine (NT.out _).mono ?_; rintro e w9 ⟨rfl, hww⟩; have hw2 := hww.symm; clear hww; subst hw2)
              | (go_at_call 10; refine (CT.out _).mono ?_; rintro e w14 ⟨rfl, hb⟩; have T1 := tr_low T0 hb lt; have D1 := hid hb; clear hb))
          have B14 := hid (B13.out.drew.trans (D1.out.mono B13.out.size))
          clear T0 T1 D1
          go_wp2_with fail
          go_ret
          exact ⟨by first | rfl | (refine ret_bool ?_; simp), B14.out⟩
        · have hdl := dels_len lm t.1 t.2.2
          have hhad : decide ((dels lm t.1 t.2.2).length < lm.length) = false := by
            apply decide_eq_false
            have := HLL.out
            omega
          have hln16 : ln = 16 := by have := HLL.out; omega
          rw [hhad, hte]
          have N44 := hid (fun W' => num_any 44 W' (by decide))
          subst hln16
          clear hdl hhad hd16 hte
          go_wp2_with fail
          refine (N44.out _).mono ?_
          rintro e w14 ⟨rfl, hww⟩; have hw2 := hww.symm; clear hww; subst hw2
          go_wp2_with fail
          go_ret
          exact ⟨by first | rfl | (refine ret_bool ?_; simp), B13.out⟩
        · have HPut := hid (show Put lm lw t from ⟨OU.out, hte, hsw, hd16⟩)
          have gw : GoodT lw := ⟨⟨by rw [hsw.1.length_eq, List.length_append]; have := dels_len lm t.1 t.2.2; have := HLL.out; unfold maxLen; simp; omega, by rw [hsw.1.length_eq, List.length_append]; have := dels_len lm t.1 t.2.2; have := HLL.out; simp; omega⟩, fun u hu i hi => by
            rcases List.mem_append.1 (hsw.1.mem_iff.1 hu) with h | h
            · exact (dels_good GL.out _ _).2 u h i hi
            · rw [List.mem_singleton.1 h]
              match i, hi with
              | 0, _ => exact ht.1
              | 1, _ => exact ht.2.1
              | 2, _ => exact ht.2.2⟩
          have GW := hid gw
          have CW := hid hcw
          have hdl := dels_len lm t.1 t.2.2
          rw [hte]
          obtain ⟨hd, hhd⟩ : ∃ b, b = decide ((dels lm t.1 t.2.2).length < lm.length) := ⟨_, rfl⟩
          have HHD := hid hhd
          rw [← hhd]
          have hsplit : hd = true ∨ (hd = false ∧ ((ln : Int) == 16) = false) := by
            rw [hhd]
            by_cases h : (dels lm t.1 t.2.2).length < lm.length
            · exact Or.inl (decide_eq_true h)
            · refine Or.inr ⟨decide_eq_false h, ?_⟩
              have := HLL.out
              simp
              omega
          have CPW := hid (fun W (h : CameT W vw lw) => taints_any vw lw W h GW.out)
          have CKW := hid (fun W v (h : CameT W v lw) => check_any v lw W h.items GW.out)
          have hwm : lw.length ≤ maxLen := GW.out.1.1
          have PF := hid (fun W (h1 : CameT W (.slice al ln cl) lm) (h2 : CameT W vw lw) => putf_any (.slice al ln cl) vw lm lw t hd W h1 h2 GL.out GW.out HPut.out HHD.out ht)
          simp only [tv] at PF
          clear hhd hdl hte hd16 hcw hsw gw
          rcases hsplit with rfl | ⟨rfl, hz16⟩
          · go_wp2_with fail
            refine (N0.out _).mono ?_
            rintro e w14 ⟨rfl, hww⟩; have hw2 := hww.symm; clear hww; subst hw2
            go_wp2_with fail
            refine (rises_any vw lw w13 CW.out.items hwm HPut.out.okW.up).mono ?_
            rintro e w14 ⟨rfl, hb⟩
            have B14 := hid (B13.out.trans (hb.mono B13.out.size))
            have H14 := hid (H13.out.low hb)
            have CL14 := hid (CL13.out.low hb)
            have CW14 := hid (CW.out.low hb)
            clear hb c1 c2 c3 c10 lt
            go_wp2_with fail
            refine (CPW.out _ CW14.out).mono ?_
            rintro e w15 ⟨x15, rfl, hx15, hb⟩
            have B15 := hid (B14.out.trans (hb.mono B14.out.size))
            have H15 := hid (H14.out.low hb)
            have CL15 := hid (CL14.out.low hb)
            have CW15 := hid (CW14.out.low hb)
            have CK15 := hid (CKW.out w15 x15 (ownG_came hx15))
            clear hb hx15 B14 H14 CL14 CW14
            go_wp2_with fail
            refine CK15.out.mono ?_
            rintro e w16 ⟨er5, rfl, hb, _, hiff⟩
            obtain rfl : er5 = 0 := hiff.2 HPut.out.okW
            have B16 := hid (B15.out.trans (hb.mono B15.out.size))
            have H16' := hid (H15.out.low hb)
            have CL16 := hid (CL15.out.low hb)
            have CW16 := hid (CW15.out.low hb)
            clear hb hiff B15 H15 CL15 CW15 CK15
            obtain ⟨c1, c2, c3, c10, lt⟩ := H16'.out
            go_wp2_with fail
            refine (N0.out _).mono ?_
            rintro e w17 ⟨rfl, hww⟩; have hw2 := hww.symm; clear hww; subst hw2
            go_wp2_with fail
            refine (PF.out w16 CL16.out CW16.out).mono ?_
            rintro e w17 ⟨rfl, hb⟩
            have B17 := hid (B16.out.trans (hb.mono B16.out.size))
            clear hb
            go_wp2_with fail
            go_ret
            exact ⟨rfl, B17.out⟩
          · go_wp2_with fail
            refine (N0.out _).mono ?_
            rintro e w14 ⟨rfl, hww⟩; have hw2 := hww.symm; clear hww; subst hw2
            go_wp2_with fail
            refine (rises_any vw lw w13 CW.out.items hwm HPut.out.okW.up).mono ?_
            rintro e w14 ⟨rfl, hb⟩
            have B14 := hid (B13.out.trans (hb.mono B13.out.size))
            have H14 := hid (H13.out.low hb)
            have CL14 := hid (CL13.out.low hb)
            have CW14 := hid (CW.out.low hb)
            clear hb c1 c2 c3 c10 lt
            go_wp2_with fail
            refine (CPW.out _ CW14.out).mono ?_
            rintro e w15 ⟨x15, rfl, hx15, hb⟩
            have B15 := hid (B14.out.trans (hb.mono B14.out.size))
            have H15 := hid (H14.out.low hb)
            have CL15 := hid (CL14.out.low hb)
            have CW15 := hid (CW14.out.low hb)
            have CK15 := hid (CKW.out w15 x15 (ownG_came hx15))
            clear hb hx15 B14 H14 CL14 CW14
            go_wp2_with fail
            refine CK15.out.mono ?_
            rintro e w16 ⟨er5, rfl, hb, _, hiff⟩
            obtain rfl : er5 = 0 := hiff.2 HPut.out.okW
            have B16 := hid (B15.out.trans (hb.mono B15.out.size))
            have H16' := hid (H15.out.low hb)
            have CL16 := hid (CL15.out.low hb)
            have CW16 := hid (CW15.out.low hb)
            clear hb hiff B15 H15 CL15 CW15 CK15
            obtain ⟨c1, c2, c3, c10, lt⟩ := H16'.out
            go_wp2_with fail
            refine (N0.out _).mono ?_
            rintro e w17 ⟨rfl, hww⟩; have hw2 := hww.symm; clear hww; subst hw2
            go_wp2_with fail
            refine (PF.out w16 CL16.out CW16.out).mono ?_
            rintro e w17 ⟨rfl, hb⟩
            have B17 := hid (B16.out.trans (hb.mono B16.out.size))
            clear hb
            go_wp2_with fail
            go_ret
            exact ⟨rfl, B17.out⟩
      · obtain ⟨j, rfl⟩ : ∃ j, k = j + 1 := ⟨k - 1, by omega⟩
        have hjl : j < l.length := by rw [← HLN.out]; omega
        rcases HA.out with h0 | ⟨b, off, rfl, hat⟩
        · omega
        have HBW := hid (B6.out.trans (HB.out.mono B6.out.size))
        have d0 : wr.cell? ⟨b, off + j * 3, none⟩ = some (.string l[j].1) := (HBW.out.cell (p := ⟨b, off + j * 3, none⟩) hat.1).trans (hat.2 j hjl 0 (by decide))
        have d1 : wr.cell? ⟨b, off + j * 3 + 1, none⟩ = some (.string l[j].2.1) := (HBW.out.cell (p := ⟨b, off + j * 3 + 1, none⟩) hat.1).trans (hat.2 j hjl 1 (by decide))
        have d2 : wr.cell? ⟨b, off + j * 3 + 2, none⟩ = some (.string l[j].2.2) := (HBW.out.cell (p := ⟨b, off + j * 3 + 2, none⟩) hat.1).trans (hat.2 j hjl 2 (by decide))
        have p10 := (H6.out.low HB.out).c10
        have HD := hid (show (l.drop j).reverse = (l.drop (j + 1)).reverse ++ [l[j]] by rw [List.drop_eq_getElem_cons hjl, List.reverse_cons])
        have hdl : (l.drop (j + 1)).reverse.length ≤ 16 := by rw [List.length_reverse, List.length_drop]; have := HLN.out; omega
        generalize (l.drop (j + 1)).reverse = R at *
        generalize l[j] = u at *
        obtain ⟨x, y, z⟩ := u
        simp only at d0 d1 d2
        have hws : w6.heap.size ≤ wr.heap.size := HB.out.size
        have q0 : ((j : Int) + 1 - 1) = j := by omega
        have q1 : (j : Int) < (ln : Int) := by omega
        have q2 : (0 : Int) ≤ (j : Int) := by omega
        clear hat
        go_wp2_with (first
          | (at_builtin; refine wpList_append_own _ rfl _ _ 26 rfl w6.heap.size 23 i0 (.agg #[.string ByteArray.empty, .string ByteArray.empty, .string ByteArray.empty]) 3 48 Tryd.underlying26 hi0 hz0 hz1 hz2 rfl (by decide) _ _ _ rfl (World.ownsRow.alloc OW.out _) ⟨wr.heap.size, 0, none⟩ 1 1 [.string x, .string y, .string z] rfl rfl (cell_three_at _ _ _ _ _ _ rfl) (fun x hx => by simp at hx; rcases hx with rfl | rfl | rfl <;> rfl) (by unfold maxLen; omega) (by omega) (by simp; omega) ?_; intro v' w8 hown' hgrow3 hnil3)
          | fail)
        clear hnil3
        have B8 : RowKit.Below w6.heap.size w6 w8 := (HB.out.alloc HB.out.size _).grown hgrow3 (by simp; omega) (fun j hj => own_base OW.out j hj)
        exact ⟨⟨j, by omega, by go_num, hid B8, hid (by rw [HD.out]; exact ownT_snoc hown')⟩, by simp [intOf]⟩
end Go.Proofs.YtppblibcbjpfnaaDoor.L
