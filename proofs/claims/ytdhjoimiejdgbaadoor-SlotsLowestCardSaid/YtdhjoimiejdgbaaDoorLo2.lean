import Derived.Test.YtdhjoimiejdgbaaDoorLo1
namespace Go.Proofs.YtdhjoimiejdgbaaDoor.L
open Go.RowKit Bs Go.Maps
set_option linter.unusedVariables false
theorem lwi_start {w w2 : World} {p : Nat} {F : List Nat} (ht : Tb w2 p 40 [] F) (hF : ∀ x ∈ F, w.heap.size ≤ x) (hb : Below w.heap.size w w2) (ta : Tab w) :
    LwI w ((w2.alloc (.map #[] 0)).alloc (.map #[] 0)) p w2.heap.size (w2.heap.size + 1) 0 [] F (.map []) (.map []) := by
  have e : (w2.alloc (Obj.map #[] 0)).heap.size = w2.heap.size + 1 := by simp
  have b1 : Below w2.heap.size w2 (w2.alloc (.map #[] 0)) := (Below.refl _ _).alloc (Nat.le_refl _) _
  have b2 : Below w2.heap.size w2 ((w2.alloc (.map #[] 0)).alloc (.map #[] 0)) := b1.alloc (by simp) _
  have hl := ht.lt
  have hs := hb.size
  have bb : Below w.heap.size w ((w2.alloc (.map #[] 0)).alloc (.map #[] 0)) := hb.trans (b2.mono hs)
  refine ⟨ht.low b2, (World.ownsMap_made w2 _ _ _).alloc _, MapOf.nil, ?_, ⟨isMap_empty, fun i => by simp [DataW.atKey, isT, nm]⟩, hF, fun c => ?_, fun c => ?_, by omega, hs, by omega, bb, ta.low bb, ta.1⟩
  · have := World.ownsMap_made (w2.alloc (.map #[] 0)) Tryd.prog 3 (plainElem (H := Unit) Tryd.prog 3)
    rw [e] at this
    exact this
  · have := hl _ c; omega
  · have := hl _ c; omega
theorem LwI.mono {w wr : World} {p b1 b2 k : Nat} {l : List Rw} {F : List Nat} {D1 D2 : DataW Unit} (h : LwI w wr p b1 b2 k l F D1 D2) : LwI w wr p b1 b2 (k + 1) l F D1 D2 :=
  h.step h.tb (Mv.refl _ _) (Nat.le_succ k) rfl (fun _ => rfl)
theorem box3 (wr : World) (a b c e : Value) (s : ByteArray) (t : TypeId) : (wr.alloc (.cells #[a, b, c, .string s, e] t)).cell? ⟨wr.heap.size, 3, none⟩ = some (.string s) := by simp
theorem lt_of_cell {w : World} {b o : Nat} {v : Value} (h : w.cell? ⟨b, o, none⟩ = some v) : b < w.heap.size := by
  apply Classical.byContradiction; intro c
  simp [World.cell?, Array.getElem?_eq_none (show w.heap.size ≤ b by omega)] at h
theorem lwi_o1 {w wr w4 : World} {p b1 b2 k : Nat} {l : List Rw} {F F4 : List Nat} {D1 D2 : DataW Unit} (h : LwI w wr p b1 b2 k l F D1 D2) (M : Mv F F4 wr w4) : Own1 w4 b1 k D1 := owns_stays h.o1 (M.1.block b1 h.o1.lt h.n1)
theorem lwi_o2 {w wr w4 : World} {p b1 b2 k : Nat} {l : List Rw} {F F4 : List Nat} {D1 D2 : DataW Unit} (h : LwI w wr p b1 b2 k l F D1 D2) (M : Mv F F4 wr w4) : OwnI w4 b2 k D2 := owns_stays h.o2 (M.1.block b2 h.o2.lt h.n2)
theorem lwi_moved {w wr w4 w5 w6 : World} {p b1 b2 k : Nat} {l l2 : List Rw} {F F4 : List Nat} {D1 D2 E1 E2 : DataW Unit} (h : LwI w wr p b1 b2 k l F D1 D2) (T4 : Tb w4 p 40 l2 F4) (M4 : Mv F F4 wr w4)
    (g5 : w4.grownBy w5 (some b1)) (o5 : Own1 w5 b1 (k + 1) E1) (g6 : w5.grownBy w6 (some b2)) (o6 : OwnI w6 b2 (k + 1) E2) (m1 : MapOf E1 l2) (u2 : InU E2 l2) : LwI w w6 p b1 b2 (k + 1) l2 F4 E1 E2 := by
  have s1 := h.o1.lt
  have s2 := h.o2.lt
  have N1 : b1 ∉ F4 := fun c => by
    rcases M4.2 _ c with d | d
    · exact h.n1 d
    · omega
  have N2 : b2 ∉ F4 := fun c => by
    rcases M4.2 _ c with d | d
    · exact h.n2 d
    · omega
  have fB := M4.above h.bl.size h.fB
  have hb4 : Below w.heap.size w w4 := h.bl.trans (M4.below h.bl.size h.fB)
  have hb5 : Below w.heap.size w w5 := hb4.grown g5 hb4.size (fun k hk => by injection hk with hk; subst hk; exact h.g1)
  have hb6 : Below w.heap.size w w6 := hb5.grown g6 hb5.size (fun k hk => by injection hk with hk; subst hk; exact h.g2)
  have T5 : Tb w5 p 40 l2 F4 := T4.frame (fun k hk => g5.block k (T4.lt k hk) (fun e => by injection e with e; subst e; exact N1 hk))
  have T6 : Tb w6 p 40 l2 F4 := T5.frame (fun k hk => g6.block k (T5.lt k hk) (fun e => by injection e with e; subst e; exact N2 hk))
  have ta : Tab w6 := by
    have tw : Tab w4 := h.ta.mv M4 h.tz h.fB
    have z := h.tz
    have z1 := h.g1
    have z2 := h.g2
    have t5 := tw.bx (F := [b1]) (B := w4.heap.size) ⟨g5.os, g5.tape, g5.output, g5.size, fun k hk hn => g5.block k hk (fun e => hn (by injection e with e; simp [e]))⟩ tw.1 (by simp; omega)
    exact t5.bx (F := [b2]) (B := w5.heap.size) ⟨g6.os, g6.tape, g6.output, g6.size, fun k hk hn => g6.block k hk (fun e => hn (by injection e with e; simp [e]))⟩ t5.1 (by simp; omega)
  exact ⟨T6, owns_stays o5 (g6.block b1 o5.lt (fun e => h.ne (Option.some.inj e))), m1, o6, u2, fB, N1, N2, h.ne, h.g1, h.g2, hb6, ta, h.tz⟩
theorem inu_no {D : DataW Unit} {l : List Rw} {r : Nat} (h : InU D l) (hf : isT l r = false) (c : Int) (hc : D.atKey (.int .i64 (r : Int)) (.lit (.int .i64 0)) = .lit (.int .i64 c)) : c = 0 := by
  have := h.2 r
  rw [hf, hc] at this
  injection this with this; injection this with _ this
theorem inu_yes {D : DataW Unit} {l : List Rw} {r : Nat} (h : InU D l) (hf : isT l r = true) (c : Int) (hc : D.atKey (.int .i64 (r : Int)) (.lit (.int .i64 0)) = .lit (.int .i64 c)) : c = 1 := by
  have := h.2 r
  rw [hf, hc] at this
  injection this with this; injection this with _ this
theorem bad_size {s : ByteArray} (h : badB s = false) : s.size ≠ 0 := by
  unfold badB at h
  rw [Bool.or_eq_false_iff, decide_eq_false_iff_not] at h
  exact h.1
theorem inu_put {D : DataW Unit} {l : List Rw} {s : ByteArray} {v : Int} (h : InU D l) (hs : s.size ≠ 0) : InU (D.put (.int .i64 (low l : Int)) (.lit (.int .i64 1))) (wrt l (low l) (s, v)) := by
  have nw := nm_wrt l (low l) (s, v) (low_le l)
  refine h.put (low l) true ?_ (fun j hj => ?_)
  · rw [isT_iff, nw, if_pos rfl]; exact hs
  · unfold isT; rw [nw, if_neg hj]
theorem inu_drop {D : DataW Unit} {l : List Rw} {i : Nat} (h : InU D l) (hi : isT l i = true) : InU (D.put (.int .i64 (i : Int)) (.lit (.int .i64 0))) (trim (l.set i (ByteArray.empty, 0))) := by
  have nw := nm_drop (v := (0 : Int)) hi
  refine h.put i false ?_ (fun j hj => ?_)
  · rw [isT_no, nw, if_pos rfl]
  · unfold isT; rw [nw, if_neg hj]
set_option maxHeartbeats 8000000 in
set_option maxRecDepth 100000 in
theorem lowest_law (v : Value) (os : List Opd) (w : World) (hv : ItemsO w v os) (hg : GoodO os) (ht : Tab w) :
    Calls Tryd.prog 5 #[v] w fun e w' => e = .returned (.bool true) ∧ Below w.heap.size w w' := by
  have FX := hid (fixed_any w ht)
  obtain ⟨a, cap, rfl, hi⟩ := hv
  have hl := hg.1
  have HG := hid hg.2
  obtain ⟨L, hL⟩ : ∃ L, L = os.length := ⟨_, rfl⟩
  rw [← hL] at hl ⊢
  have HI := hid hi
  have HL := hid hL
  have HT := hid ht
  have hmk := @run_makeMap Tryd.prog
  unfold maxLen at hl
  clear hL hg hi ht
  generalize hQ : (fun (e : Ending) (w' : World) => e = .returned (.bool true) ∧ Below w.heap.size w w') = Q
  have HQ := hid hQ
  clear hQ
  go_enter Tryd.func5, Tryd.ntmps5
  go_wp2_with (first
    | (go_at_call 9; refine FX.out.mono ?_; rintro e w1 ⟨rfl, B1⟩)
    | (go_at_call 34; refine (new_any 40 _ (by omega)).mono ?_; rintro e w2 ⟨p, F, rfl, T2, F2, B2⟩))
  have hs1 := B1.size
  have BB : Below w.heap.size w w2 := B1.trans (B2.mono hs1)
  have I0 := hid (lwi_start (w := w) T2 (fun k hk => Nat.le_trans hs1 (F2 k hk)) BB HT.out)
  have hgw : w.heap.size ≤ w2.heap.size := BB.size
  obtain ⟨b1, hb1⟩ : ∃ b1, b1 = w2.heap.size := ⟨_, rfl⟩
  obtain ⟨b2, hb2⟩ : ∃ b2, b2 = w2.heap.size + 1 := ⟨_, rfl⟩
  rw [← hb2, ← hb1] at I0
  have HB1 := hid hb1
  have HB2 := hid hb2
  clear hmk FX T2 F2 B2 B1 BB
  rw [← hb2, ← hb1]
  generalize (w2.alloc (.map #[] 0)).alloc (.map #[] 0) = w3 at I0 ⊢
  clear hb1 hb2
  go_loopw [39] (fun i wr => ∃ k : Nat, k ≤ L ∧ i = .int .i64 k ∧ Hid (∃ l F D1 D2, LwI w wr p b1 b2 k l F D1 D2)) (fun i _ => L - (intOf i).toNat)
  case atStart => exact ⟨0, Nat.zero_le _, rfl, hid ⟨_, _, _, _, I0.out⟩⟩
  case round =>
    obtain ⟨k, hk, rfl, HX⟩ := hrel
    obtain ⟨l, F3, D1, D2, IV⟩ := HX.out
    clear HX I0
    by_cases hlt : k < L
    · have hkl : k < os.length := by rw [← HL.out]; exact hlt
      rcases HI.out with h0 | ⟨b, off, ea, hbl, hc⟩
      · omega
      subst ea
      obtain ⟨x0, x1, x2, x3, x4⟩ := hc k hkl
      rw [← IV.bl.cell (p := ⟨b, off + k * 5, none⟩) hbl] at x0
      rw [← IV.bl.cell (p := ⟨b, off + k * 5 + 1, none⟩) hbl] at x1
      rw [← IV.bl.cell (p := ⟨b, off + k * 5 + 2, none⟩) hbl] at x2
      rw [← IV.bl.cell (p := ⟨b, off + k * 5 + 3, none⟩) hbl] at x3
      rw [← IV.bl.cell (p := ⟨b, off + k * 5 + 4, none⟩) hbl] at x4
      have hsz := HG.out _ (List.getElem_mem hkl)
      generalize os[k].k = kk at *
      generalize os[k].a = oa at *
      generalize os[k].t = ot at *
      generalize os[k].s = s at *
      generalize os[k].v = ov at *
      have IV1 := hid (IV.alloc (.cells #[.int .i64 kk, .int .i64 oa, .int .i64 ot, .string s, .int .i64 ov] 28))
      have XF : Hid (∀ x ∈ F3, x < wr.heap.size) := hid IV.tb.lt
      have HS := hid hsz
      have K9 := hid (keyS_of hsz)
      have hwr : w.heap.size ≤ wr.heap.size := IV.bl.size
      have XB1 : Hid (b1 < wr.heap.size) := hid IV.o1.lt
      have XB2 : Hid (b2 < wr.heap.size) := hid IV.o2.lt
      clear hc IV hkl hsz
      by_cases h2 : kk = 2
      · subst h2
        by_cases he : badB s = true ∨ (∃ i, isT l i = true ∧ nm l i = s) ∨ cnt l = 40
        · have PE := hid (put_err p 40 l F3 s ov _ IV1.out.tb HS.out he)
          clear he
          go_wp2_with (go_at_call 35; refine PE.out.mono ?_; rintro e wu ⟨c4, rfl, hc4, n4, hw4⟩; replace hw4 := hid hw4)
          have IVu : Hid (∃ l F D1 D2, LwI w wu p b1 b2 (k + 1) l F D1 D2) := hid ⟨l, F3, D1, D2, by rw [hw4.out]; exact (IV1.out.drewN n4).mono⟩
          have xs : wu.cell? ⟨wr.heap.size, 3, none⟩ = some (.string s) := by rw [hw4.out]; exact box3 _ _ _ _ _ _ _
          clear PE hw4 IV1 hc4 x0 x1 x2 x3 x4 HI
          obtain ⟨l5, F5, D5, E5, J5⟩ := IVu.out
          have LN := hid (len_any p 40 l5 F5 wu J5.tb)
          have O1 := hid J5.o1
          have hsl := J5.m1.sz
          rcases there_or l5 s with hn | ⟨i5, hi5, hn⟩
          · have FN := hid (find_no p 40 l5 F5 s wu J5.tb HS.out hn)
            obtain ⟨hh, hat⟩ := J5.m1.no hn
            have HAT := hid hat
            have HJ := hid J5
            clear hat hn J5 IVu
            go_wp2_with (first
                | (go_at_call 38; refine LN.out.mono ?_; rintro e wv ⟨rfl, hwv⟩; replace hwv := hwv.symm; subst hwv)
                | (at_len; refine wpList_len_own _ rfl _ 76 rfl 9 3 Tryd.underlying76 _ b1 (k + 1) D5 rfl O1.out ?_)
                | (go_at_call 39; refine FN.out.mono ?_
                   rintro e wv ⟨rfl, hwv⟩; replace hwv := hwv.symm; subst hwv)
                | (at_lookup; refine wpList_lookup_own_ok_int _ rfl _ _ 76 rfl 9 3 .i64 keyS Tryd.underlying76 Tryd.underlying3 (zeroI _) b1 (k + 1) D5 rfl O1.out _ _ rfl K9.out ?_; intro c hat hwc; obtain rfl := HAT.out c hat; clear hat hwc))
            exact ⟨⟨k + 1, by omega, by go_num, hid ⟨_, _, _, _, HJ.out⟩⟩, by simp [intOf]; omega⟩
          · have FN := hid (find_yes p 40 i5 l5 F5 s wu J5.tb hi5 hn)
            obtain ⟨hh, hat⟩ := J5.m1.yes hi5
            rw [hn] at hh hat
            have HAT := hid hat
            have HJ := hid J5
            clear hat hn hi5 J5 IVu
            go_wp2_with (first
                | (go_at_call 38; refine LN.out.mono ?_; rintro e wv ⟨rfl, hwv⟩; replace hwv := hwv.symm; subst hwv)
                | (at_len; refine wpList_len_own _ rfl _ 76 rfl 9 3 Tryd.underlying76 _ b1 (k + 1) D5 rfl O1.out ?_)
                | (go_at_call 39; refine FN.out.mono ?_
                   rintro e wv ⟨rfl, nv, hwv⟩
                   have HJv := hid (show LwI w wv p b1 b2 (k + 1) l5 F5 D5 E5 from by rw [hwv]; exact HJ.out.drewN nv)
                   have xv : wv.cell? ⟨wr.heap.size, 3, none⟩ = some (.string s) := by rw [hwv]; exact xs
                   clear hwv)
                | (at_lookup; refine wpList_lookup_own_ok_int _ rfl _ _ 76 rfl 9 3 .i64 keyS Tryd.underlying76 Tryd.underlying3 (zeroI _) b1 (k + 1) D5 rfl HJv.out.o1 _ _ rfl K9.out ?_; intro c hat hwc; obtain rfl := HAT.out c hat; clear hat hwc))
            exact ⟨⟨k + 1, by omega, by go_num, hid ⟨_, _, _, _, HJv.out⟩⟩, by simp [intOf]; omega⟩
        · have hb : badB s = false := by
            cases e : badB s
            · rfl
            · exact absurd (Or.inl e) he
          have hn : NoN l s := fun i hi e => he (Or.inr (Or.inl ⟨i, hi, e⟩))
          have hc : cnt l < 40 := by
            have := IV1.out.tb.ok.ct
            have h3 : ¬ cnt l = 40 := fun e => he (Or.inr (Or.inr e))
            omega
          have PO := hid (put_ok p 40 l F3 s ov _ IV1.out.tb IV1.out.ta hb hn hc)
          have hlow := low_cnt l
          have NN := hid hn
          have HB0 := hid hb
          have HCC := hid hc
          have U2 := hid IV1.out.u2
          have LT := hid (low_taken l)
          have LF := hid (low_free l)
          obtain ⟨hh, hat⟩ := IV1.out.m1.no hn
          have HAT := hid hat
          obtain ⟨r, hr⟩ : ∃ r, r = low l := ⟨_, rfl⟩
          rw [← hr] at PO hlow LT LF
          have HR := hid hr
          have hr40 : r < 40 := by omega
          have hwfr : (Lit.int .i64 (r : Int)).wf = true := WalkArith.wf_i64 (by omega)
          have KR := hid (keyI_of hwfr)
          have HWR := hid hwfr
          clear he hb hn hc hat hr hwfr hlow
          go_wp2_with (first
            | (go_at_call 35; refine PO.out.mono ?_
               rintro e w4 ⟨F4, rfl, T4, M4⟩
               have HT4 := hid T4
               have HM4 := hid M4
               have O1 := hid (lwi_o1 IV1.out M4)
               have O2 := hid (lwi_o2 IV1.out M4)
               have xs : w4.cell? ⟨wr.heap.size, 3, none⟩ = some (.string s) := by
                 rw [M4.1.cell (p := ⟨wr.heap.size, 3, none⟩) (by simp) (fun c => Nat.lt_irrefl _ (XF.out _ c))]
                 exact box3 _ _ _ _ _ _ _
               clear T4 M4)
            | (at_lookup; refine wpList_lookup_own_int _ rfl _ _ 77 rfl 3 3 .i64 keyI Tryd.underlying77 Tryd.underlying3 (zeroI _) b2 k D2 rfl O2.out _ _ rfl KR.out ?_; intro c hat hwc; obtain rfl := inu_no U2.out LF.out c hat; clear hat hwc))
          go_loopw [11] (fun v wq => ∃ j : Nat, j ≤ r ∧ v = .int .i64 j ∧ Hid (wq = w4)) (fun v _ => r - (intOf v).toNat)
          case atStart => exact ⟨0, Nat.zero_le _, rfl, hid rfl⟩
          case round =>
            obtain ⟨j, hj, rfl, HWQ⟩ := hrel
            rename_i wq
            have hwq := HWQ.out
            replace hwq := hwq.symm
            subst hwq
            clear HWQ
            by_cases hjr : j < r
            · have hwfj : (Lit.int .i64 (j : Int)).wf = true := WalkArith.wf_i64 (by omega)
              have KJ := hid (keyI_of hwfj)
              have LJ := hid (LT.out j hjr)
              clear hwfj
              go_wp2_with (at_lookup; refine wpList_lookup_own_int _ rfl _ _ 77 rfl 3 3 .i64 keyI Tryd.underlying77 Tryd.underlying3 (zeroI _) b2 k D2 rfl O2.out _ _ rfl KJ.out ?_; intro c hat hwc; obtain rfl := inu_yes U2.out LJ.out c hat; clear hat hwc)
              exact ⟨⟨j + 1, by omega, by go_num, hid (by first | rfl | trivial)⟩, by simp [intOf]; omega⟩
            · have hjr' : j = r := by omega
              subst hjr'
              go_wp2_with (first
                | (at_lookup; refine wpList_lookup_own_ok_int _ rfl _ _ 76 rfl 9 3 .i64 keyS Tryd.underlying76 Tryd.underlying3 (zeroI _) b1 k D1 rfl O1.out _ _ rfl K9.out ?_; intro c hat hwc; obtain rfl := HAT.out c hat; clear hat hwc)
                | (at_mapUpdate; refine wpList_mapUpdate_own _ rfl _ _ _ 76 rfl 9 3 keyS Tryd.underlying76 _ b1 k _ rfl O1.out (by unfold maxLen; omega) _ _ _ rfl rfl K9.out _ [] (plainElem_int Tryd.underlying3 HWR.out) ?_
                   intro w5 hown5 hgrow5
                   have HO5 := hid hown5
                   have HG5 := hid hgrow5
                   have O25 := hid (owns_stays O2.out (hgrow5.block b2 O2.out.lt (fun e => IV1.out.ne (Option.some.inj e).symm)))
                   have x5 : w5.cell? ⟨wr.heap.size, 3, none⟩ = some (.string s) := by
                     rw [World.cell?_of_block (w := w4) (a := ⟨wr.heap.size, 3, none⟩) (hgrow5.block _ (lt_of_cell xs) (fun e => absurd XB1.out (by rw [← (Option.some.inj e : wr.heap.size = b1)]; exact Nat.lt_irrefl _)))]
                     exact xs
                   clear hown5 hgrow5)
                | (at_mapUpdate; refine wpList_mapUpdate_own _ rfl _ _ _ 77 rfl 3 3 keyI Tryd.underlying77 _ b2 k _ rfl O25.out (by unfold maxLen; omega) _ _ _ rfl rfl KR.out _ [] (plainElem_int (a := 1) Tryd.underlying3 rfl) ?_
                   intro wu hown6 hgrow6
                   have IVu : Hid (∃ l F D1 D2, LwI w wu p b1 b2 (k + 1) l F D1 D2) := hid ⟨_, _, _, _, lwi_moved IV1.out HT4.out HM4.out HG5.out HO5.out hgrow6 hown6 (by rw [HR.out]; exact IV1.out.m1.put (i := low l) (x := (s, ov)) (IV1.out.o1.tidy keyS) (low_le l) (low_free l) (bad_size HB0.out) NN.out) (by rw [HR.out]; exact inu_put IV1.out.u2 (bad_size HB0.out))⟩
                   have xs : wu.cell? ⟨wr.heap.size, 3, none⟩ = some (.string s) := by
                     rw [World.cell?_of_block (w := w5) (a := ⟨wr.heap.size, 3, none⟩) (hgrow6.block _ (lt_of_cell x5) (fun e => absurd XB2.out (by rw [← (Option.some.inj e : wr.heap.size = b2)]; exact Nat.lt_irrefl _)))]
                     exact x5
                   clear hown6 hgrow6 HO5 HG5 O25 x5 O1 O2 HT4 HM4))
              clear IV1 HAT x0 x1 x2 x3 x4 HI
              obtain ⟨l5, F5, D5, E5, J5⟩ := IVu.out
              have LN := hid (len_any p 40 l5 F5 wu J5.tb)
              have O1 := hid J5.o1
              have hsl := J5.m1.sz
              rcases there_or l5 s with hn | ⟨i5, hi5, hn⟩
              · have FN := hid (find_no p 40 l5 F5 s wu J5.tb HS.out hn)
                obtain ⟨hh, hat⟩ := J5.m1.no hn
                have HAT := hid hat
                have HJ := hid J5
                clear hat hn J5 IVu
                go_wp2_with (first
                    | (go_at_call 38; refine LN.out.mono ?_; rintro e wv ⟨rfl, hwv⟩; replace hwv := hwv.symm; subst hwv)
                    | (at_len; refine wpList_len_own _ rfl _ 76 rfl 9 3 Tryd.underlying76 _ b1 (k + 1) D5 rfl O1.out ?_)
                    | (go_at_call 39; refine FN.out.mono ?_
                       rintro e wv ⟨rfl, hwv⟩; replace hwv := hwv.symm; subst hwv)
                    | (at_lookup; refine wpList_lookup_own_ok_int _ rfl _ _ 76 rfl 9 3 .i64 keyS Tryd.underlying76 Tryd.underlying3 (zeroI _) b1 (k + 1) D5 rfl O1.out _ _ rfl K9.out ?_; intro c hat hwc; obtain rfl := HAT.out c hat; clear hat hwc))
                exact ⟨⟨k + 1, by omega, by go_num, hid ⟨_, _, _, _, HJ.out⟩⟩, by simp [intOf]; omega⟩
              · have FN := hid (find_yes p 40 i5 l5 F5 s wu J5.tb hi5 hn)
                obtain ⟨hh, hat⟩ := J5.m1.yes hi5
                rw [hn] at hh hat
                have HAT := hid hat
                have HJ := hid J5
                clear hat hn hi5 J5 IVu
                go_wp2_with (first
                    | (go_at_call 38; refine LN.out.mono ?_; rintro e wv ⟨rfl, hwv⟩; replace hwv := hwv.symm; subst hwv)
                    | (at_len; refine wpList_len_own _ rfl _ 76 rfl 9 3 Tryd.underlying76 _ b1 (k + 1) D5 rfl O1.out ?_)
                    | (go_at_call 39; refine FN.out.mono ?_
                       rintro e wv ⟨rfl, nv, hwv⟩
                       have HJv := hid (show LwI w wv p b1 b2 (k + 1) l5 F5 D5 E5 from by rw [hwv]; exact HJ.out.drewN nv)
                       have xv : wv.cell? ⟨wr.heap.size, 3, none⟩ = some (.string s) := by rw [hwv]; exact xs
                       clear hwv)
                    | (at_lookup; refine wpList_lookup_own_ok_int _ rfl _ _ 76 rfl 9 3 .i64 keyS Tryd.underlying76 Tryd.underlying3 (zeroI _) b1 (k + 1) D5 rfl HJv.out.o1 _ _ rfl K9.out ?_; intro c hat hwc; obtain rfl := HAT.out c hat; clear hat hwc))
                exact ⟨⟨k + 1, by omega, by go_num, hid ⟨_, _, _, _, HJv.out⟩⟩, by simp [intOf]; omega⟩
      · by_cases h3 : kk = 3
        · subst h3
          have SA := hid (set_any p 40 l F3 s ov _ IV1.out.tb HS.out)
          go_wp2_with (go_at_call 36; refine SA.out.mono ?_
                       rintro e wu ⟨c4, l4, rfl, T4, M4, hc4, hn4⟩
                       have IVu : Hid (∃ l F D1 D2, LwI w wu p b1 b2 (k + 1) l F D1 D2) := hid ⟨l4, F3, D1, D2, IV1.out.step T4 M4 (by omega) hc4 hn4⟩
                       have xs : wu.cell? ⟨wr.heap.size, 3, none⟩ = some (.string s) := by
                         rw [M4.1.cell (p := ⟨wr.heap.size, 3, none⟩) (by simp) (fun c => Nat.lt_irrefl _ (XF.out _ c))]
                         exact box3 _ _ _ _ _ _ _
                       clear T4 M4 hc4 hn4)
          clear SA IV1 x0 x1 x2 x3 x4 HI
          obtain ⟨l5, F5, D5, E5, J5⟩ := IVu.out
          have LN := hid (len_any p 40 l5 F5 wu J5.tb)
          have O1 := hid J5.o1
          have hsl := J5.m1.sz
          rcases there_or l5 s with hn | ⟨i5, hi5, hn⟩
          · have FN := hid (find_no p 40 l5 F5 s wu J5.tb HS.out hn)
            obtain ⟨hh, hat⟩ := J5.m1.no hn
            have HAT := hid hat
            have HJ := hid J5
            clear hat hn J5 IVu
            go_wp2_with (first
                | (go_at_call 38; refine LN.out.mono ?_; rintro e wv ⟨rfl, hwv⟩; replace hwv := hwv.symm; subst hwv)
                | (at_len; refine wpList_len_own _ rfl _ 76 rfl 9 3 Tryd.underlying76 _ b1 (k + 1) D5 rfl O1.out ?_)
                | (go_at_call 39; refine FN.out.mono ?_
                   rintro e wv ⟨rfl, hwv⟩; replace hwv := hwv.symm; subst hwv)
                | (at_lookup; refine wpList_lookup_own_ok_int _ rfl _ _ 76 rfl 9 3 .i64 keyS Tryd.underlying76 Tryd.underlying3 (zeroI _) b1 (k + 1) D5 rfl O1.out _ _ rfl K9.out ?_; intro c hat hwc; obtain rfl := HAT.out c hat; clear hat hwc))
            exact ⟨⟨k + 1, by omega, by go_num, hid ⟨_, _, _, _, HJ.out⟩⟩, by simp [intOf]; omega⟩
          · have FN := hid (find_yes p 40 i5 l5 F5 s wu J5.tb hi5 hn)
            obtain ⟨hh, hat⟩ := J5.m1.yes hi5
            rw [hn] at hh hat
            have HAT := hid hat
            have HJ := hid J5
            clear hat hn hi5 J5 IVu
            go_wp2_with (first
                | (go_at_call 38; refine LN.out.mono ?_; rintro e wv ⟨rfl, hwv⟩; replace hwv := hwv.symm; subst hwv)
                | (at_len; refine wpList_len_own _ rfl _ 76 rfl 9 3 Tryd.underlying76 _ b1 (k + 1) D5 rfl O1.out ?_)
                | (go_at_call 39; refine FN.out.mono ?_
                   rintro e wv ⟨rfl, nv, hwv⟩
                   have HJv := hid (show LwI w wv p b1 b2 (k + 1) l5 F5 D5 E5 from by rw [hwv]; exact HJ.out.drewN nv)
                   have xv : wv.cell? ⟨wr.heap.size, 3, none⟩ = some (.string s) := by rw [hwv]; exact xs
                   clear hwv)
                | (at_lookup; refine wpList_lookup_own_ok_int _ rfl _ _ 76 rfl 9 3 .i64 keyS Tryd.underlying76 Tryd.underlying3 (zeroI _) b1 (k + 1) D5 rfl HJv.out.o1 _ _ rfl K9.out ?_; intro c hat hwc; obtain rfl := HAT.out c hat; clear hat hwc))
            exact ⟨⟨k + 1, by omega, by go_num, hid ⟨_, _, _, _, HJv.out⟩⟩, by simp [intOf]; omega⟩
        · by_cases h4 : kk = 4
          · subst h4
            rcases there_or l s with hn | ⟨i, hi, hn⟩
            · have DE := hid (drop_err p 40 l F3 s _ IV1.out.tb HS.out hn)
              obtain ⟨hh, hat⟩ := IV1.out.m1.no hn
              have HAT := hid hat
              clear hat
              go_wp2_with (first
                | (go_at_call 37; refine DE.out.mono ?_
                   rintro e wu ⟨c4, rfl, hc4, hw4⟩
                   have IVu : Hid (∃ l F D1 D2, LwI w wu p b1 b2 (k + 1) l F D1 D2) := hid ⟨l, F3, D1, D2, by rw [hw4]; exact IV1.out.mono⟩
                   have O1 := hid (show Own1 wu b1 k D1 by rw [hw4]; exact IV1.out.o1)
                   have xs : wu.cell? ⟨wr.heap.size, 3, none⟩ = some (.string s) := by rw [hw4]; exact box3 _ _ _ _ _ _ _
                   clear hw4)
                | (at_lookup; refine wpList_lookup_own_ok_int _ rfl _ _ 76 rfl 9 3 .i64 keyS Tryd.underlying76 Tryd.underlying3 (zeroI _) b1 k D1 rfl O1.out _ _ rfl K9.out ?_; intro c hat hwc; obtain rfl := HAT.out c hat; clear hat hwc))
              clear DE IV1 x0 x1 x2 x3 x4 HI HAT O1 hn hh
              obtain ⟨l5, F5, D5, E5, J5⟩ := IVu.out
              have LN := hid (len_any p 40 l5 F5 wu J5.tb)
              have O1 := hid J5.o1
              have hsl := J5.m1.sz
              rcases there_or l5 s with hn | ⟨i5, hi5, hn⟩
              · have FN := hid (find_no p 40 l5 F5 s wu J5.tb HS.out hn)
                obtain ⟨hh, hat⟩ := J5.m1.no hn
                have HAT := hid hat
                have HJ := hid J5
                clear hat hn J5 IVu
                go_wp2_with (first
                    | (go_at_call 38; refine LN.out.mono ?_; rintro e wv ⟨rfl, hwv⟩; replace hwv := hwv.symm; subst hwv)
                    | (at_len; refine wpList_len_own _ rfl _ 76 rfl 9 3 Tryd.underlying76 _ b1 (k + 1) D5 rfl O1.out ?_)
                    | (go_at_call 39; refine FN.out.mono ?_
                       rintro e wv ⟨rfl, hwv⟩; replace hwv := hwv.symm; subst hwv)
                    | (at_lookup; refine wpList_lookup_own_ok_int _ rfl _ _ 76 rfl 9 3 .i64 keyS Tryd.underlying76 Tryd.underlying3 (zeroI _) b1 (k + 1) D5 rfl O1.out _ _ rfl K9.out ?_; intro c hat hwc; obtain rfl := HAT.out c hat; clear hat hwc))
                exact ⟨⟨k + 1, by omega, by go_num, hid ⟨_, _, _, _, HJ.out⟩⟩, by simp [intOf]; omega⟩
              · have FN := hid (find_yes p 40 i5 l5 F5 s wu J5.tb hi5 hn)
                obtain ⟨hh, hat⟩ := J5.m1.yes hi5
                rw [hn] at hh hat
                have HAT := hid hat
                have HJ := hid J5
                clear hat hn hi5 J5 IVu
                go_wp2_with (first
                    | (go_at_call 38; refine LN.out.mono ?_; rintro e wv ⟨rfl, hwv⟩; replace hwv := hwv.symm; subst hwv)
                    | (at_len; refine wpList_len_own _ rfl _ 76 rfl 9 3 Tryd.underlying76 _ b1 (k + 1) D5 rfl O1.out ?_)
                    | (go_at_call 39; refine FN.out.mono ?_
                       rintro e wv ⟨rfl, nv, hwv⟩
                       have HJv := hid (show LwI w wv p b1 b2 (k + 1) l5 F5 D5 E5 from by rw [hwv]; exact HJ.out.drewN nv)
                       have xv : wv.cell? ⟨wr.heap.size, 3, none⟩ = some (.string s) := by rw [hwv]; exact xs
                       clear hwv)
                    | (at_lookup; refine wpList_lookup_own_ok_int _ rfl _ _ 76 rfl 9 3 .i64 keyS Tryd.underlying76 Tryd.underlying3 (zeroI _) b1 (k + 1) D5 rfl HJv.out.o1 _ _ rfl K9.out ?_; intro c hat hwc; obtain rfl := HAT.out c hat; clear hat hwc))
                exact ⟨⟨k + 1, by omega, by go_num, hid ⟨_, _, _, _, HJv.out⟩⟩, by simp [intOf]; omega⟩
            · have DO := hid (drop_ok p 40 i l F3 s _ IV1.out.tb (by rw [← hn]; exact bad_there IV1.out.tb.ok hi) hi hn)
              have hil := isT_lt hi
              have hle := IV1.out.tb.ok.le
              obtain ⟨hh, hat⟩ := IV1.out.m1.yes hi
              have HD := hid (fun (td : Tidy D1) => IV1.out.m1.del (v := (0 : Int)) td IV1.out.tb.ok hi)
              rw [hn] at hh hat HD
              have HAT := hid hat
              have hwfr : (Lit.int .i64 (i : Int)).wf = true := WalkArith.wf_i64 (by omega)
              have KR := hid (keyI_of hwfr)
              have HI5 := hid hi
              clear hat hwfr hi hn
              go_wp2_with (first
                | (go_at_call 37; refine DO.out.mono ?_
                   rintro e w4 ⟨F4, rfl, T4, M4⟩
                   have HT4 := hid T4
                   have HM4 := hid M4
                   have O1 := hid (lwi_o1 IV1.out M4)
                   have O2 := hid (lwi_o2 IV1.out M4)
                   have xs : w4.cell? ⟨wr.heap.size, 3, none⟩ = some (.string s) := by
                     rw [M4.1.cell (p := ⟨wr.heap.size, 3, none⟩) (by simp) (fun c => Nat.lt_irrefl _ (XF.out _ c))]
                     exact box3 _ _ _ _ _ _ _
                   clear T4 M4)
                | (at_lookup; refine wpList_lookup_own_ok_int _ rfl _ _ 76 rfl 9 3 .i64 keyS Tryd.underlying76 Tryd.underlying3 (zeroI _) b1 k D1 rfl O1.out _ _ rfl K9.out ?_; intro c hat hwc; obtain rfl := HAT.out c hat; clear hat hwc)
                | (at_delete; refine wpList_delete_own _ rfl _ _ 76 9 rfl 3 keyS Tryd.underlying76 _ b1 k D1 rfl O1.out _ _ rfl K9.out ?_
                   intro w5 hown5 hturn5
                   have hgrow5 := hturn5.grown
                   have HO5 := hid (hown5.mono (Nat.le_succ k))
                   have HG5 := hid hgrow5
                   have O25 := hid (owns_stays O2.out (hgrow5.block b2 O2.out.lt (fun e => IV1.out.ne (Option.some.inj e).symm)))
                   have x5 : w5.cell? ⟨wr.heap.size, 3, none⟩ = some (.string s) := by
                     rw [World.cell?_of_block (w := w4) (a := ⟨wr.heap.size, 3, none⟩) (hgrow5.block _ (lt_of_cell xs) (fun e => absurd XB1.out (by rw [← (Option.some.inj e : wr.heap.size = b1)]; exact Nat.lt_irrefl _)))]
                     exact xs
                   clear hown5 hgrow5 hturn5)
                | (at_mapUpdate; refine wpList_mapUpdate_own _ rfl _ _ _ 77 rfl 3 3 keyI Tryd.underlying77 _ b2 k _ rfl O25.out (by unfold maxLen; omega) _ _ _ rfl rfl KR.out _ [] (plainElem_int (a := 0) Tryd.underlying3 rfl) ?_
                   intro wu hown6 hgrow6
                   have IVu : Hid (∃ l F D1 D2, LwI w wu p b1 b2 (k + 1) l F D1 D2) := hid ⟨_, _, _, _, lwi_moved IV1.out HT4.out HM4.out HG5.out HO5.out hgrow6 hown6 (HD.out (IV1.out.o1.tidy keyS)) (inu_drop IV1.out.u2 HI5.out)⟩
                   have xs : wu.cell? ⟨wr.heap.size, 3, none⟩ = some (.string s) := by
                     rw [World.cell?_of_block (w := w5) (a := ⟨wr.heap.size, 3, none⟩) (hgrow6.block _ (lt_of_cell x5) (fun e => absurd XB2.out (by rw [← (Option.some.inj e : wr.heap.size = b2)]; exact Nat.lt_irrefl _)))]
                     exact x5
                   clear hown6 hgrow6 HO5 HG5 O25 x5 O1 O2 HT4 HM4))
              clear DO IV1 x0 x1 x2 x3 x4 HI HAT hh HD
              obtain ⟨l5, F5, D5, E5, J5⟩ := IVu.out
              have LN := hid (len_any p 40 l5 F5 wu J5.tb)
              have O1 := hid J5.o1
              have hsl := J5.m1.sz
              rcases there_or l5 s with hn | ⟨i5, hi5, hn⟩
              · have FN := hid (find_no p 40 l5 F5 s wu J5.tb HS.out hn)
                obtain ⟨hh, hat⟩ := J5.m1.no hn
                have HAT := hid hat
                have HJ := hid J5
                clear hat hn J5 IVu
                go_wp2_with (first
                    | (go_at_call 38; refine LN.out.mono ?_; rintro e wv ⟨rfl, hwv⟩; replace hwv := hwv.symm; subst hwv)
                    | (at_len; refine wpList_len_own _ rfl _ 76 rfl 9 3 Tryd.underlying76 _ b1 (k + 1) D5 rfl O1.out ?_)
                    | (go_at_call 39; refine FN.out.mono ?_
                       rintro e wv ⟨rfl, hwv⟩; replace hwv := hwv.symm; subst hwv)
                    | (at_lookup; refine wpList_lookup_own_ok_int _ rfl _ _ 76 rfl 9 3 .i64 keyS Tryd.underlying76 Tryd.underlying3 (zeroI _) b1 (k + 1) D5 rfl O1.out _ _ rfl K9.out ?_; intro c hat hwc; obtain rfl := HAT.out c hat; clear hat hwc))
                exact ⟨⟨k + 1, by omega, by go_num, hid ⟨_, _, _, _, HJ.out⟩⟩, by simp [intOf]; omega⟩
              · have FN := hid (find_yes p 40 i5 l5 F5 s wu J5.tb hi5 hn)
                obtain ⟨hh, hat⟩ := J5.m1.yes hi5
                rw [hn] at hh hat
                have HAT := hid hat
                have HJ := hid J5
                clear hat hn hi5 J5 IVu
                go_wp2_with (first
                    | (go_at_call 38; refine LN.out.mono ?_; rintro e wv ⟨rfl, hwv⟩; replace hwv := hwv.symm; subst hwv)
                    | (at_len; refine wpList_len_own _ rfl _ 76 rfl 9 3 Tryd.underlying76 _ b1 (k + 1) D5 rfl O1.out ?_)
                    | (go_at_call 39; refine FN.out.mono ?_
                       rintro e wv ⟨rfl, nv, hwv⟩
                       have HJv := hid (show LwI w wv p b1 b2 (k + 1) l5 F5 D5 E5 from by rw [hwv]; exact HJ.out.drewN nv)
                       have xv : wv.cell? ⟨wr.heap.size, 3, none⟩ = some (.string s) := by rw [hwv]; exact xs
                       clear hwv)
                    | (at_lookup; refine wpList_lookup_own_ok_int _ rfl _ _ 76 rfl 9 3 .i64 keyS Tryd.underlying76 Tryd.underlying3 (zeroI _) b1 (k + 1) D5 rfl HJv.out.o1 _ _ rfl K9.out ?_; intro c hat hwc; obtain rfl := HAT.out c hat; clear hat hwc))
                exact ⟨⟨k + 1, by omega, by go_num, hid ⟨_, _, _, _, HJv.out⟩⟩, by simp [intOf]; omega⟩
          · have h2' : (kk == 2) = false := by rw [beq_eq_false_iff_ne]; exact h2
            have h3' : (kk == 3) = false := by rw [beq_eq_false_iff_ne]; exact h3
            have h4' : (kk == 4) = false := by rw [beq_eq_false_iff_ne]; exact h4
            clear h2 h3 h4
            go_wp2_with fail
            have IVu : Hid (∃ l F D1 D2, LwI w (wr.alloc (.cells #[.int .i64 kk, .int .i64 oa, .int .i64 ot, .string s, .int .i64 ov] 28)) p b1 b2 (k + 1) l F D1 D2) := hid ⟨l, F3, D1, D2, IV1.out.mono⟩
            have xs : (wr.alloc (.cells #[.int .i64 kk, .int .i64 oa, .int .i64 ot, .string s, .int .i64 ov] 28)).cell? ⟨wr.heap.size, 3, none⟩ = some (.string s) := box3 _ _ _ _ _ _ _
            clear IV1 x0 x1 x2 x3 x4 HI
            generalize wr.alloc (.cells #[.int .i64 kk, .int .i64 oa, .int .i64 ot, .string s, .int .i64 ov] 28) = wu at IVu xs ⊢
            obtain ⟨l5, F5, D5, E5, J5⟩ := IVu.out
            have LN := hid (len_any p 40 l5 F5 wu J5.tb)
            have O1 := hid J5.o1
            have hsl := J5.m1.sz
            rcases there_or l5 s with hn | ⟨i5, hi5, hn⟩
            · have FN := hid (find_no p 40 l5 F5 s wu J5.tb HS.out hn)
              obtain ⟨hh, hat⟩ := J5.m1.no hn
              have HAT := hid hat
              have HJ := hid J5
              clear hat hn J5 IVu
              go_wp2_with (first
                  | (go_at_call 38; refine LN.out.mono ?_; rintro e wv ⟨rfl, hwv⟩; replace hwv := hwv.symm; subst hwv)
                  | (at_len; refine wpList_len_own _ rfl _ 76 rfl 9 3 Tryd.underlying76 _ b1 (k + 1) D5 rfl O1.out ?_)
                  | (go_at_call 39; refine FN.out.mono ?_
                     rintro e wv ⟨rfl, hwv⟩; replace hwv := hwv.symm; subst hwv)
                  | (at_lookup; refine wpList_lookup_own_ok_int _ rfl _ _ 76 rfl 9 3 .i64 keyS Tryd.underlying76 Tryd.underlying3 (zeroI _) b1 (k + 1) D5 rfl O1.out _ _ rfl K9.out ?_; intro c hat hwc; obtain rfl := HAT.out c hat; clear hat hwc))
              exact ⟨⟨k + 1, by omega, by go_num, hid ⟨_, _, _, _, HJ.out⟩⟩, by simp [intOf]; omega⟩
            · have FN := hid (find_yes p 40 i5 l5 F5 s wu J5.tb hi5 hn)
              obtain ⟨hh, hat⟩ := J5.m1.yes hi5
              rw [hn] at hh hat
              have HAT := hid hat
              have HJ := hid J5
              clear hat hn hi5 J5 IVu
              go_wp2_with (first
                  | (go_at_call 38; refine LN.out.mono ?_; rintro e wv ⟨rfl, hwv⟩; replace hwv := hwv.symm; subst hwv)
                  | (at_len; refine wpList_len_own _ rfl _ 76 rfl 9 3 Tryd.underlying76 _ b1 (k + 1) D5 rfl O1.out ?_)
                  | (go_at_call 39; refine FN.out.mono ?_
                     rintro e wv ⟨rfl, nv, hwv⟩
                     have HJv := hid (show LwI w wv p b1 b2 (k + 1) l5 F5 D5 E5 from by rw [hwv]; exact HJ.out.drewN nv)
                     have xv : wv.cell? ⟨wr.heap.size, 3, none⟩ = some (.string s) := by rw [hwv]; exact xs
                     clear hwv)
                  | (at_lookup; refine wpList_lookup_own_ok_int _ rfl _ _ 76 rfl 9 3 .i64 keyS Tryd.underlying76 Tryd.underlying3 (zeroI _) b1 (k + 1) D5 rfl HJv.out.o1 _ _ rfl K9.out ?_; intro c hat hwc; obtain rfl := HAT.out c hat; clear hat hwc))
              exact ⟨⟨k + 1, by omega, by go_num, hid ⟨_, _, _, _, HJv.out⟩⟩, by simp [intOf]; omega⟩
    · obtain rfl : k = L := by omega
      have BW := hid IV.bl
      clear IV
      go_wp2_with fail
      rw [← HQ.out]
      exact ⟨rfl, BW.out⟩
end Go.Proofs.YtdhjoimiejdgbaaDoor.L
