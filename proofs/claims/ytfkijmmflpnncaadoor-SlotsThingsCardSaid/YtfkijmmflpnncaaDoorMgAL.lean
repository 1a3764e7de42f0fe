import Derived.Test.YtfkijmmflpnncaaDoorMgAC
import Derived.Test.YtfkijmmflpnncaaDoorFreT
namespace Go.Proofs.YtfkijmmflpnncaaDoor.LT
open L
open Go.RowKit Bs Go.Maps
set_option linter.unusedVariables false
theorem Tb.drewN {w : World} {p m : Nat} {l : List Rw} {F : List Nat} (h : Tb w p m l F) (n : Nat) : Tb (w.drewN n) p m l F := h.frame (fun _ _ => rfl)
theorem withR_set (l : List Rw) (x : Rw) : (withR l).set (low l) x = wrt l (low l) x := by
  unfold withR wrt
  have := low_le l
  split
  · rfl
  · have e : low l = l.length := by omega
    rw [e, List.set_append_right _ _ (Nat.le_refl _)]
    simp
theorem withR_len (l : List Rw) : low l < (withR l).length := by
  unfold withR
  have := low_le l
  split
  · assumption
  · simp; omega
theorem withR_le {m : Nat} {l : List Rw} (h : OkS m l) (hc : cnt l < m) : (withR l).length ≤ 65536 := by
  have := h.mm
  have := h.le
  have := low_cnt l
  have := low_le l
  unfold withR
  split
  · omega
  · simp; omega
theorem belowA (w : World) (o : Obj) : Below w.heap.size w (w.alloc o) := (Below.refl _ w).alloc (Nat.le_refl _) _
set_option maxHeartbeats 1000000 in
theorem put_bad (p : Nat) (s : ByteArray) (v : Int × ByteArray) (w : World) (hs : s.size ≤ maxLen) (h : badB s = true) : Calls Tryd.prog 9 #[.pointer (some ⟨p, 0, none⟩), .string s, .agg #[.int .i64 v.1, .string v.2]] w fun e w' => e = .returned (.tuple #[.int .i64 0, .int .i64 51]) ∧ Below w.heap.size w w' := by
  have C' := hid (fun W => check_bad p s W hs h)
  clear h
  go_enter Tryd.func9, Tryd.ntmps9
  go_wp2_with fail
  have LX := hid (belowA w (.cells #[.int .i64 v.1, .string v.2] 29))
  have hXs : w.heap.size < (w.alloc (.cells #[.int .i64 v.1, .string v.2] 29)).heap.size := by simp
  have hX0 : (w.alloc (.cells #[.int .i64 v.1, .string v.2] 29)).cell? ⟨w.heap.size, 0, none⟩ = some (.int .i64 v.1) := by simp [go_sem]
  have hX1 : (w.alloc (.cells #[.int .i64 v.1, .string v.2] 29)).cell? ⟨w.heap.size, 1, none⟩ = some (.string v.2) := by simp [go_sem]
  generalize w.alloc (.cells #[.int .i64 v.1, .string v.2] 29) = X at *
  have C := hid (C'.out X)
  go_wp2_with (go_at_call 30; refine C.out.mono ?_; rintro e w2 ⟨rfl, hww⟩; replace hww := hww.symm; subst hww)
  go_ret2
  exact ⟨rfl, LX.out⟩
set_option maxHeartbeats 1000000 in
theorem put_there (p m i : Nat) (l : List Rw) (F : List Nat) (s : ByteArray) (v : Int × ByteArray) (w : World) (h : Tb w p m l F) (hb : badB s = false) (hi : isT l i = true) (hs : nm l i = s) : Calls Tryd.prog 9 #[.pointer (some ⟨p, 0, none⟩), .string s, .agg #[.int .i64 v.1, .string v.2]] w fun e w' => e = .returned (.tuple #[.int .i64 0, .int .i64 52]) ∧ Below w.heap.size w w' := by
  have HT := hid h
  clear h
  go_enter Tryd.func9, Tryd.ntmps9
  go_wp2_with fail
  have LX := hid (belowA w (.cells #[.int .i64 v.1, .string v.2] 29))
  have hXs : w.heap.size < (w.alloc (.cells #[.int .i64 v.1, .string v.2] 29)).heap.size := by simp
  have hX0 : (w.alloc (.cells #[.int .i64 v.1, .string v.2] 29)).cell? ⟨w.heap.size, 0, none⟩ = some (.int .i64 v.1) := by simp [go_sem]
  have hX1 : (w.alloc (.cells #[.int .i64 v.1, .string v.2] 29)).cell? ⟨w.heap.size, 1, none⟩ = some (.string v.2) := by simp [go_sem]
  generalize w.alloc (.cells #[.int .i64 v.1, .string v.2] 29) = X at *
  have C := hid (check_ok p s X hb)
  obtain ⟨mb, rs, ks, D, ws, h1, h2, rfl⟩ := HT.out.low LX.out
  have c1 := h1.c1
  have HM := hid h1.hm
  obtain ⟨hh, hat⟩ := h2.mo.yes hi
  rw [hs] at hh hat
  have HAT := hid hat
  have HK := hid (keyS_of (maxLen_of hb))
  clear h1 h2 hat hb hi hs
  go_wp2_with (first
    | (go_at_call 30; refine C.out.mono ?_; rintro e w2 ⟨rfl, hww⟩; replace hww := hww.symm; subst hww)
    | (at_lookup; refine wpList_lookup_own_ok_int _ rfl _ _ 68 rfl 9 3 .i64 keyS Tryd.underlying68 Tryd.underlying3 (zeroI _) mb 65536 D rfl HM.out _ _ rfl HK.out ?_; intro c hat hwc; obtain rfl := HAT.out c hat; clear hat hwc))
  go_ret2
  exact ⟨rfl, LX.out⟩
set_option maxHeartbeats 1000000 in
theorem put_full (p m : Nat) (l : List Rw) (F : List Nat) (s : ByteArray) (v : Int × ByteArray) (w : World) (h : Tb w p m l F) (hb : badB s = false) (hn : NoN l s) (hc : cnt l = m) : Calls Tryd.prog 9 #[.pointer (some ⟨p, 0, none⟩), .string s, .agg #[.int .i64 v.1, .string v.2]] w fun e w' => e = .returned (.tuple #[.int .i64 0, .int .i64 53]) ∧ Below w.heap.size w w' := by
  have hmm := h.ok.mm
  have HT := hid h
  clear h
  go_enter Tryd.func9, Tryd.ntmps9
  go_wp2_with fail
  have LX := hid (belowA w (.cells #[.int .i64 v.1, .string v.2] 29))
  have hXs : w.heap.size < (w.alloc (.cells #[.int .i64 v.1, .string v.2] 29)).heap.size := by simp
  have hX0 : (w.alloc (.cells #[.int .i64 v.1, .string v.2] 29)).cell? ⟨w.heap.size, 0, none⟩ = some (.int .i64 v.1) := by simp [go_sem]
  have hX1 : (w.alloc (.cells #[.int .i64 v.1, .string v.2] 29)).cell? ⟨w.heap.size, 1, none⟩ = some (.string v.2) := by simp [go_sem]
  generalize w.alloc (.cells #[.int .i64 v.1, .string v.2] 29) = X at *
  have C := hid (check_ok p s X hb)
  obtain ⟨mb, rs, ks, D, ws, h1, h2, rfl⟩ := HT.out.low LX.out
  have c1 := h1.c1
  have c0 := h1.c0
  have HM := hid h1.hm
  obtain ⟨hh, hat⟩ := h2.mo.no hn
  have HAT := hid hat
  have HK := hid (keyS_of (maxLen_of hb))
  have hlen := h1.hm.drew.len (t := 68) (e := 3) Tryd.underlying68 3
  rw [h2.mo.sz, hc] at hlen
  clear h1 h2 hat hb hn
  go_wp2_with (first
    | (go_at_call 30; refine C.out.mono ?_; rintro e w2 ⟨rfl, hww⟩; replace hww := hww.symm; subst hww)
    | (at_lookup; refine wpList_lookup_own_ok_int _ rfl _ _ 68 rfl 9 3 .i64 keyS Tryd.underlying68 Tryd.underlying3 (zeroI _) mb 65536 D rfl HM.out _ _ rfl HK.out ?_; intro c hat hwc; obtain rfl := HAT.out c hat; clear hat hwc))
  go_region
  go_wp2_with fail
  go_ret2
  exact ⟨rfl, LX.out.drew⟩
end Go.Proofs.YtfkijmmflpnncaaDoor.LT
namespace Go.Proofs.YtfkijmmflpnncaaDoor.LT
open L
open Go.RowKit Bs Go.Maps
set_option linter.unusedVariables false
set_option maxHeartbeats 4000000 in
set_option maxRecDepth 100000 in
theorem put_ok (p m : Nat) (l : List Rw) (F : List Nat) (s : ByteArray) (v : Int × ByteArray) (w : World) (h : Tb w p m l F) (ht : Tab w) (hb : badB s = false) (hn : NoN l s) (hc : cnt l < m) : Calls Tryd.prog 9 #[.pointer (some ⟨p, 0, none⟩), .string s, .agg #[.int .i64 v.1, .string v.2]] w fun e w' => ∃ F', e = .returned (.tuple #[.int .i64 (low l : Int), .int .i64 0]) ∧ Tb w' p m (wrt l (low l) (s, v)) F' ∧ Mv F F' w w' := by
  have hmm := h.ok.mm
  have HT := hid h
  have HTab := hid ht
  have HLT := hid h.lt
  clear h ht
  go_enter Tryd.func9, Tryd.ntmps9
  go_wp2_with fail
  have LX := hid (belowA w (.cells #[.int .i64 v.1, .string v.2] 29))
  have hXs : w.heap.size < (w.alloc (.cells #[.int .i64 v.1, .string v.2] 29)).heap.size := by simp
  have hX0 : (w.alloc (.cells #[.int .i64 v.1, .string v.2] 29)).cell? ⟨w.heap.size, 0, none⟩ = some (.int .i64 v.1) := by simp [go_sem]
  have hX1 : (w.alloc (.cells #[.int .i64 v.1, .string v.2] 29)).cell? ⟨w.heap.size, 1, none⟩ = some (.string v.2) := by simp [go_sem]
  generalize w.alloc (.cells #[.int .i64 v.1, .string v.2] 29) = X at *
  have C := hid (check_ok p s X hb)
  have HTX := hid (show Tab X from HTab.out.low LX.out)
  obtain ⟨mb, rs, ks, D, ws, h1, h2, rfl⟩ := HT.out.low LX.out
  have c1 := h1.c1
  have c0 := h1.c0
  have HM := hid h1.hm
  obtain ⟨hh, hat⟩ := h2.mo.no hn
  have HAT := hid hat
  have hb0 : s.size ≠ 0 ∧ s.size ≤ 63 := by
    unfold badB at hb
    rw [Bool.or_eq_false_iff, decide_eq_false_iff_not, decide_eq_false_iff_not] at hb
    exact ⟨hb.1, by omega⟩
  have HB0 := hid hb0
  have HK := hid (keyS_of (maxLen_of hb))
  have hlen := h1.hm.drew.len (t := 68) (e := 3) Tryd.underlying68 3
  rw [h2.mo.sz] at hlen
  have hcm : ((cnt l : Int) == (m : Int)) = false := by rw [beq_eq_false_iff_ne]; omega
  have TK := hid (take_any p m mb rs ks D l ws X.drew (h1.frame (fun _ _ => rfl)) h2 ⟨HTX.out.1, HTX.out.2⟩ hc)
  have hlow := low_cnt l
  have hwl := withR_len l
  have hwle := withR_le h2.ok hc
  have H2 := hid h2
  have HN := hid hn
  have WS := hid (withR_set l (s, v))
  have MP := hid (fun (hD : Tidy D) => h2.mo.put (i := low l) (x := (s, v)) hD (low_le l) (low_free l) hb0.1 hn)
  have OK := hid (h2.ok.put (v := v) hb0.1 hb0.2 hn hc)
  have NW := hid (fun j => nm_wrt l (low l) (s, v) (low_le l) j)
  have MF := hid (show mb ∈ fp p mb rs ks from fp_m)
  have NF := hid (show w.heap.size ∉ fp p mb rs ks from fun hm => by have := HLT.out _ hm; omega)
  have HC := hid hc
  generalize hcl : cnt l = c at *
  generalize hr : low l = r at *
  generalize hl2 : withR l = l2 at *
  have hsz : X.drew.heap.size = X.heap.size := rfl
  clear hl2 hat hb hn hb0 h1 h2
  have HR := hid hr
  have HCL := hid hcl
  have HX0 := hid hX0
  have HX1 := hid hX1
  clear hr hcl hX0 hX1
  generalize hbq : w.heap.size = bq at *
  have HBQ := hid hbq
  clear hbq
  go_wp2_with (first
    | (go_at_call 30; refine C.out.mono ?_; rintro e w2 ⟨rfl, hww⟩; replace hww := hww.symm; subst hww)
    | (at_lookup; refine wpList_lookup_own_ok_int _ rfl _ _ 68 rfl 9 3 .i64 keyS Tryd.underlying68 Tryd.underlying3 (zeroI _) mb 65536 D rfl HM.out _ _ rfl HK.out ?_; intro c hat hwc; obtain rfl := HAT.out c hat; clear hat hwc))
  go_region
  clear hlen HAT C hh c0 c1 HM
  go_wp2_with (first
    | (go_at_call 31; refine TK.out.mono ?_
       rintro e w2 ⟨rs2, ks2, ws2, rfl, T2, W2, B2, F2⟩
       obtain ⟨g2, k2, e2⟩ := own_some T2.hr (by omega)
       subst e2
       have c1 := T2.c1
       have HT2 := hid T2
       have HW2 := hid W2
       have HB2 := hid B2
       have HF2 := hid F2
       clear T2 W2 B2 F2)
    | (at_mapUpdate; refine wpList_mapUpdate_own _ rfl _ _ _ 68 rfl 9 3 keyS Tryd.underlying68 _ mb 65536 _ rfl HT2.out.hm (by unfold maxLen; omega) _ _ _ rfl rfl HK.out _ [] (plainElem_int Tryd.underlying3 (WalkArith.wf_i64 (by omega))) ?_
       intro w3 hown3 hgrow3
       have td := HT2.out.hm.tidy keyS
       have T3 := HT2.out.map hgrow3 ((owns_tight hown3).mono (by rw [(MP.out td).sz]; exact Nat.le_trans OK.out.ct hmm))
       have HM3 := hid (MP.out td)
       have HB3 := hid (HB2.out.grown hgrow3 HB2.out.size (fun k hk => by injection hk with hk; subst hk; exact Or.inl MF.out))
       obtain ⟨_, _, er, _, r0, r1, r2⟩ := T3.rows hwl
       injection er with er lq er2
       injection er with er
       injection er with er lq2 lq3
       subst er er2
       clear lq lq2 lq3
       have q0 := (HB3.out.cell (p := ⟨bq, 0, none⟩) (by show bq < X.heap.size; omega) NF.out).trans HX0.out
       have q1 := (HB3.out.cell (p := ⟨bq, 1, none⟩) (by show bq < X.heap.size; omega) NF.out).trans HX1.out
       have z0 := T3.rfz (r * 3)
       have z1 := T3.rfz (r * 3 + 1)
       have z2 := T3.rfz (r * 3 + 2)
       have c2 := T3.c2
       have T4 := hid (T3.setR r (s, v) hwl)
       clear T3 td hgrow3 hown3 c1))
  go_region
  go_wp2_with fail
  go_ret2
  rw [HR.out]
  rw [WS.out] at T4
  refine ⟨fp p mb (.slice (some ⟨g2, 0, none⟩) l2.length k2) ks2, rfl, ⟨mb, _, ks2, _, ws2, T4.out.frame (fun _ _ => rfl), ⟨OK.out, HM3.out, HW2.out.1, fun i => ?_, HW2.out.2.1⟩, rfl⟩, ?_⟩
  · rw [HW2.out.2.2]
    unfold isT
    rw [NW.out]
    by_cases e : i = r
    · have := HB0.out.1
      simp [e, this]
    · simp [e]
  · have B0 : Bx (fp p mb rs ks) X.heap.size X X.drew := (Bx.refl _ _ _).drew
    have B4 := (B0.trans HB3.out).setCell (p := ⟨g2, r * 3, none⟩) (HF2.out g2 (fp_r rfl)) (.string s)
    have B5 := B4.setCell (p := ⟨g2, r * 3 + 1, none⟩) (HF2.out g2 (fp_r rfl)) (.int .i64 v.1)
    have B6 := B5.setCell (p := ⟨g2, r * 3 + 2, none⟩) (HF2.out g2 (fp_r rfl)) (.string v.2)
    have lx := LX.out
    rw [← HBQ.out] at lx
    exact ⟨(Bx.of lx).trans (B6.drew.mono lx.size (fun k hk => Or.inl hk)), fun k hk => (HF2.out k hk).imp id (fun h => Nat.le_trans lx.size h)⟩
end Go.Proofs.YtfkijmmflpnncaaDoor.LT
