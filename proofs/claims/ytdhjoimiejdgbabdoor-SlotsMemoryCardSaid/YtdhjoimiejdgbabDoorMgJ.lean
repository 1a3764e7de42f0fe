import Derived.Test.YtdhjoimiejdgbabDoorFre
namespace Go.Proofs.YtdhjoimiejdgbabDoor.L
open Go.RowKit Bs Go.Maps
set_option linter.unusedVariables false
/-- Nothing has turned but in the table's blocks, and its new ones are new. -/
def Mv (F F' : List Nat) (w w' : World) : Prop := Bx F w.heap.size w w' ∧ ∀ k ∈ F', k ∈ F ∨ w.heap.size ≤ k
theorem Mv.refl (F : List Nat) (w : World) : Mv F F w w := ⟨Bx.refl _ _ _, fun k hk => Or.inl hk⟩
theorem Mv.drewN (F : List Nat) (w : World) (n : Nat) : Mv F F w (w.drewN n) := ⟨(Bx.refl _ _ _).drewN n, fun k hk => Or.inl hk⟩
theorem Tb.drewN {w : World} {p m : Nat} {l : List Rw} {F : List Nat} (h : Tb w p m l F) (n : Nat) : Tb (w.drewN n) p m l F := h.frame (fun _ _ => rfl)
theorem withR_set (l : List Rw) (x : Rw) : (withR l).set (low l) x = wrt l (low l) x := by
  unfold withR wrt
  have := low_le l
  split
  · rfl
  · have e : low l = l.length := by omega
    rw [e, List.set_append_right _ _ (Nat.le_refl _)]
    simp
theorem withR_len (l : List Rw) : low l < (withR l).length := by
  unfold withR
  have := low_le l
  split
  · assumption
  · simp; omega
theorem withR_le {m : Nat} {l : List Rw} (h : OkS m l) (hc : cnt l < m) : (withR l).length ≤ 65536 := by
  have := h.mm
  have := h.le
  have := low_cnt l
  have := low_le l
  unfold withR
  split
  · omega
  · simp; omega
set_option maxHeartbeats 1000000 in
theorem put_nil (s : ByteArray) (v : Int) (w : World) : Calls Tryd.prog 7 #[.pointer none, .string s, .int .i64 v] w fun e w' => e = .returned (.tuple #[.int .i64 0, .int .i64 1]) ∧ w' = w := by
  have C := hid (check_nil s w)
  go_enter Tryd.func7, Tryd.ntmps7
  go_wp2_with (go_at_call 20; refine C.out.mono ?_; rintro e w2 ⟨rfl, hww⟩; subst hww)
  go_ret2
  exact ⟨rfl, rfl⟩
set_option maxHeartbeats 1000000 in
theorem put_bad (p : Nat) (s : ByteArray) (v : Int) (w : World) (hs : s.size ≤ maxLen) (h : badB s = true) : Calls Tryd.prog 7 #[.pointer (some ⟨p, 0, none⟩), .string s, .int .i64 v] w fun e w' => e = .returned (.tuple #[.int .i64 0, .int .i64 51]) ∧ w' = w := by
  have C := hid (check_bad p s w hs h)
  clear h
  go_enter Tryd.func7, Tryd.ntmps7
  go_wp2_with (go_at_call 20; refine C.out.mono ?_; rintro e w2 ⟨rfl, hww⟩; subst hww)
  go_ret2
  exact ⟨rfl, rfl⟩
set_option maxHeartbeats 1000000 in
theorem put_there (p m i : Nat) (l : List Rw) (F : List Nat) (s : ByteArray) (v : Int) (w : World) (h : Tb w p m l F) (hb : badB s = false) (hi : isT l i = true) (hs : nm l i = s) : Calls Tryd.prog 7 #[.pointer (some ⟨p, 0, none⟩), .string s, .int .i64 v] w fun e w' => e = .returned (.tuple #[.int .i64 0, .int .i64 52]) ∧ w' = w := by
  have C := hid (check_ok p s w hb)
  obtain ⟨mb, rs, ks, D, ws, h1, h2, rfl⟩ := h
  have c1 := h1.c1
  have HM := hid h1.hm
  obtain ⟨hh, hat⟩ := h2.mo.yes hi
  rw [hs] at hh hat
  have HAT := hid hat
  have HK := hid (keyS_of (maxLen_of hb))
  clear h1 h2 hat hb hi hs
  go_enter Tryd.func7, Tryd.ntmps7
  go_wp2_with (first
    | (go_at_call 20; refine C.out.mono ?_; rintro e w2 ⟨rfl, hww⟩; subst hww)
    | (at_lookup; refine wpList_lookup_own_ok_int _ rfl _ _ 57 rfl 9 3 .i64 keyS Tryd.underlying57 Tryd.underlying3 (zeroI _) mb 65536 D rfl HM.out _ _ rfl HK.out ?_; intro c hat hwc; obtain rfl := HAT.out c hat; clear hat hwc))
  go_ret2
  exact ⟨rfl, rfl⟩
set_option maxHeartbeats 1000000 in
theorem put_full (p m : Nat) (l : List Rw) (F : List Nat) (s : ByteArray) (v : Int) (w : World) (h : Tb w p m l F) (hb : badB s = false) (hn : NoN l s) (hc : cnt l = m) : Calls Tryd.prog 7 #[.pointer (some ⟨p, 0, none⟩), .string s, .int .i64 v] w fun e w' => e = .returned (.tuple #[.int .i64 0, .int .i64 53]) ∧ ∃ n, w' = w.drewN n := by
  have C := hid (check_ok p s w hb)
  have hmm := h.ok.mm
  obtain ⟨mb, rs, ks, D, ws, h1, h2, rfl⟩ := h
  have c1 := h1.c1
  have c0 := h1.c0
  have HM := hid h1.hm
  obtain ⟨hh, hat⟩ := h2.mo.no hn
  have HAT := hid hat
  have HK := hid (keyS_of (maxLen_of hb))
  have hlen := h1.hm.drew.len (t := 57) (e := 3) Tryd.underlying57 3
  rw [h2.mo.sz, hc] at hlen
  clear h1 h2 hat hb hn
  go_enter Tryd.func7, Tryd.ntmps7
  go_wp2_with (first
    | (go_at_call 20; refine C.out.mono ?_; rintro e w2 ⟨rfl, hww⟩; subst hww)
    | (at_lookup; refine wpList_lookup_own_ok_int _ rfl _ _ 57 rfl 9 3 .i64 keyS Tryd.underlying57 Tryd.underlying3 (zeroI _) mb 65536 D rfl HM.out _ _ rfl HK.out ?_; intro c hat hwc; obtain rfl := HAT.out c hat; clear hat hwc))
  go_region
  go_wp2_with fail
  go_ret2
  exact ⟨rfl, _, rfl⟩
end Go.Proofs.YtdhjoimiejdgbabDoor.L
namespace Go.Proofs.YtdhjoimiejdgbabDoor.L
open Go.RowKit Bs Go.Maps
set_option linter.unusedVariables false
set_option maxHeartbeats 4000000 in
set_option maxRecDepth 100000 in
theorem put_ok (p m : Nat) (l : List Rw) (F : List Nat) (s : ByteArray) (v : Int) (w : World) (h : Tb w p m l F) (ht : Tab w) (hb : badB s = false) (hn : NoN l s) (hc : cnt l < m) : Calls Tryd.prog 7 #[.pointer (some ⟨p, 0, none⟩), .string s, .int .i64 v] w fun e w' => ∃ F', e = .returned (.tuple #[.int .i64 (low l : Int), .int .i64 0]) ∧ Tb w' p m (wrt l (low l) (s, v)) F' ∧ Mv F F' w w' := by
  have C := hid (check_ok p s w hb)
  have hmm := h.ok.mm
  obtain ⟨mb, rs, ks, D, ws, h1, h2, rfl⟩ := h
  have c1 := h1.c1
  have c0 := h1.c0
  have HM := hid h1.hm
  obtain ⟨hh, hat⟩ := h2.mo.no hn
  have HAT := hid hat
  have hb0 : s.size ≠ 0 ∧ s.size ≤ 63 := by
    unfold badB at hb
    rw [Bool.or_eq_false_iff, decide_eq_false_iff_not, decide_eq_false_iff_not] at hb
    exact ⟨hb.1, by omega⟩
  have HB0 := hid hb0
  have HK := hid (keyS_of (maxLen_of hb))
  have hlen := h1.hm.drew.len (t := 57) (e := 3) Tryd.underlying57 3
  rw [h2.mo.sz] at hlen
  have hcm : ((cnt l : Int) == (m : Int)) = false := by rw [beq_eq_false_iff_ne]; omega
  have TK := hid (take_any p m mb rs ks D l ws w.drew (h1.frame (fun _ _ => rfl)) h2 ⟨ht.1, ht.2⟩ hc)
  have hlow := low_cnt l
  have hwl := withR_len l
  have hwle := withR_le h2.ok hc
  have H2 := hid h2
  have HN := hid hn
  have WS := hid (withR_set l (s, v))
  have MP := hid (fun (hD : Tidy D) => h2.mo.put (i := low l) (x := (s, v)) hD (low_le l) (low_free l) hb0.1 hn)
  have OK := hid (h2.ok.put (v := v) hb0.1 hb0.2 hn hc)
  have NW := hid (fun j => nm_wrt l (low l) (s, v) (low_le l) j)
  have MF := hid (show mb ∈ fp p mb rs ks from fp_m)
  have HC := hid hc
  generalize hcl : cnt l = c at *
  generalize hr : low l = r at *
  generalize hl2 : withR l = l2 at *
  have hsz : w.drew.heap.size = w.heap.size := rfl
  clear hl2 hat hb hn hb0 h1 h2 ht
  generalize hQ : (fun (e : Ending) (w' : World) => ∃ F', e = .returned (.tuple #[.int .i64 (r : Int), .int .i64 0]) ∧ Tb w' p m (wrt l r (s, v)) F' ∧ Mv (fp p mb rs ks) F' w w') = Q
  have HQ := hid hQ
  have HR := hid hr
  have HCL := hid hcl
  clear hQ hr hcl
  go_enter Tryd.func7, Tryd.ntmps7
  go_wp2_with (first
    | (go_at_call 20; refine C.out.mono ?_; rintro e w2 ⟨rfl, hww⟩; replace hww := hww.symm; subst hww)
    | (at_lookup; refine wpList_lookup_own_ok_int _ rfl _ _ 57 rfl 9 3 .i64 keyS Tryd.underlying57 Tryd.underlying3 (zeroI _) mb 65536 D rfl HM.out _ _ rfl HK.out ?_; intro c hat hwc; obtain rfl := HAT.out c hat; clear hat hwc))
  go_region
  clear hlen HAT C hh c0 c1 HM
  go_wp2_with (first
    | (go_at_call 21; refine TK.out.mono ?_
       rintro e w2 ⟨rs2, ks2, ws2, rfl, T2, W2, B2, F2⟩
       obtain ⟨g2, k2, e2⟩ := own_some T2.hr (by omega)
       subst e2
       have c1 := T2.c1
       have HT2 := hid T2
       have HW2 := hid W2
       have HB2 := hid B2
       have HF2 := hid F2
       clear T2 W2 B2 F2)
    | (at_mapUpdate; refine wpList_mapUpdate_own _ rfl _ _ _ 57 rfl 9 3 keyS Tryd.underlying57 _ mb 65536 _ rfl HT2.out.hm (by unfold maxLen; omega) _ _ _ rfl rfl HK.out _ [] (plainElem_int Tryd.underlying3 (WalkArith.wf_i64 (by omega))) ?_
       intro w3 hown3 hgrow3
       have td := HT2.out.hm.tidy keyS
       have T3 := HT2.out.map hgrow3 ((owns_tight hown3).mono (by rw [(MP.out td).sz]; exact Nat.le_trans OK.out.ct hmm))
       have HM3 := hid (MP.out td)
       have HB3 := hid (HB2.out.grown hgrow3 HB2.out.size (fun k hk => by injection hk with hk; subst hk; exact Or.inl MF.out))
       obtain ⟨_, _, er, _, r0, r1⟩ := T3.rows hwl
       injection er with er lq er2
       injection er with er
       injection er with er lq2 lq3
       subst er er2
       clear lq lq2 lq3
       have z0 := T3.rfz (r * 2)
       have z1 := T3.rfz (r * 2 + 1)
       have c2 := T3.c2
       have T4 := hid (T3.setR r (s, v) hwl)
       clear T3 td hgrow3 hown3 c1))
  rw [← HQ.out]
  rw [WS.out] at T4
  refine ⟨fp p mb (.slice (some ⟨g2, 0, none⟩) l2.length k2) ks2, rfl, ⟨mb, _, ks2, _, ws2, T4.out, ⟨OK.out, HM3.out, HW2.out.1, fun i => ?_, HW2.out.2.1⟩, rfl⟩, ⟨?_, HF2.out⟩⟩
  · rw [HW2.out.2.2]
    unfold isT
    rw [NW.out]
    by_cases e : i = r
    · have := HB0.out.1
      simp [e, this]
    · simp [e]
  · have B0 : Bx (fp p mb rs ks) w.heap.size w w.drew := (Bx.refl _ _ _).drew
    have B4 := (B0.trans HB3.out).setCell (p := ⟨g2, r * 2, none⟩) (HF2.out g2 (fp_r rfl)) (.string s)
    exact B4.setCell (p := ⟨g2, r * 2 + 1, none⟩) (HF2.out g2 (fp_r rfl)) (.int .i64 v)
end Go.Proofs.YtdhjoimiejdgbabDoor.L
namespace Go.Proofs.YtdhjoimiejdgbabDoor.L
open Go.RowKit Bs Go.Maps
set_option linter.unusedVariables false
set_option maxHeartbeats 1000000 in
theorem set_nil (s : ByteArray) (v : Int) (w : World) : Calls Tryd.prog 10 #[.pointer none, .string s, .int .i64 v] w fun e w' => e = .returned (.int .i64 1) ∧ w' = w := by
  have C := hid (sought_nil s w)
  go_enter Tryd.func10, Tryd.ntmps10
  go_wp2_with (go_at_call 22; refine C.out.mono ?_; rintro e w2 ⟨rfl, hww⟩; subst hww)
  go_ret
  exact ⟨rfl, rfl⟩
set_option maxHeartbeats 1000000 in
theorem set_bad (p : Nat) (s : ByteArray) (v : Int) (w : World) (hs : s.size ≤ maxLen) (h : badB s = true) : Calls Tryd.prog 10 #[.pointer (some ⟨p, 0, none⟩), .string s, .int .i64 v] w fun e w' => e = .returned (.int .i64 51) ∧ w' = w := by
  have C := hid (sought_bad p s w hs h)
  clear h
  go_enter Tryd.func10, Tryd.ntmps10
  go_wp2_with (go_at_call 22; refine C.out.mono ?_; rintro e w2 ⟨rfl, hww⟩; subst hww)
  go_ret
  exact ⟨rfl, rfl⟩
set_option maxHeartbeats 1000000 in
theorem set_no (p m : Nat) (l : List Rw) (F : List Nat) (s : ByteArray) (v : Int) (w : World) (h : Tb w p m l F) (hb : badB s = false) (hn : NoN l s) : Calls Tryd.prog 10 #[.pointer (some ⟨p, 0, none⟩), .string s, .int .i64 v] w fun e w' => e = .returned (.int .i64 54) ∧ w' = w := by
  have C := hid (sought_no p m l F s w h hb hn)
  clear h hb hn
  go_enter Tryd.func10, Tryd.ntmps10
  go_wp2_with (go_at_call 22; refine C.out.mono ?_; rintro e w2 ⟨rfl, hww⟩; subst hww)
  go_ret
  exact ⟨rfl, rfl⟩
set_option maxHeartbeats 4000000 in
theorem set_ok (p m i : Nat) (l : List Rw) (F : List Nat) (s : ByteArray) (v : Int) (w : World) (h : Tb w p m l F) (hb : badB s = false) (hi : isT l i = true) (hs : nm l i = s) : Calls Tryd.prog 10 #[.pointer (some ⟨p, 0, none⟩), .string s, .int .i64 v] w fun e w' => e = .returned (.int .i64 0) ∧ Tb w' p m (l.set i (s, v)) F ∧ Mv F F w w' := by
  have C := hid (sought_yes p m i l F s w h hb hi hs)
  have hle := Nat.le_trans h.ok.le h.ok.mm
  obtain ⟨mb, rs, ks, D, ws, h1, h2, rfl⟩ := h
  have hil := isT_lt hi
  obtain ⟨g, cap, rfl, hg, r0, r1⟩ := h1.rows hil
  have c2 := h1.c2
  have z1 := h1.rfz (i * 2 + 1)
  have T2 := hid (h1.setV i v hil)
  have GF : Hid (g ∈ fp p mb (.slice (some ⟨g, 0, none⟩) l.length cap) ks) := hid (fp_r rfl)
  have OK := hid (h2.ok.set (v := v) hi)
  have CN : Hid (cnt (l.set i (nm l i, v)) = cnt l) := hid (by
    have := cnt_set l i (nm l i, v) hil
    rw [hi, if_neg (isT_iff.1 hi)] at this
    simp at this
    omega)
  have NM : Hid (∀ j, nm (l.set i (nm l i, v)) j = nm l j) := hid (fun j => by
    rw [nm_set l i _ hil]
    split
    · rename_i c; rw [c]
    · rfl)
  rw [hs] at T2 OK CN NM
  have H2 := hid h2
  clear h1 h2 hb hi hs
  generalize hQ : (fun (e : Ending) (w' : World) => e = .returned (.int .i64 0) ∧ Tb w' p m (l.set i (s, v)) (fp p mb (.slice (some ⟨g, 0, none⟩) l.length cap) ks) ∧ Mv (fp p mb (.slice (some ⟨g, 0, none⟩) l.length cap) ks) (fp p mb (.slice (some ⟨g, 0, none⟩) l.length cap) ks) w w') = Q
  have HQ := hid hQ
  clear hQ
  generalize l.length = L at *
  go_enter Tryd.func10, Tryd.ntmps10
  go_wp2_with (go_at_call 22; refine C.out.mono ?_; rintro e w2 ⟨rfl, hww⟩; replace hww := hww.symm; subst hww)
  rw [← HQ.out]
  refine ⟨rfl, ⟨mb, _, ks, D, ws, T2.out, ⟨OK.out, H2.out.mo.same CN.out NM.out, H2.out.wd, fun j => ?_, H2.out.wl⟩, rfl⟩, ⟨(Bx.refl _ _ _).setCell (p := ⟨g, i * 2 + 1, none⟩) (Or.inl GF.out) _, fun k hk => Or.inl hk⟩⟩
  rw [H2.out.bt]
  unfold isT
  rw [NM.out]
set_option maxHeartbeats 1000000 in
theorem drop_nil (s : ByteArray) (w : World) : Calls Tryd.prog 8 #[.pointer none, .string s] w fun e w' => e = .returned (.tuple #[.int .i64 0, .int .i64 1]) ∧ w' = w := by
  have C := hid (sought_nil s w)
  go_enter Tryd.func8, Tryd.ntmps8
  go_wp2_with (go_at_call 22; refine C.out.mono ?_; rintro e w2 ⟨rfl, hww⟩; subst hww)
  go_ret2
  exact ⟨rfl, rfl⟩
set_option maxHeartbeats 1000000 in
theorem drop_bad (p : Nat) (s : ByteArray) (w : World) (hs : s.size ≤ maxLen) (h : badB s = true) : Calls Tryd.prog 8 #[.pointer (some ⟨p, 0, none⟩), .string s] w fun e w' => e = .returned (.tuple #[.int .i64 0, .int .i64 51]) ∧ w' = w := by
  have C := hid (sought_bad p s w hs h)
  clear h
  go_enter Tryd.func8, Tryd.ntmps8
  go_wp2_with (go_at_call 22; refine C.out.mono ?_; rintro e w2 ⟨rfl, hww⟩; subst hww)
  go_ret2
  exact ⟨rfl, rfl⟩
set_option maxHeartbeats 1000000 in
theorem drop_no (p m : Nat) (l : List Rw) (F : List Nat) (s : ByteArray) (w : World) (h : Tb w p m l F) (hb : badB s = false) (hn : NoN l s) : Calls Tryd.prog 8 #[.pointer (some ⟨p, 0, none⟩), .string s] w fun e w' => e = .returned (.tuple #[.int .i64 0, .int .i64 54]) ∧ w' = w := by
  have C := hid (sought_no p m l F s w h hb hn)
  clear h hb hn
  go_enter Tryd.func8, Tryd.ntmps8
  go_wp2_with (go_at_call 22; refine C.out.mono ?_; rintro e w2 ⟨rfl, hww⟩; subst hww)
  go_ret2
  exact ⟨rfl, rfl⟩
set_option maxHeartbeats 4000000 in
theorem drop_ok (p m i : Nat) (l : List Rw) (F : List Nat) (s : ByteArray) (w : World) (h : Tb w p m l F) (hb : badB s = false) (hi : isT l i = true) (hs : nm l i = s) : Calls Tryd.prog 8 #[.pointer (some ⟨p, 0, none⟩), .string s] w fun e w' => ∃ F', e = .returned (.tuple #[.int .i64 (i : Int), .int .i64 0]) ∧ Tb w' p m (trim (l.set i (ByteArray.empty, 0))) F' ∧ Mv F F' w w' := by
  have C := hid (sought_yes p m i l F s w h hb hi hs)
  have hle := Nat.le_trans h.ok.le h.ok.mm
  have hmm := h.ok.mm
  obtain ⟨mb, rs, ks, D, ws, h1, h2, rfl⟩ := h
  have hil := isT_lt hi
  have c1 := h1.c1
  have HK := hid (keyS_of (maxLen_of hb))
  have hjw : i / 64 < ws.length := by
    apply Classical.byContradiction
    intro c
    have := h2.bt i
    rw [hi, mem_out ws i (by omega)] at this
    cases this
  have td := h1.hm.tidy keyS
  have MD := hid (h2.mo.del (v := (0 : Int)) td h2.ok hi)
  rw [hs] at MD
  have OK := hid (h2.ok.drop (v := (0 : Int)) hi)
  have NM := hid (fun j => nm_drop (v := (0 : Int)) hi j)
  have FR := hid (fun W (T : Tm W p m mb rs ks (D.del (kS s)) l ws) => free_any p m mb i rs ks (D.del (kS s)) l ws W T h2.wd hil hjw hle h2.wl)
  have H1 := hid h1
  have H2 := hid h2
  have HJ := hid hjw
  have MF : Hid (mb ∈ fp p mb rs ks) := hid fp_m
  clear td h1 h2 hb hi hs hjw
  generalize hQ : (fun (e : Ending) (w' : World) => ∃ F', e = .returned (.tuple #[.int .i64 (i : Int), .int .i64 0]) ∧ Tb w' p m (trim (l.set i (ByteArray.empty, 0))) F' ∧ Mv (fp p mb rs ks) F' w w') = Q
  have HQ := hid hQ
  clear hQ
  go_enter Tryd.func8, Tryd.ntmps8
  go_wp2_with (first
    | (go_at_call 22; refine C.out.mono ?_; rintro e w2 ⟨rfl, hww⟩; replace hww := hww.symm; subst hww)
    | (at_delete; refine wpList_delete_own _ rfl _ _ 57 9 rfl 3 keyS Tryd.underlying57 _ mb 65536 D rfl H1.out.hm _ _ rfl HK.out ?_
       intro w3 hown3 hturn3
       have T3 := hid (H1.out.map hturn3.grown hown3)
       have B3 := hid ((Bx.refl (fp p mb rs ks) w.heap.size w).grown hturn3.grown (Nat.le_refl _) (fun k hk => by injection hk with hk; subst hk; exact Or.inl MF.out))
       clear hown3 hturn3)
    | (go_at_call 23; refine (FR.out _ T3.out).mono ?_
       rintro e w4 ⟨rs4, rfl, T4, B4, F4⟩
       have HT4 := hid T4
       have HB4 := hid B4
       have HF4 := hid F4
       clear T4 B4 F4))
  rw [← HQ.out]
  refine ⟨fp p mb rs4 ks, rfl, ⟨mb, rs4, ks, _, _, HT4.out, ⟨OK.out, MD.out, Wd.delW H2.out.wd i, fun j => ?_, by unfold delW; rw [List.length_set]; exact H2.out.wl⟩, rfl⟩, ⟨B3.out.trans (HB4.out.mono B3.out.size (fun k hk => Or.inl hk)), fun k hk => Or.inl (HF4.out k hk)⟩⟩
  rw [mem_delW ws i H2.out.wd HJ.out, H2.out.bt]
  unfold isT
  rw [NM.out]
  by_cases e : j = i
  · simp [e]
  · simp [e]
end Go.Proofs.YtdhjoimiejdgbabDoor.L
namespace Go.Proofs.YtdhjoimiejdgbabDoor.L
open Go.RowKit Bs Go.Maps
set_option linter.unusedVariables false
theorem Tab.mv {F F' : List Nat} {B : Nat} {w w' : World} (h : Tab w) (hm : Mv F F' w w') (hB : 0 < B) (hF : ∀ k ∈ F, B ≤ k) : Tab w' :=
  h.bx hm.1 h.1 (fun c => by have := hF _ c; omega)
theorem Mv.above {F F' : List Nat} {B : Nat} {w w' : World} (hm : Mv F F' w w') (hB : B ≤ w.heap.size) (hF : ∀ k ∈ F, B ≤ k) : ∀ k ∈ F', B ≤ k := fun k hk => by
  rcases hm.2 k hk with c | c
  · exact hF k c
  · omega
theorem Mv.below {F F' : List Nat} {B : Nat} {w w' : World} (hm : Mv F F' w w') (hB : B ≤ w.heap.size) (hF : ∀ k ∈ F, B ≤ k) : Below B w w' := hm.1.below hB hF
abbrev sA : ByteArray := ⟨#[97]⟩
abbrev sB : ByteArray := ⟨#[98]⟩
abbrev sC : ByteArray := ⟨#[99]⟩
theorem none_nil (s : ByteArray) : NoN ([] : List Rw) s := fun i hi => by simp [isT, nm] at hi
theorem none_cons {x : Rw} {l : List Rw} {s : ByteArray} (h : x.1 ≠ s) (hl : NoN l s) : NoN (x :: l) s := fun i hi => by
  cases i with
  | zero => exact h
  | succ i => rw [isT_cons_succ] at hi; rw [nm_cons_succ]; exact hl i hi
set_option maxHeartbeats 4000000 in
set_option maxRecDepth 100000 in
theorem fixed_any (w : World) (ht : Tab w) : Calls Tryd.prog 5 #[] w fun e w' => e = .returned (.bool true) ∧ Below w.heap.size w w' := by
  have hB := ht.1
  have HT := hid ht
  clear ht
  go_enter Tryd.func5, Tryd.ntmps5
  go_wp2_with (go_at_call 6; refine (new_any 2 _ (by omega)).mono ?_; rintro e w1 ⟨p, F, rfl, T1, F1, B1⟩)
  have A1 := HT.out.bx (Bx.of (F := []) B1) hB (by simp)
  have hs1 := B1.size
  refine (put_ok p 2 [] F sB 7 w1 T1 A1 (by decide) (none_nil _) (by decide)).mono ?_
  rintro e w2 ⟨F2, rfl, T2, M2⟩
  have G2 := M2.above hs1 F1
  have A2 := A1.mv M2 hB F1
  have B2 := B1.trans (M2.below hs1 F1)
  have hs2 := B2.size
  clear T1 A1 B1 M2 F1
  rw [show wrt ([] : List Rw) (low ([] : List Rw)) (sB, 7) = [(sB, 7)] from rfl] at T2
  rw [show low ([] : List Rw) = 0 from rfl]
  go_wp2_with fail
  refine (put_ok p 2 [(sB, 7)] F2 sA 8 w2 T2 A2 (by decide) (none_cons (by decide) (none_nil _)) (by decide)).mono ?_
  rintro e w3 ⟨F3, rfl, T3, M3⟩
  have G3 := M3.above hs2 G2
  have A3 := A2.mv M3 hB G2
  have B3 := B2.trans (M3.below hs2 G2)
  have hs3 := B3.size
  clear T2 A2 B2 M3 G2
  rw [show low ([(sB, 7)] : List Rw) = 1 from by decide]
  rw [show low ([(sB, 7)] : List Rw) = 1 from by decide, show wrt ([(sB, 7)] : List Rw) 1 (sA, 8) = [(sB, 7), (sA, 8)] from rfl] at T3
  go_wp2_with fail
  refine (put_full p 2 [(sB, 7), (sA, 8)] F3 sC 9 w3 T3 (by decide) (none_cons (by decide) (none_cons (by decide) (none_nil _))) (by decide)).mono ?_
  rintro e w4 ⟨rfl, n4, hw4⟩
  have T4 := T3.drewN n4
  have A4 : Tab (w3.drewN n4) := ⟨A3.1, A3.2⟩
  have B4 : Below w.heap.size w (w3.drewN n4) := ⟨B3.os, B3.tape, B3.output, B3.size, B3.block⟩
  have hs4 : w.heap.size ≤ (w3.drewN n4).heap.size := hs3
  rw [← hw4] at T4 A4 B4 hs4
  clear hw4 T3 A3 B3
  go_wp2_with fail
  refine (drop_ok p 2 0 [(sB, 7), (sA, 8)] F3 sB w4 T4 (by decide) (by decide) rfl).mono ?_
  rintro e w5 ⟨F5, rfl, T5, M5⟩
  have G5 := M5.above hs4 G3
  have A5 := A4.mv M5 hB G3
  have B5 := B4.trans (M5.below hs4 G3)
  have hs5 := B5.size
  clear T4 A4 B4 M5 G3
  rw [show trim (([(sB, 7), (sA, 8)] : List Rw).set 0 (ByteArray.empty, 0)) = [(ByteArray.empty, 0), (sA, 8)] from rfl] at T5
  go_wp2_with fail
  refine (put_ok p 2 [(ByteArray.empty, 0), (sA, 8)] F5 sC 5 w5 T5 A5 (by decide) (none_cons (by decide) (none_cons (by decide) (none_nil _))) (by decide)).mono ?_
  rintro e w6 ⟨F6, rfl, T6, M6⟩
  have B6 := B5.trans (M6.below hs5 G5)
  clear T5 A5 B5 M6 G5 T6
  rw [show low ([(ByteArray.empty, 0), (sA, 8)] : List Rw) = 0 from rfl]
  go_wp2_with fail
  go_ret
  exact ⟨rfl, B6⟩
end Go.Proofs.YtdhjoimiejdgbabDoor.L
