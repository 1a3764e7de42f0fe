import Derived.Test.YtfkijmmflpnncaaDoorFre
namespace Go.Proofs.YtfkijmmflpnncaaDoor.L
open Go.RowKit Bs Go.Maps
set_option linter.unusedVariables false
/-- Nothing has turned but in the table's blocks, and its new ones are new. -/
def Mv (F F' : List Nat) (w w' : World) : Prop := Bx F w.heap.size w w' ∧ ∀ k ∈ F', k ∈ F ∨ w.heap.size ≤ k
theorem Mv.refl (F : List Nat) (w : World) : Mv F F w w := ⟨Bx.refl _ _ _, fun k hk => Or.inl hk⟩
theorem Mv.drewN (F : List Nat) (w : World) (n : Nat) : Mv F F w (w.drewN n) := ⟨(Bx.refl _ _ _).drewN n, fun k hk => Or.inl hk⟩
theorem Tb.drewN {w : World} {p m : Nat} {l : List Rw} {F : List Nat} (h : Tb w p m l F) (n : Nat) : Tb (w.drewN n) p m l F := h.frame (fun _ _ => rfl)
theorem withR_set (l : List Rw) (x : Rw) : (withR l).set (low l) x = wrt l (low l) x := by
  unfold withR wrt
  have := low_le l
  split
  · rfl
  · have e : low l = l.length := by omega
    rw [e, List.set_append_right _ _ (Nat.le_refl _)]
    simp
theorem withR_len (l : List Rw) : low l < (withR l).length := by
  unfold withR
  have := low_le l
  split
  · assumption
  · simp; omega
theorem withR_le {m : Nat} {l : List Rw} (h : OkS m l) (hc : cnt l < m) : (withR l).length ≤ 65536 := by
  have := h.mm
  have := h.le
  have := low_cnt l
  have := low_le l
  unfold withR
  split
  · omega
  · simp; omega
set_option maxHeartbeats 1000000 in
theorem put_nil (s : ByteArray) (v : Int) (w : World) : Calls Tryd.prog 27 #[.pointer none, .string s, .int .i64 v] w fun e w' => e = .returned (.tuple #[.int .i64 0, .int .i64 1]) ∧ w' = w := by
  have C := hid (check_nil s w)
  go_enter Tryd.func27, Tryd.ntmps27
  go_wp2_with (go_at_call 47; refine C.out.mono ?_; rintro e w2 ⟨rfl, hww⟩; subst hww)
  go_ret2
  exact ⟨rfl, rfl⟩
set_option maxHeartbeats 1000000 in
theorem put_bad (p : Nat) (s : ByteArray) (v : Int) (w : World) (hs : s.size ≤ maxLen) (h : badB s = true) : Calls Tryd.prog 27 #[.pointer (some ⟨p, 0, none⟩), .string s, .int .i64 v] w fun e w' => e = .returned (.tuple #[.int .i64 0, .int .i64 51]) ∧ w' = w := by
  have C := hid (check_bad p s w hs h)
  clear h
  go_enter Tryd.func27, Tryd.ntmps27
  go_wp2_with (go_at_call 47; refine C.out.mono ?_; rintro e w2 ⟨rfl, hww⟩; subst hww)
  go_ret2
  exact ⟨rfl, rfl⟩
set_option maxHeartbeats 1000000 in
theorem put_there (p m i : Nat) (l : List Rw) (F : List Nat) (s : ByteArray) (v : Int) (w : World) (h : Tb w p m l F) (hb : badB s = false) (hi : isT l i = true) (hs : nm l i = s) : Calls Tryd.prog 27 #[.pointer (some ⟨p, 0, none⟩), .string s, .int .i64 v] w fun e w' => e = .returned (.tuple #[.int .i64 0, .int .i64 52]) ∧ w' = w := by
  have C := hid (check_ok p s w hb)
  obtain ⟨mb, rs, ks, D, ws, h1, h2, rfl⟩ := h
  have c1 := h1.c1
  have HM := hid h1.hm
  obtain ⟨hh, hat⟩ := h2.mo.yes hi
  rw [hs] at hh hat
  have HAT := hid hat
  have HK := hid (keyS_of (maxLen_of hb))
  clear h1 h2 hat hb hi hs
  go_enter Tryd.func27, Tryd.ntmps27
  go_wp2_with (first
    | (go_at_call 47; refine C.out.mono ?_; rintro e w2 ⟨rfl, hww⟩; subst hww)
    | (at_lookup; refine wpList_lookup_own_ok_int _ rfl _ _ 68 rfl 9 3 .i64 keyS Tryd.underlying68 Tryd.underlying3 (zeroI _) mb 65536 D rfl HM.out _ _ rfl HK.out ?_; intro c hat hwc; obtain rfl := HAT.out c hat; clear hat hwc))
  go_ret2
  exact ⟨rfl, rfl⟩
set_option maxHeartbeats 1000000 in
theorem put_full (p m : Nat) (l : List Rw) (F : List Nat) (s : ByteArray) (v : Int) (w : World) (h : Tb w p m l F) (hb : badB s = false) (hn : NoN l s) (hc : cnt l = m) : Calls Tryd.prog 27 #[.pointer (some ⟨p, 0, none⟩), .string s, .int .i64 v] w fun e w' => e = .returned (.tuple #[.int .i64 0, .int .i64 53]) ∧ ∃ n, w' = w.drewN n := by
  have C := hid (check_ok p s w hb)
  have hmm := h.ok.mm
  obtain ⟨mb, rs, ks, D, ws, h1, h2, rfl⟩ := h
  have c1 := h1.c1
  have c0 := h1.c0
  have HM := hid h1.hm
  obtain ⟨hh, hat⟩ := h2.mo.no hn
  have HAT := hid hat
  have HK := hid (keyS_of (maxLen_of hb))
  have hlen := h1.hm.drew.len (t := 68) (e := 3) Tryd.underlying68 3
  rw [h2.mo.sz, hc] at hlen
  clear h1 h2 hat hb hn
  go_enter Tryd.func27, Tryd.ntmps27
  go_wp2_with (first
    | (go_at_call 47; refine C.out.mono ?_; rintro e w2 ⟨rfl, hww⟩; subst hww)
    | (at_lookup; refine wpList_lookup_own_ok_int _ rfl _ _ 68 rfl 9 3 .i64 keyS Tryd.underlying68 Tryd.underlying3 (zeroI _) mb 65536 D rfl HM.out _ _ rfl HK.out ?_; intro c hat hwc; obtain rfl := HAT.out c hat; clear hat hwc))
  go_region
  go_wp2_with fail
  go_ret2
  exact ⟨rfl, _, rfl⟩
end Go.Proofs.YtfkijmmflpnncaaDoor.L
namespace Go.Proofs.YtfkijmmflpnncaaDoor.L
open Go.RowKit Bs Go.Maps
set_option linter.unusedVariables false
set_option maxHeartbeats 4000000 in
set_option maxRecDepth 100000 in
theorem put_ok (p m : Nat) (l : List Rw) (F : List Nat) (s : ByteArray) (v : Int) (w : World) (h : Tb w p m l F) (ht : Tab w) (hb : badB s = false) (hn : NoN l s) (hc : cnt l < m) : Calls Tryd.prog 27 #[.pointer (some ⟨p, 0, none⟩), .string s, .int .i64 v] w fun e w' => ∃ F', e = .returned (.tuple #[.int .i64 (low l : Int), .int .i64 0]) ∧ Tb w' p m (wrt l (low l) (s, v)) F' ∧ Mv F F' w w' := by
  have C := hid (check_ok p s w hb)
  have hmm := h.ok.mm
  obtain ⟨mb, rs, ks, D, ws, h1, h2, rfl⟩ := h
  have c1 := h1.c1
  have c0 := h1.c0
  have HM := hid h1.hm
  obtain ⟨hh, hat⟩ := h2.mo.no hn
  have HAT := hid hat
  have hb0 : s.size ≠ 0 ∧ s.size ≤ 63 := by
    unfold badB at hb
    rw [Bool.or_eq_false_iff, decide_eq_false_iff_not, decide_eq_false_iff_not] at hb
    exact ⟨hb.1, by omega⟩
  have HB0 := hid hb0
  have HK := hid (keyS_of (maxLen_of hb))
  have hlen := h1.hm.drew.len (t := 68) (e := 3) Tryd.underlying68 3
  rw [h2.mo.sz] at hlen
  have hcm : ((cnt l : Int) == (m : Int)) = false := by rw [beq_eq_false_iff_ne]; omega
  have TK := hid (take_any p m mb rs ks D l ws w.drew (h1.frame (fun _ _ => rfl)) h2 ⟨ht.1, ht.2⟩ hc)
  have hlow := low_cnt l
  have hwl := withR_len l
  have hwle := withR_le h2.ok hc
  have H2 := hid h2
  have HN := hid hn
  have WS := hid (withR_set l (s, v))
  have MP := hid (fun (hD : Tidy D) => h2.mo.put (i := low l) (x := (s, v)) hD (low_le l) (low_free l) hb0.1 hn)
  have OK := hid (h2.ok.put (v := v) hb0.1 hb0.2 hn hc)
  have NW := hid (fun j => nm_wrt l (low l) (s, v) (low_le l) j)
  have MF := hid (show mb ∈ fp p mb rs ks from fp_m)
  have HC := hid hc
  generalize hcl : cnt l = c at *
  generalize hr : low l = r at *
  generalize hl2 : withR l = l2 at *
  have hsz : w.drew.heap.size = w.heap.size := rfl
  clear hl2 hat hb hn hb0 h1 h2 ht
  generalize hQ : (fun (e : Ending) (w' : World) => ∃ F', e = .returned (.tuple #[.int .i64 (r : Int), .int .i64 0]) ∧ Tb w' p m (wrt l r (s, v)) F' ∧ Mv (fp p mb rs ks) F' w w') = Q
  have HQ := hid hQ
  have HR := hid hr
  have HCL := hid hcl
  clear hQ hr hcl
  go_enter Tryd.func27, Tryd.ntmps27
  go_wp2_with (first
    | (go_at_call 47; refine C.out.mono ?_; rintro e w2 ⟨rfl, hww⟩; replace hww := hww.symm; subst hww)
    | (at_lookup; refine wpList_lookup_own_ok_int _ rfl _ _ 68 rfl 9 3 .i64 keyS Tryd.underlying68 Tryd.underlying3 (zeroI _) mb 65536 D rfl HM.out _ _ rfl HK.out ?_; intro c hat hwc; obtain rfl := HAT.out c hat; clear hat hwc))
  go_region
  clear hlen HAT C hh c0 c1 HM
  go_wp2_with (first
    | (go_at_call 48; refine TK.out.mono ?_
       rintro e w2 ⟨rs2, ks2, ws2, rfl, T2, W2, B2, F2⟩
       obtain ⟨g2, k2, e2⟩ := own_some T2.hr (by omega)
       subst e2
       have c1 := T2.c1
       have HT2 := hid T2
       have HW2 := hid W2
       have HB2 := hid B2
       have HF2 := hid F2
       clear T2 W2 B2 F2)
    | (at_mapUpdate; refine wpList_mapUpdate_own _ rfl _ _ _ 68 rfl 9 3 keyS Tryd.underlying68 _ mb 65536 _ rfl HT2.out.hm (by unfold maxLen; omega) _ _ _ rfl rfl HK.out _ [] (plainElem_int Tryd.underlying3 (WalkArith.wf_i64 (by omega))) ?_
       intro w3 hown3 hgrow3
       have td := HT2.out.hm.tidy keyS
       have T3 := HT2.out.map hgrow3 ((owns_tight hown3).mono (by rw [(MP.out td).sz]; exact Nat.le_trans OK.out.ct hmm))
       have HM3 := hid (MP.out td)
       have HB3 := hid (HB2.out.grown hgrow3 HB2.out.size (fun k hk => by injection hk with hk; subst hk; exact Or.inl MF.out))
       obtain ⟨_, _, er, _, r0, r1⟩ := T3.rows hwl
       injection er with er lq er2
       injection er with er
       injection er with er lq2 lq3
       subst er er2
       clear lq lq2 lq3
       have z0 := T3.rfz (r * 2)
       have z1 := T3.rfz (r * 2 + 1)
       have c2 := T3.c2
       have T4 := hid (T3.setR r (s, v) hwl)
       clear T3 td hgrow3 hown3 c1))
  rw [← HQ.out]
  rw [WS.out] at T4
  refine ⟨fp p mb (.slice (some ⟨g2, 0, none⟩) l2.length k2) ks2, rfl, ⟨mb, _, ks2, _, ws2, T4.out, ⟨OK.out, HM3.out, HW2.out.1, fun i => ?_, HW2.out.2.1⟩, rfl⟩, ⟨?_, HF2.out⟩⟩
  · rw [HW2.out.2.2]
    unfold isT
    rw [NW.out]
    by_cases e : i = r
    · have := HB0.out.1
      simp [e, this]
    · simp [e]
  · have B0 : Bx (fp p mb rs ks) w.heap.size w w.drew := (Bx.refl _ _ _).drew
    have B4 := (B0.trans HB3.out).setCell (p := ⟨g2, r * 2, none⟩) (HF2.out g2 (fp_r rfl)) (.string s)
    exact B4.setCell (p := ⟨g2, r * 2 + 1, none⟩) (HF2.out g2 (fp_r rfl)) (.int .i64 v)
end Go.Proofs.YtfkijmmflpnncaaDoor.L
