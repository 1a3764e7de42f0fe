import Derived.Test.YtfkijmmflpnncaaDoorMgAD
import Derived.Test.YtfkijmmflpnncaaDoorMgAL
namespace Go.Proofs.YtfkijmmflpnncaaDoor.LT
open L
open Go.RowKit Bs Go.Maps
set_option linter.unusedVariables false
set_option maxHeartbeats 1000000 in
theorem set_bad (p : Nat) (s : ByteArray) (v : Int × ByteArray) (w : World) (hs : s.size ≤ maxLen) (h : badB s = true) : Calls Tryd.prog 12 #[.pointer (some ⟨p, 0, none⟩), .string s, .agg #[.int .i64 v.1, .string v.2]] w fun e w' => e = .returned (.int .i64 51) ∧ Below w.heap.size w w' := by
  have C' := hid (fun W => sought_bad p s W hs h)
  clear h
  go_enter Tryd.func12, Tryd.ntmps12
  go_wp2_with fail
  have LX := hid (belowA w (.cells #[.int .i64 v.1, .string v.2] 29))
  have hXs : w.heap.size < (w.alloc (.cells #[.int .i64 v.1, .string v.2] 29)).heap.size := by simp
  have hX0 : (w.alloc (.cells #[.int .i64 v.1, .string v.2] 29)).cell? ⟨w.heap.size, 0, none⟩ = some (.int .i64 v.1) := by simp [go_sem]
  have hX1 : (w.alloc (.cells #[.int .i64 v.1, .string v.2] 29)).cell? ⟨w.heap.size, 1, none⟩ = some (.string v.2) := by simp [go_sem]
  generalize w.alloc (.cells #[.int .i64 v.1, .string v.2] 29) = X at *
  have C := hid (C'.out X)
  go_wp2_with (go_at_call 36; refine C.out.mono ?_; rintro e w2 ⟨rfl, hww⟩; replace hww := hww.symm; subst hww)
  go_ret
  exact ⟨rfl, LX.out⟩
set_option maxHeartbeats 1000000 in
theorem set_no (p m : Nat) (l : List Rw) (F : List Nat) (s : ByteArray) (v : Int × ByteArray) (w : World) (h : Tb w p m l F) (hb : badB s = false) (hn : NoN l s) : Calls Tryd.prog 12 #[.pointer (some ⟨p, 0, none⟩), .string s, .agg #[.int .i64 v.1, .string v.2]] w fun e w' => e = .returned (.int .i64 54) ∧ Below w.heap.size w w' := by
  have HT := hid h
  clear h
  go_enter Tryd.func12, Tryd.ntmps12
  go_wp2_with fail
  have LX := hid (belowA w (.cells #[.int .i64 v.1, .string v.2] 29))
  have hXs : w.heap.size < (w.alloc (.cells #[.int .i64 v.1, .string v.2] 29)).heap.size := by simp
  have hX0 : (w.alloc (.cells #[.int .i64 v.1, .string v.2] 29)).cell? ⟨w.heap.size, 0, none⟩ = some (.int .i64 v.1) := by simp [go_sem]
  have hX1 : (w.alloc (.cells #[.int .i64 v.1, .string v.2] 29)).cell? ⟨w.heap.size, 1, none⟩ = some (.string v.2) := by simp [go_sem]
  generalize w.alloc (.cells #[.int .i64 v.1, .string v.2] 29) = X at *
  have C := hid (sought_no p m l F s X (HT.out.low LX.out) hb hn)
  clear hb hn
  go_wp2_with (go_at_call 36; refine C.out.mono ?_; rintro e w2 ⟨rfl, hww⟩; replace hww := hww.symm; subst hww)
  go_ret
  exact ⟨rfl, LX.out⟩
set_option maxHeartbeats 4000000 in
theorem set_ok (p m i : Nat) (l : List Rw) (F : List Nat) (s : ByteArray) (v : Int × ByteArray) (w : World) (h : Tb w p m l F) (hb : badB s = false) (hi : isT l i = true) (hs : nm l i = s) : Calls Tryd.prog 12 #[.pointer (some ⟨p, 0, none⟩), .string s, .agg #[.int .i64 v.1, .string v.2]] w fun e w' => e = .returned (.int .i64 0) ∧ Tb w' p m (l.set i (s, v)) F ∧ Mv F F w w' := by
  have HT := hid h
  have hle := Nat.le_trans h.ok.le h.ok.mm
  clear h
  go_enter Tryd.func12, Tryd.ntmps12
  go_wp2_with fail
  have LX := hid (belowA w (.cells #[.int .i64 v.1, .string v.2] 29))
  have hXs : w.heap.size < (w.alloc (.cells #[.int .i64 v.1, .string v.2] 29)).heap.size := by simp
  have hX0 : (w.alloc (.cells #[.int .i64 v.1, .string v.2] 29)).cell? ⟨w.heap.size, 0, none⟩ = some (.int .i64 v.1) := by simp [go_sem]
  have hX1 : (w.alloc (.cells #[.int .i64 v.1, .string v.2] 29)).cell? ⟨w.heap.size, 1, none⟩ = some (.string v.2) := by simp [go_sem]
  generalize w.alloc (.cells #[.int .i64 v.1, .string v.2] 29) = X at *
  have C := hid (sought_yes p m i l F s X (HT.out.low LX.out) hb hi hs)
  obtain ⟨mb, rs, ks, D, ws, h1, h2, rfl⟩ := HT.out.low LX.out
  have hil := isT_lt hi
  obtain ⟨g, cap, rfl, hg, r0, r1, r2⟩ := h1.rows hil
  have c2 := h1.c2
  have z1 := h1.rfz (i * 3 + 1)
  have z2 := h1.rfz (i * 3 + 2)
  have T2 := hid (h1.setV i v hil)
  have GF : Hid (g ∈ fp p mb (.slice (some ⟨g, 0, none⟩) l.length cap) ks) := hid (fp_r rfl)
  have OK := hid (h2.ok.set (v := v) hi)
  have CN : Hid (cnt (l.set i (nm l i, v)) = cnt l) := hid (by
    have := cnt_set l i (nm l i, v) hil
    rw [hi, if_neg (isT_iff.1 hi)] at this
    simp at this
    omega)
  have NM : Hid (∀ j, nm (l.set i (nm l i, v)) j = nm l j) := hid (fun j => by
    rw [nm_set l i _ hil]
    split
    · rename_i c; rw [c]
    · rfl)
  rw [hs] at T2 OK CN NM
  have H2 := hid h2
  clear h1 h2 hb hi hs
  have HLL := hid (rfl : l.length = l.length)
  generalize hLl : l.length = L at *
  clear hLl
  go_wp2_with (go_at_call 36; refine C.out.mono ?_; rintro e w2 ⟨rfl, hww⟩; replace hww := hww.symm; subst hww)
  go_region
  go_wp2_with fail
  go_ret
  refine ⟨rfl, ⟨mb, _, ks, D, ws, T2.out.frame (fun _ _ => rfl), ⟨OK.out, H2.out.mo.same CN.out NM.out, H2.out.wd, fun j => ?_, H2.out.wl⟩, rfl⟩, ?_⟩
  · rw [H2.out.bt]
    unfold isT
    rw [NM.out]
  · have B1 := ((Bx.refl (fp p mb (.slice (some ⟨g, 0, none⟩) L cap) ks) X.heap.size X).setCell (p := ⟨g, i * 3 + 1, none⟩) (Or.inl GF.out) (.int .i64 v.1)).setCell (p := ⟨g, i * 3 + 2, none⟩) (Or.inl GF.out) (.string v.2)
    exact ⟨(Bx.of LX.out).trans (B1.drew.mono LX.out.size (fun k hk => Or.inl hk)), fun k hk => Or.inl hk⟩
set_option maxHeartbeats 1000000 in
theorem drop_bad (p : Nat) (s : ByteArray) (w : World) (hs : s.size ≤ maxLen) (h : badB s = true) : Calls Tryd.prog 15 #[.pointer (some ⟨p, 0, none⟩), .string s] w fun e w' => e = .returned (.tuple #[.int .i64 0, .int .i64 51]) ∧ w' = w := by
  have C := hid (sought_bad p s w hs h)
  clear h
  go_enter Tryd.func15, Tryd.ntmps15
  go_wp2_with (go_at_call 36; refine C.out.mono ?_; rintro e w2 ⟨rfl, hww⟩; subst hww)
  go_ret2
  exact ⟨rfl, rfl⟩
set_option maxHeartbeats 1000000 in
theorem drop_no (p m : Nat) (l : List Rw) (F : List Nat) (s : ByteArray) (w : World) (h : Tb w p m l F) (hb : badB s = false) (hn : NoN l s) : Calls Tryd.prog 15 #[.pointer (some ⟨p, 0, none⟩), .string s] w fun e w' => e = .returned (.tuple #[.int .i64 0, .int .i64 54]) ∧ w' = w := by
  have C := hid (sought_no p m l F s w h hb hn)
  clear h hb hn
  go_enter Tryd.func15, Tryd.ntmps15
  go_wp2_with (go_at_call 36; refine C.out.mono ?_; rintro e w2 ⟨rfl, hww⟩; subst hww)
  go_ret2
  exact ⟨rfl, rfl⟩
set_option maxHeartbeats 4000000 in
theorem drop_ok (p m i : Nat) (l : List Rw) (F : List Nat) (s : ByteArray) (w : World) (h : Tb w p m l F) (hb : badB s = false) (hi : isT l i = true) (hs : nm l i = s) : Calls Tryd.prog 15 #[.pointer (some ⟨p, 0, none⟩), .string s] w fun e w' => ∃ F', e = .returned (.tuple #[.int .i64 (i : Int), .int .i64 0]) ∧ Tb w' p m (trim (l.set i (ByteArray.empty, (0, ByteArray.empty)))) F' ∧ Mv F F' w w' := by
  have C := hid (sought_yes p m i l F s w h hb hi hs)
  have hle := Nat.le_trans h.ok.le h.ok.mm
  have hmm := h.ok.mm
  obtain ⟨mb, rs, ks, D, ws, h1, h2, rfl⟩ := h
  have hil := isT_lt hi
  have c1 := h1.c1
  have HK := hid (keyS_of (maxLen_of hb))
  have hjw : i / 64 < ws.length := by
    apply Classical.byContradiction
    intro c
    have := h2.bt i
    rw [hi, mem_out ws i (by omega)] at this
    cases this
  have td := h1.hm.tidy keyS
  have MD := hid (h2.mo.del (v := ((0 : Int), ByteArray.empty)) td h2.ok hi)
  rw [hs] at MD
  have OK := hid (h2.ok.drop (v := ((0 : Int), ByteArray.empty)) hi)
  have NM := hid (fun j => nm_drop (v := ((0 : Int), ByteArray.empty)) hi j)
  have FR := hid (fun W (T : Tm W p m mb rs ks (D.del (kS s)) l ws) => free_any p m mb i rs ks (D.del (kS s)) l ws W T h2.wd hil hjw hle h2.wl)
  have H1 := hid h1
  have H2 := hid h2
  have HJ := hid hjw
  have MF : Hid (mb ∈ fp p mb rs ks) := hid fp_m
  clear td h1 h2 hb hi hs hjw
  generalize hQ : (fun (e : Ending) (w' : World) => ∃ F', e = .returned (.tuple #[.int .i64 (i : Int), .int .i64 0]) ∧ Tb w' p m (trim (l.set i (ByteArray.empty, (0, ByteArray.empty)))) F' ∧ Mv (fp p mb rs ks) F' w w') = Q
  have HQ := hid hQ
  clear hQ
  go_enter Tryd.func15, Tryd.ntmps15
  go_wp2_with (first
    | (go_at_call 36; refine C.out.mono ?_; rintro e w2 ⟨rfl, hww⟩; replace hww := hww.symm; subst hww)
    | (at_delete; refine wpList_delete_own _ rfl _ _ 68 9 rfl 3 keyS Tryd.underlying68 _ mb 65536 D rfl H1.out.hm _ _ rfl HK.out ?_
       intro w3 hown3 hturn3
       have T3 := hid (H1.out.map hturn3.grown hown3)
       have B3 := hid ((Bx.refl (fp p mb rs ks) w.heap.size w).grown hturn3.grown (Nat.le_refl _) (fun k hk => by injection hk with hk; subst hk; exact Or.inl MF.out))
       clear hown3 hturn3)
    | (go_at_call 38; refine (FR.out _ T3.out).mono ?_
       rintro e w4 ⟨rs4, rfl, T4, B4, F4⟩
       have HT4 := hid T4
       have HB4 := hid B4
       have HF4 := hid F4
       clear T4 B4 F4))
  rw [← HQ.out]
  refine ⟨fp p mb rs4 ks, rfl, ⟨mb, rs4, ks, _, _, HT4.out, ⟨OK.out, MD.out, Wd.delW H2.out.wd i, fun j => ?_, by unfold delW; rw [List.length_set]; exact H2.out.wl⟩, rfl⟩, ⟨B3.out.trans (HB4.out.mono B3.out.size (fun k hk => Or.inl hk)), fun k hk => Or.inl (HF4.out k hk)⟩⟩
  rw [mem_delW ws i H2.out.wd HJ.out, H2.out.bt]
  unfold isT
  rw [NM.out]
  by_cases e : j = i
  · simp [e]
  · simp [e]
end Go.Proofs.YtfkijmmflpnncaaDoor.LT
