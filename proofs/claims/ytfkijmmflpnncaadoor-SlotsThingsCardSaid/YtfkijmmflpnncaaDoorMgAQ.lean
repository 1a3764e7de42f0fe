import Derived.Test.YtfkijmmflpnncaaDoorMgAD
import Derived.Test.YtfkijmmflpnncaaDoorMgAP
import Derived.Test.YtfkijmmflpnncaaDoorMgAC
import Derived.Test.YtfkijmmflpnncaaDoorMgAH
namespace Go.Proofs.YtfkijmmflpnncaaDoor.LS
open L
open Go.RowKit Bs Go.Maps
set_option linter.unusedVariables false
set_option maxHeartbeats 1000000 in
theorem set_nil (s : ByteArray) (v : ByteArray) (w : World) : Calls Tryd.prog 13 #[.pointer none, .string s, .string v] w fun e w' => e = .returned (.int .i64 1) ∧ w' = w := by
  have C := hid (sought_nil s w)
  go_enter Tryd.func13, Tryd.ntmps13
  go_wp2_with (go_at_call 37; refine C.out.mono ?_; rintro e w2 ⟨rfl, hww⟩; subst hww)
  go_ret
  exact ⟨rfl, rfl⟩
set_option maxHeartbeats 1000000 in
theorem set_bad (p : Nat) (s : ByteArray) (v : ByteArray) (w : World) (hs : s.size ≤ maxLen) (h : badB s = true) : Calls Tryd.prog 13 #[.pointer (some ⟨p, 0, none⟩), .string s, .string v] w fun e w' => e = .returned (.int .i64 51) ∧ w' = w := by
  have C := hid (sought_bad p s w hs h)
  clear h
  go_enter Tryd.func13, Tryd.ntmps13
  go_wp2_with (go_at_call 37; refine C.out.mono ?_; rintro e w2 ⟨rfl, hww⟩; subst hww)
  go_ret
  exact ⟨rfl, rfl⟩
set_option maxHeartbeats 1000000 in
theorem set_no (p m : Nat) (l : List Rw) (F : List Nat) (s : ByteArray) (v : ByteArray) (w : World) (h : Tb w p m l F) (hb : badB s = false) (hn : NoN l s) : Calls Tryd.prog 13 #[.pointer (some ⟨p, 0, none⟩), .string s, .string v] w fun e w' => e = .returned (.int .i64 54) ∧ w' = w := by
  have C := hid (sought_no p m l F s w h hb hn)
  clear h hb hn
  go_enter Tryd.func13, Tryd.ntmps13
  go_wp2_with (go_at_call 37; refine C.out.mono ?_; rintro e w2 ⟨rfl, hww⟩; subst hww)
  go_ret
  exact ⟨rfl, rfl⟩
set_option maxHeartbeats 4000000 in
theorem set_ok (p m i : Nat) (l : List Rw) (F : List Nat) (s : ByteArray) (v : ByteArray) (w : World) (h : Tb w p m l F) (hb : badB s = false) (hi : isT l i = true) (hs : nm l i = s) : Calls Tryd.prog 13 #[.pointer (some ⟨p, 0, none⟩), .string s, .string v] w fun e w' => e = .returned (.int .i64 0) ∧ Tb w' p m (l.set i (s, v)) F ∧ Mv F F w w' := by
  have C := hid (sought_yes p m i l F s w h hb hi hs)
  have hle := Nat.le_trans h.ok.le h.ok.mm
  obtain ⟨mb, rs, ks, D, ws, h1, h2, rfl⟩ := h
  have hil := isT_lt hi
  obtain ⟨g, cap, rfl, hg, r0, r1⟩ := h1.rows hil
  have c2 := h1.c2
  have z1 := h1.rfz (i * 2 + 1)
  have T2 := hid (h1.setV i v hil)
  have GF : Hid (g ∈ fp p mb (.slice (some ⟨g, 0, none⟩) l.length cap) ks) := hid (fp_r rfl)
  have OK := hid (h2.ok.set (v := v) hi)
  have CN : Hid (cnt (l.set i (nm l i, v)) = cnt l) := hid (by
    have := cnt_set l i (nm l i, v) hil
    rw [hi, if_neg (isT_iff.1 hi)] at this
    simp at this
    omega)
  have NM : Hid (∀ j, nm (l.set i (nm l i, v)) j = nm l j) := hid (fun j => by
    rw [nm_set l i _ hil]
    split
    · rename_i c; rw [c]
    · rfl)
  rw [hs] at T2 OK CN NM
  have H2 := hid h2
  clear h1 h2 hb hi hs
  generalize hQ : (fun (e : Ending) (w' : World) => e = .returned (.int .i64 0) ∧ Tb w' p m (l.set i (s, v)) (fp p mb (.slice (some ⟨g, 0, none⟩) l.length cap) ks) ∧ Mv (fp p mb (.slice (some ⟨g, 0, none⟩) l.length cap) ks) (fp p mb (.slice (some ⟨g, 0, none⟩) l.length cap) ks) w w') = Q
  have HQ := hid hQ
  clear hQ
  generalize l.length = L at *
  go_enter Tryd.func13, Tryd.ntmps13
  go_wp2_with (go_at_call 37; refine C.out.mono ?_; rintro e w2 ⟨rfl, hww⟩; replace hww := hww.symm; subst hww)
  rw [← HQ.out]
  refine ⟨rfl, ⟨mb, _, ks, D, ws, T2.out, ⟨OK.out, H2.out.mo.same CN.out NM.out, H2.out.wd, fun j => ?_, H2.out.wl⟩, rfl⟩, ⟨(Bx.refl _ _ _).setCell (p := ⟨g, i * 2 + 1, none⟩) (Or.inl GF.out) _, fun k hk => Or.inl hk⟩⟩
  rw [H2.out.bt]
  unfold isT
  rw [NM.out]
set_option maxHeartbeats 1000000 in
theorem drop_nil (s : ByteArray) (w : World) : Calls Tryd.prog 16 #[.pointer none, .string s] w fun e w' => e = .returned (.tuple #[.int .i64 0, .int .i64 1]) ∧ w' = w := by
  have C := hid (sought_nil s w)
  go_enter Tryd.func16, Tryd.ntmps16
  go_wp2_with (go_at_call 37; refine C.out.mono ?_; rintro e w2 ⟨rfl, hww⟩; subst hww)
  go_ret2
  exact ⟨rfl, rfl⟩
set_option maxHeartbeats 1000000 in
theorem drop_bad (p : Nat) (s : ByteArray) (w : World) (hs : s.size ≤ maxLen) (h : badB s = true) : Calls Tryd.prog 16 #[.pointer (some ⟨p, 0, none⟩), .string s] w fun e w' => e = .returned (.tuple #[.int .i64 0, .int .i64 51]) ∧ w' = w := by
  have C := hid (sought_bad p s w hs h)
  clear h
  go_enter Tryd.func16, Tryd.ntmps16
  go_wp2_with (go_at_call 37; refine C.out.mono ?_; rintro e w2 ⟨rfl, hww⟩; subst hww)
  go_ret2
  exact ⟨rfl, rfl⟩
set_option maxHeartbeats 1000000 in
theorem drop_no (p m : Nat) (l : List Rw) (F : List Nat) (s : ByteArray) (w : World) (h : Tb w p m l F) (hb : badB s = false) (hn : NoN l s) : Calls Tryd.prog 16 #[.pointer (some ⟨p, 0, none⟩), .string s] w fun e w' => e = .returned (.tuple #[.int .i64 0, .int .i64 54]) ∧ w' = w := by
  have C := hid (sought_no p m l F s w h hb hn)
  clear h hb hn
  go_enter Tryd.func16, Tryd.ntmps16
  go_wp2_with (go_at_call 37; refine C.out.mono ?_; rintro e w2 ⟨rfl, hww⟩; subst hww)
  go_ret2
  exact ⟨rfl, rfl⟩
set_option maxHeartbeats 4000000 in
theorem drop_ok (p m i : Nat) (l : List Rw) (F : List Nat) (s : ByteArray) (w : World) (h : Tb w p m l F) (hb : badB s = false) (hi : isT l i = true) (hs : nm l i = s) : Calls Tryd.prog 16 #[.pointer (some ⟨p, 0, none⟩), .string s] w fun e w' => ∃ F', e = .returned (.tuple #[.int .i64 (i : Int), .int .i64 0]) ∧ Tb w' p m (trim (l.set i (ByteArray.empty, ByteArray.empty))) F' ∧ Mv F F' w w' := by
  have C := hid (sought_yes p m i l F s w h hb hi hs)
  have hle := Nat.le_trans h.ok.le h.ok.mm
  have hmm := h.ok.mm
  obtain ⟨mb, rs, ks, D, ws, h1, h2, rfl⟩ := h
  have hil := isT_lt hi
  have c1 := h1.c1
  have HK := hid (keyS_of (maxLen_of hb))
  have hjw : i / 64 < ws.length := by
    apply Classical.byContradiction
    intro c
    have := h2.bt i
    rw [hi, mem_out ws i (by omega)] at this
    cases this
  have td := h1.hm.tidy keyS
  have MD := hid (h2.mo.del (v := ByteArray.empty) td h2.ok hi)
  rw [hs] at MD
  have OK := hid (h2.ok.drop (v := ByteArray.empty) hi)
  have NM := hid (fun j => nm_drop (v := ByteArray.empty) hi j)
  have FR := hid (fun W (T : Tm W p m mb rs ks (D.del (kS s)) l ws) => free_any p m mb i rs ks (D.del (kS s)) l ws W T h2.wd hil hjw hle h2.wl)
  have H1 := hid h1
  have H2 := hid h2
  have HJ := hid hjw
  have MF : Hid (mb ∈ fp p mb rs ks) := hid fp_m
  clear td h1 h2 hb hi hs hjw
  generalize hQ : (fun (e : Ending) (w' : World) => ∃ F', e = .returned (.tuple #[.int .i64 (i : Int), .int .i64 0]) ∧ Tb w' p m (trim (l.set i (ByteArray.empty, ByteArray.empty))) F' ∧ Mv (fp p mb rs ks) F' w w') = Q
  have HQ := hid hQ
  clear hQ
  go_enter Tryd.func16, Tryd.ntmps16
  go_wp2_with (first
    | (go_at_call 37; refine C.out.mono ?_; rintro e w2 ⟨rfl, hww⟩; replace hww := hww.symm; subst hww)
    | (at_delete; refine wpList_delete_own _ rfl _ _ 68 9 rfl 3 keyS Tryd.underlying68 _ mb 65536 D rfl H1.out.hm _ _ rfl HK.out ?_
       intro w3 hown3 hturn3
       have T3 := hid (H1.out.map hturn3.grown hown3)
       have B3 := hid ((Bx.refl (fp p mb rs ks) w.heap.size w).grown hturn3.grown (Nat.le_refl _) (fun k hk => by injection hk with hk; subst hk; exact Or.inl MF.out))
       clear hown3 hturn3)
    | (go_at_call 39; refine (FR.out _ T3.out).mono ?_
       rintro e w4 ⟨rs4, rfl, T4, B4, F4⟩
       have HT4 := hid T4
       have HB4 := hid B4
       have HF4 := hid F4
       clear T4 B4 F4))
  rw [← HQ.out]
  refine ⟨fp p mb rs4 ks, rfl, ⟨mb, rs4, ks, _, _, HT4.out, ⟨OK.out, MD.out, Wd.delW H2.out.wd i, fun j => ?_, by unfold delW; rw [List.length_set]; exact H2.out.wl⟩, rfl⟩, ⟨B3.out.trans (HB4.out.mono B3.out.size (fun k hk => Or.inl hk)), fun k hk => Or.inl (HF4.out k hk)⟩⟩
  rw [mem_delW ws i H2.out.wd HJ.out, H2.out.bt]
  unfold isT
  rw [NM.out]
  by_cases e : j = i
  · simp [e]
  · simp [e]
end Go.Proofs.YtfkijmmflpnncaaDoor.LS
namespace Go.Proofs.YtfkijmmflpnncaaDoor.LS
open L
open Go.RowKit Bs Go.Maps
set_option linter.unusedVariables false
set_option maxHeartbeats 1000000 in
theorem at_nil (i : Int) (w : World) : Calls Tryd.prog 19 #[.pointer none, .int .i64 i] w fun e w' => e = .returned (.tuple #[.string ByteArray.empty, .string ByteArray.empty, .bool false]) ∧ w' = w := by
  by_cases h : i < 0
  · go_enter Tryd.func19, Tryd.ntmps19
    go_wp2_with fail
    go_ret3
    exact ⟨rfl, rfl⟩
  · have h' : 0 ≤ i := by omega
    have S := hid (span_nil w)
    go_enter Tryd.func19, Tryd.ntmps19
    go_wp2_with (go_at_call 40; refine S.out.mono ?_; rintro e w2 ⟨rfl, hww⟩; subst hww)
    go_ret3
    exact ⟨rfl, rfl⟩
/-- No name stands in the slot. -/
def NoS (l : List Rw) (i : Int) : Prop := ∀ j : Nat, i = j → isT l j = false
theorem slot_or (l : List Rw) (i : Int) : NoS l i ∨ ∃ j : Nat, i = j ∧ isT l j = true := by
  by_cases h : ∃ j : Nat, i = j ∧ isT l j = true
  · exact Or.inr h
  · left
    intro j hj
    cases e : isT l j
    · rfl
    · exact absurd ⟨j, hj, e⟩ h
set_option maxHeartbeats 2000000 in
theorem at_no (p m : Nat) (l : List Rw) (F : List Nat) (i : Int) (w : World) (h : Tb w p m l F) (hi : NoS l i) : Calls Tryd.prog 19 #[.pointer (some ⟨p, 0, none⟩), .int .i64 i] w fun e w' => e = .returned (.tuple #[.string ByteArray.empty, .string ByteArray.empty, .bool false]) ∧ w' = w := by
  have S := hid (span_any p m l F w h)
  by_cases h0 : i < 0
  · clear hi h
    go_enter Tryd.func19, Tryd.ntmps19
    go_wp2_with fail
    go_ret3
    exact ⟨rfl, rfl⟩
  · obtain ⟨j, rfl⟩ : ∃ j : Nat, i = j := ⟨i.toNat, by omega⟩
    have hj := hi j rfl
    have hle := Nat.le_trans h.ok.le h.ok.mm
    obtain ⟨mb, rs, ks, D, ws, h1, h2, rfl⟩ := h
    by_cases hl : j < l.length
    · obtain ⟨g, cap, rfl, hg, r0, r1⟩ := h1.rows hl
      have c2 := h1.c2
      have en : nm l j = ⟨#[]⟩ := isT_no.1 hj
      rw [en] at r0
      clear h1 h2 hi hj en r1
      generalize l.length = L at *
      go_enter Tryd.func19, Tryd.ntmps19
      go_wp2_with (go_at_call 40; refine S.out.mono ?_; rintro e w2 ⟨rfl, hww⟩; replace hww := hww.symm; subst hww)
      go_ret3
      exact ⟨rfl, rfl⟩
    · clear h1 h2 hi hj
      generalize l.length = L at *
      have hl' : L ≤ j := by omega
      go_enter Tryd.func19, Tryd.ntmps19
      go_wp2_with (go_at_call 40; refine S.out.mono ?_; rintro e w2 ⟨rfl, hww⟩; replace hww := hww.symm; subst hww)
      go_ret3
      exact ⟨rfl, rfl⟩
set_option maxHeartbeats 2000000 in
theorem at_yes (p m j : Nat) (l : List Rw) (F : List Nat) (w : World) (h : Tb w p m l F) (hj : isT l j = true) : Calls Tryd.prog 19 #[.pointer (some ⟨p, 0, none⟩), .int .i64 (j : Int)] w fun e w' => e = .returned (.tuple #[.string (nm l j), .string (vlu l j), .bool true]) ∧ ∃ n, w' = w.drewN n := by
  have S := hid (span_any p m l F w h)
  have hle := Nat.le_trans h.ok.le h.ok.mm
  obtain ⟨mb, rs, ks, D, ws, h1, h2, rfl⟩ := h
  have hl := isT_lt hj
  obtain ⟨g, cap, rfl, hg, r0, r1⟩ := h1.rows hl
  have c2 := h1.c2
  have en : ((nm l j).toList == []) = false := by rw [nil_size]; simpa using isT_iff.1 hj
  clear h1 h2 hj
  generalize l.length = L at *
  generalize nm l j = s at *
  generalize vlu l j = v at *
  go_enter Tryd.func19, Tryd.ntmps19
  go_wp2_with (go_at_call 40; refine S.out.mono ?_; rintro e w2 ⟨rfl, hww⟩; replace hww := hww.symm; subst hww)
  go_quiet (fail)
  go_wp2
  go_ret3
  exact ⟨rfl, _, rfl⟩
end Go.Proofs.YtfkijmmflpnncaaDoor.LS
