import Derived.Test.YtfkijmmflpnncaaDoorMgAC
namespace Go.Proofs.YtfkijmmflpnncaaDoor.L
open Go.RowKit Bs Go.Maps
set_option linter.unusedVariables false
set_option maxHeartbeats 1000000 in
theorem drop_nil (s : ByteArray) (w : World) : Calls Tryd.prog 28 #[.pointer none, .string s] w fun e w' => e = .returned (.tuple #[.int .i64 0, .int .i64 1]) ∧ w' = w := by
  have C := hid (sought_nil s w)
  go_enter Tryd.func28, Tryd.ntmps28
  go_wp2_with (go_at_call 49; refine C.out.mono ?_; rintro e w2 ⟨rfl, hww⟩; subst hww)
  go_ret2
  exact ⟨rfl, rfl⟩
set_option maxHeartbeats 1000000 in
theorem drop_bad (p : Nat) (s : ByteArray) (w : World) (hs : s.size ≤ maxLen) (h : badB s = true) : Calls Tryd.prog 28 #[.pointer (some ⟨p, 0, none⟩), .string s] w fun e w' => e = .returned (.tuple #[.int .i64 0, .int .i64 51]) ∧ w' = w := by
  have C := hid (sought_bad p s w hs h)
  clear h
  go_enter Tryd.func28, Tryd.ntmps28
  go_wp2_with (go_at_call 49; refine C.out.mono ?_; rintro e w2 ⟨rfl, hww⟩; subst hww)
  go_ret2
  exact ⟨rfl, rfl⟩
set_option maxHeartbeats 1000000 in
theorem drop_no (p m : Nat) (l : List Rw) (F : List Nat) (s : ByteArray) (w : World) (h : Tb w p m l F) (hb : badB s = false) (hn : NoN l s) : Calls Tryd.prog 28 #[.pointer (some ⟨p, 0, none⟩), .string s] w fun e w' => e = .returned (.tuple #[.int .i64 0, .int .i64 54]) ∧ w' = w := by
  have C := hid (sought_no p m l F s w h hb hn)
  clear h hb hn
  go_enter Tryd.func28, Tryd.ntmps28
  go_wp2_with (go_at_call 49; refine C.out.mono ?_; rintro e w2 ⟨rfl, hww⟩; subst hww)
  go_ret2
  exact ⟨rfl, rfl⟩
set_option maxHeartbeats 4000000 in
theorem drop_ok (p m i : Nat) (l : List Rw) (F : List Nat) (s : ByteArray) (w : World) (h : Tb w p m l F) (hb : badB s = false) (hi : isT l i = true) (hs : nm l i = s) : Calls Tryd.prog 28 #[.pointer (some ⟨p, 0, none⟩), .string s] w fun e w' => ∃ F', e = .returned (.tuple #[.int .i64 (i : Int), .int .i64 0]) ∧ Tb w' p m (trim (l.set i (ByteArray.empty, 0))) F' ∧ Mv F F' w w' := by
  have C := hid (sought_yes p m i l F s w h hb hi hs)
  have hle := Nat.le_trans h.ok.le h.ok.mm
  have hmm := h.ok.mm
  obtain ⟨mb, rs, ks, D, ws, h1, h2, rfl⟩ := h
  have hil := isT_lt hi
  have c1 := h1.c1
  have HK := hid (keyS_of (maxLen_of hb))
  have hjw : i / 64 < ws.length := by
    apply Classical.byContradiction
    intro c
    have := h2.bt i
    rw [hi, mem_out ws i (by omega)] at this
    cases this
  have td := h1.hm.tidy keyS
  have MD := hid (h2.mo.del (v := (0 : Int)) td h2.ok hi)
  rw [hs] at MD
  have OK := hid (h2.ok.drop (v := (0 : Int)) hi)
  have NM := hid (fun j => nm_drop (v := (0 : Int)) hi j)
  have FR := hid (fun W (T : Tm W p m mb rs ks (D.del (kS s)) l ws) => free_any p m mb i rs ks (D.del (kS s)) l ws W T h2.wd hil hjw hle h2.wl)
  have H1 := hid h1
  have H2 := hid h2
  have HJ := hid hjw
  have MF : Hid (mb ∈ fp p mb rs ks) := hid fp_m
  clear td h1 h2 hb hi hs hjw
  generalize hQ : (fun (e : Ending) (w' : World) => ∃ F', e = .returned (.tuple #[.int .i64 (i : Int), .int .i64 0]) ∧ Tb w' p m (trim (l.set i (ByteArray.empty, 0))) F' ∧ Mv (fp p mb rs ks) F' w w') = Q
  have HQ := hid hQ
  clear hQ
  go_enter Tryd.func28, Tryd.ntmps28
  go_wp2_with (first
    | (go_at_call 49; refine C.out.mono ?_; rintro e w2 ⟨rfl, hww⟩; replace hww := hww.symm; subst hww)
    | (at_delete; refine wpList_delete_own _ rfl _ _ 68 9 rfl 3 keyS Tryd.underlying68 _ mb 65536 D rfl H1.out.hm _ _ rfl HK.out ?_
       intro w3 hown3 hturn3
       have T3 := hid (H1.out.map hturn3.grown hown3)
       have B3 := hid ((Bx.refl (fp p mb rs ks) w.heap.size w).grown hturn3.grown (Nat.le_refl _) (fun k hk => by injection hk with hk; subst hk; exact Or.inl MF.out))
       clear hown3 hturn3)
    | (go_at_call 50; refine (FR.out _ T3.out).mono ?_
       rintro e w4 ⟨rs4, rfl, T4, B4, F4⟩
       have HT4 := hid T4
       have HB4 := hid B4
       have HF4 := hid F4
       clear T4 B4 F4))
  rw [← HQ.out]
  refine ⟨fp p mb rs4 ks, rfl, ⟨mb, rs4, ks, _, _, HT4.out, ⟨OK.out, MD.out, Wd.delW H2.out.wd i, fun j => ?_, by unfold delW; rw [List.length_set]; exact H2.out.wl⟩, rfl⟩, ⟨B3.out.trans (HB4.out.mono B3.out.size (fun k hk => Or.inl hk)), fun k hk => Or.inl (HF4.out k hk)⟩⟩
  rw [mem_delW ws i H2.out.wd HJ.out, H2.out.bt]
  unfold isT
  rw [NM.out]
  by_cases e : j = i
  · simp [e]
  · simp [e]
end Go.Proofs.YtfkijmmflpnncaaDoor.L
namespace Go.Proofs.YtfkijmmflpnncaaDoor.L
open Go.RowKit Bs Go.Maps
set_option linter.unusedVariables false
theorem Tab.mv {F F' : List Nat} {B : Nat} {w w' : World} (h : Tab w) (hm : Mv F F' w w') (hB : 1 < B) (hF : ∀ k ∈ F, B ≤ k) : Tab w' :=
  h.bx hm.1 h.1 (fun c => by have := hF _ c; omega)
theorem Mv.above {F F' : List Nat} {B : Nat} {w w' : World} (hm : Mv F F' w w') (hB : B ≤ w.heap.size) (hF : ∀ k ∈ F, B ≤ k) : ∀ k ∈ F', B ≤ k := fun k hk => by
  rcases hm.2 k hk with c | c
  · exact hF k c
  · omega
theorem Mv.below {F F' : List Nat} {B : Nat} {w w' : World} (hm : Mv F F' w w') (hB : B ≤ w.heap.size) (hF : ∀ k ∈ F, B ≤ k) : Below B w w' := hm.1.below hB hF
abbrev sA : ByteArray := ⟨#[97]⟩
abbrev sB : ByteArray := ⟨#[98]⟩
abbrev sC : ByteArray := ⟨#[99]⟩
theorem none_nil (s : ByteArray) : NoN ([] : List Rw) s := fun i hi => by simp [isT, nm] at hi
theorem none_cons {x : Rw} {l : List Rw} {s : ByteArray} (h : x.1 ≠ s) (hl : NoN l s) : NoN (x :: l) s := fun i hi => by
  cases i with
  | zero => exact h
  | succ i => rw [isT_cons_succ] at hi; rw [nm_cons_succ]; exact hl i hi
set_option maxHeartbeats 4000000 in
set_option maxRecDepth 100000 in
theorem fixed_any (w : World) (ht : Tab w) : Calls Tryd.prog 4 #[] w fun e w' => e = .returned (.bool true) ∧ Below w.heap.size w w' := by
  have hB := ht.1
  have HT := hid ht
  clear ht
  go_enter Tryd.func4, Tryd.ntmps4
  go_wp2_with (go_at_call 26; refine (new_any 2 _ (by omega)).mono ?_; rintro e w1 ⟨p, F, rfl, T1, F1, B1⟩)
  have A1 := HT.out.bx (Bx.of (F := []) B1) hB (by simp)
  have hs1 := B1.size
  refine (put_ok p 2 [] F sB 7 w1 T1 A1 (by decide) (none_nil _) (by decide)).mono ?_
  rintro e w2 ⟨F2, rfl, T2, M2⟩
  have G2 := M2.above hs1 F1
  have A2 := A1.mv M2 hB F1
  have B2 := B1.trans (M2.below hs1 F1)
  have hs2 := B2.size
  clear T1 A1 B1 M2 F1
  rw [show wrt ([] : List Rw) (low ([] : List Rw)) (sB, 7) = [(sB, 7)] from rfl] at T2
  rw [show low ([] : List Rw) = 0 from rfl]
  go_wp2_with fail
  refine (put_ok p 2 [(sB, 7)] F2 sA 8 w2 T2 A2 (by decide) (none_cons (by decide) (none_nil _)) (by decide)).mono ?_
  rintro e w3 ⟨F3, rfl, T3, M3⟩
  have G3 := M3.above hs2 G2
  have A3 := A2.mv M3 hB G2
  have B3 := B2.trans (M3.below hs2 G2)
  have hs3 := B3.size
  clear T2 A2 B2 M3 G2
  rw [show low ([(sB, 7)] : List Rw) = 1 from by decide]
  rw [show low ([(sB, 7)] : List Rw) = 1 from by decide, show wrt ([(sB, 7)] : List Rw) 1 (sA, 8) = [(sB, 7), (sA, 8)] from rfl] at T3
  go_wp2_with fail
  refine (put_full p 2 [(sB, 7), (sA, 8)] F3 sC 9 w3 T3 (by decide) (none_cons (by decide) (none_cons (by decide) (none_nil _))) (by decide)).mono ?_
  rintro e w4 ⟨rfl, n4, hw4⟩
  have T4 := T3.drewN n4
  have A4 : Tab (w3.drewN n4) := ⟨A3.1, A3.2⟩
  have B4 : Below w.heap.size w (w3.drewN n4) := ⟨B3.os, B3.tape, B3.output, B3.size, B3.block⟩
  have hs4 : w.heap.size ≤ (w3.drewN n4).heap.size := hs3
  rw [← hw4] at T4 A4 B4 hs4
  clear hw4 T3 A3 B3
  go_wp2_with fail
  refine (drop_ok p 2 0 [(sB, 7), (sA, 8)] F3 sB w4 T4 (by decide) (by decide) rfl).mono ?_
  rintro e w5 ⟨F5, rfl, T5, M5⟩
  have G5 := M5.above hs4 G3
  have A5 := A4.mv M5 hB G3
  have B5 := B4.trans (M5.below hs4 G3)
  have hs5 := B5.size
  clear T4 A4 B4 M5 G3
  rw [show trim (([(sB, 7), (sA, 8)] : List Rw).set 0 (ByteArray.empty, 0)) = [(ByteArray.empty, 0), (sA, 8)] from rfl] at T5
  go_wp2_with fail
  refine (put_ok p 2 [(ByteArray.empty, 0), (sA, 8)] F5 sC 5 w5 T5 A5 (by decide) (none_cons (by decide) (none_cons (by decide) (none_nil _))) (by decide)).mono ?_
  rintro e w6 ⟨F6, rfl, T6, M6⟩
  have B6 := B5.trans (M6.below hs5 G5)
  clear T5 A5 B5 M6 G5 T6
  rw [show low ([(ByteArray.empty, 0), (sA, 8)] : List Rw) = 0 from rfl]
  go_wp2_with fail
  go_ret
  exact ⟨rfl, B6⟩
end Go.Proofs.YtfkijmmflpnncaaDoor.L
