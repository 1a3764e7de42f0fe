import Derived.Test.YtcldglilhhhdoaaGreatDoorPfD
namespace Go.Proofs.YtcldglilhhhdoaaGreatDoor.L
open Go.RowKit
set_option linter.unusedVariables false
set_option linter.unusedSimpArgs false
/-- What a small step of the machine gives. -/
def Pmm {α : Type} (mb B : Nat) (tv : Value) (T : List Tok) (ws : List Wn) (fr : List Int) (fl : Array Value) (wv v o f : Value) (ks : Nat → Value) (mk : α → Value) (bad : Value) (r : PRes α) (W : World) (e : Ending) (W' : World) : Prop :=
 match r with
 | .ok (a, s') => e = .returned (mk a) ∧ MM mb B tv T W' s' ws fr fl wv v o f ks ∧ Fmm B W W'
 | .error (c, x) => e = .returned bad ∧ (∃ s', MM mb B tv T W' s' ws fr (f19 c x) wv v o f ks) ∧ Fmm B W W'
theorem fcd_rf (T : List Tok) (s : PS) : rfE T s = (fcd T s 120, ((tk T s.nx).a : Int)) := by
 unfold rfE fcd
 by_cases h : (tk T s.nx).kind = 0
 ·rw [if_pos h, if_pos ⟨rfl, h⟩]
 ·rw [if_neg h, if_neg (fun k => h k.2)]
theorem fcd_ot (T : List Tok) (s : PS) {c : Nat} (h : c ≠ 120) : fcd T s c = c := by unfold fcd; rw [if_neg (fun k => h k.1)]
theorem tl40 : (⟨#[40]⟩ : ByteArray).toList = [40] := ByteArray.toList_eq _
theorem ism_k {T : List Tok} {s : PS} {m : List UInt8} (h : isM T s m = true) : (tk T s.nx).kind ≠ 0 := by
 unfold isM at h
 rw [Bool.and_eq_true, decide_eq_true_eq] at h
 omega
theorem MM.adv {mb B : Nat} {tv : Value} {T : List Tok} {W : World} {s : PS} {ws : List Wn} {fr : List Int} {fl : Array Value} {wv v o f : Value} {ks : Nat → Value} (h : MM mb B tv T W s ws fr fl wv v o f ks) (hk : (tk T s.nx).kind ≠ 0) : MM mb B tv T (W.setCell ⟨mb, 1, none⟩ (.int .i64 ((s.nx : Int) + 1))) (L.adv s) ws fr fl wv v o f ks ∧ Fmm B W (W.setCell ⟨mb, 1, none⟩ (.int .i64 ((s.nx : Int) + 1))) := by
 refine ⟨h.chg ?_ (fun k _ hk => heap_setCell_other _ _ _ _ hk) rfl rfl (h.fin _ h.nx hk) h.ns h.fl19, Fmm.chg h rfl rfl rfl (by rw [World.size_setCell]; exact Nat.le_refl _) (fun k _ hk => heap_setCell_other _ _ _ _ hk)⟩
 rw [heap_setCell_same _ _ _ _ _ _ h.box]
 cases fl
 simp [mc, L.adv]
theorem MM.opn {mb B : Nat} {tv : Value} {T : List Tok} {W : World} {s : PS} {ws : List Wn} {fr : List Int} {fl : Array Value} {wv v o f : Value} {ks : Nat → Value} (h : MM mb B tv T W s ws fr fl wv v o f ks) (hn : s.ns < 32) : MM mb B tv T (W.setCell ⟨mb, 6, none⟩ (.int .i64 ((s.ns : Int) + 1))) { s with ns := s.ns + 1 } ws fr fl wv v o f ks ∧ Fmm B W (W.setCell ⟨mb, 6, none⟩ (.int .i64 ((s.ns : Int) + 1))) := by
 refine ⟨h.chg ?_ (fun k _ hk => heap_setCell_other _ _ _ _ hk) rfl rfl h.nx (by show s.ns + 1 ≤ 32; omega) h.fl19, Fmm.chg h rfl rfl rfl (by rw [World.size_setCell]; exact Nat.le_refl _) (fun k _ hk => heap_setCell_other _ _ _ _ hk)⟩
 rw [heap_setCell_same _ _ _ _ _ _ h.box]
 cases fl
 simp [mc]
set_option maxHeartbeats 4000000 in
set_option maxRecDepth 100000 in
theorem mtake_any {mb B : Nat} {tv : Value} {T : List Tok} {W : World} {s : PS} {ws : List Wn} {fr : List Int} {fl : Array Value} {wv v o f : Value} {ks : Nat → Value} (h : MM mb B tv T W s ws fr fl wv v o f ks) (m : ByteArray) : Calls Tryz.prog 43 #[.pointer (some ⟨mb, 0, none⟩), .string m] W fun e W' => Pmm mb B tv T ws fr fl wv v o f ks (fun _ => .bool true) (.bool false) (markP T s m.toList) W e W' := by
 have HP := hid h
 have hnx := h.nx
 have htl := h.tl
 have hnl : (s.nx : Int) + 1 ≤ 4098 := by omega
 clear h
 unfold markP
 by_cases hm : isM T s m.toList = true
 ·have HMK := hid (show (decide ((tk T s.nx).kind = 4) && decide ((tk T s.nx).text.toList = m.toList)) = true from hm)
  have HKD := hid (ism_k hm)
  rw [if_pos hm]
  clear hm
  go_enter Tryz.func43, Tryz.ntmps43
  go_wp2_with fail
  refine (mmark_any HP.out m).mono ?_
  rintro e W1 ⟨rfl, l⟩
  have HB1 := hid l
  have HP1 := hid (HP.out.low l)
  have HF1 := hid (Fmm.of l HP.out.size)
  rw [HMK.out]
  clear l
  have c1 : W1.cell? ⟨mb, 1, none⟩ = some (.int .i64 (s.nx : Int)) := HP1.out.cell 1 (by decide)
  have f1 := frz_row HP1.out.box 1
  go_wp2_with fail
  go_ret
  exact ⟨rfl, (HP1.out.adv HKD.out).1, HF1.out.trans (HP1.out.adv HKD.out).2⟩
 ·have HMK := hid (show (decide ((tk T s.nx).kind = 4) && decide ((tk T s.nx).text.toList = m.toList)) = false from Bool.eq_false_iff.2 hm)
  rw [if_neg hm, fcd_rf]
  clear hm
  go_enter Tryz.func43, Tryz.ntmps43
  go_wp2_with fail
  refine (mmark_any HP.out m).mono ?_
  rintro e W1 ⟨rfl, l⟩
  have HB1 := hid l
  have HP1 := hid (HP.out.low l)
  have HF1 := hid (Fmm.of l HP.out.size)
  rw [HMK.out]
  clear l
  go_wp2_with fail
  refine (mfail_any HP1.out 120).mono ?_
  rintro e W2 ⟨rfl, h2, h3⟩
  have HP2 := hid h2
  have HF2 := hid (HF1.out.trans h3)
  clear h2 h3
  go_wp2_with fail
  go_ret
  exact ⟨rfl, ⟨_, HP2.out⟩, HF2.out⟩
set_option maxHeartbeats 4000000 in
set_option maxRecDepth 100000 in
theorem mopen_any {mb B : Nat} {tv : Value} {T : List Tok} {W : World} {s : PS} {ws : List Wn} {fr : List Int} {fl : Array Value} {wv v o f : Value} {ks : Nat → Value} (h : MM mb B tv T W s ws fr fl wv v o f ks) (hk : (tk T s.nx).kind ≠ 0) : Calls Tryz.prog 57 #[.pointer (some ⟨mb, 0, none⟩)] W fun e W' => Pmm mb B tv T ws fr fl wv v o f ks (fun _ => .bool true) (.bool false) (if s.ns = 32 then .error (122, ((tk T s.nx).a : Int)) else .ok ((), { L.adv s with ns := s.ns + 1 }) : PRes Unit) W e W' := by
 have HP := hid h
 have HKD := hid hk
 have hnx := h.nx
 have htl := h.tl
 have hns := h.ns
 have hnl : (s.nx : Int) + 1 ≤ 4098 := by omega
 have c6 : W.cell? ⟨mb, 6, none⟩ = some (.int .i64 (s.ns : Int)) := h.cell 6 (by decide)
 have f6 := frz_row h.box 6
 clear h hk
 by_cases hn : s.ns = 32
 ·rw [if_pos hn]
  have d1 : (32 : Int) ≤ (s.ns : Int) := by omega
  have d2 : decide ((32 : Int) ≤ (s.ns : Int)) = true := by simp; omega
  have HFC := hid (fcd_ot T s (c := 122) (by decide))
  clear hn
  go_enter Tryz.func57, Tryz.ntmps57
  have HF1 := hid (Fmm.refl B W)
  have HP1 := HP
  go_wp2_with fail
  refine (mfail_any HP1.out 122).mono ?_
  rintro e W2 ⟨rfl, h2, h3⟩
  have HP2 := hid h2
  have HF2 := hid (HF1.out.trans h3)
  clear h2 h3
  rw [HFC.out] at HP2
  go_wp2_with fail
  go_ret
  exact ⟨rfl, ⟨_, HP2.out⟩, HF2.out⟩
 ·rw [if_neg hn]
  have d1 : ¬ (32 : Int) ≤ (s.ns : Int) := by omega
  have d2 : decide ((32 : Int) ≤ (s.ns : Int)) = false := by simp; omega
  have HQ := hid (HP.out.opn (by omega))
  have HQ2 := hid (HQ.out.1.adv HKD.out)
  have d3 : (s.ns : Int) + 1 ≤ 32 := by omega
  clear hn
  go_enter Tryz.func57, Tryz.ntmps57
  go_upto_region 5 with fail
  have c1 : (W.setCell ⟨mb, 6, none⟩ (.int .i64 ((s.ns : Int) + 1))).cell? ⟨mb, 1, none⟩ = some (.int .i64 (s.nx : Int)) := HQ.out.1.cell 1 (by decide)
  have f1 := frz_row HQ.out.1.box 1
  generalize W.setCell ⟨mb, 6, none⟩ (.int .i64 ((s.ns : Int) + 1)) = W1 at *
  clear c6 f6
  go_wp2_with fail
  go_ret
  exact ⟨rfl, HQ2.out.1, HQ.out.2.trans HQ2.out.2⟩
set_option maxHeartbeats 4000000 in
set_option maxRecDepth 100000 in
theorem mtopen_any {mb B : Nat} {tv : Value} {T : List Tok} {W : World} {s : PS} {ws : List Wn} {fr : List Int} {fl : Array Value} {wv v o f : Value} {ks : Nat → Value} (h : MM mb B tv T W s ws fr fl wv v o f ks) : Calls Tryz.prog 63 #[.pointer (some ⟨mb, 0, none⟩)] W fun e W' => Pmm mb B tv T ws fr fl wv v o f ks (fun _ => .bool true) (.bool false) (openP T s [40]) W e W' := by
 have HP := hid h
 clear h
 unfold openP
 by_cases hm : isM T s [40] = true
 ·have HMK := hid (show (decide ((tk T s.nx).kind = 4) && decide ((tk T s.nx).text.toList = (⟨#[40]⟩ : ByteArray).toList)) = true from (by rw [tl40]; exact hm))
  have HKD := hid (ism_k hm)
  rw [if_pos hm]
  clear hm
  by_cases hn : s.ns = 32
  ·rw [if_pos hn]
   have HN := hid hn
   clear hn
   go_enter Tryz.func63, Tryz.ntmps63
   go_wp2_with fail
   refine (mmark_any HP.out ⟨#[40]⟩).mono ?_
   rintro e W1 ⟨rfl, l⟩
   have HB1 := hid l
   have HP1 := hid (HP.out.low l)
   have HF1 := hid (Fmm.of l HP.out.size)
   rw [HMK.out]
   clear l
   go_wp2_with fail
   refine (mopen_any HP1.out HKD.out).mono ?_
   rintro e W2 h2
   rw [if_pos HN.out] at h2
   obtain ⟨rfl, h3, h4⟩ := h2
   have HP2 := hid h3
   have HF2 := hid (HF1.out.trans h4)
   clear h3 h4
   go_wp2_with fail
   go_ret
   exact ⟨rfl, HP2.out, HF2.out⟩
  ·rw [if_neg hn]
   have HN := hid hn
   clear hn
   go_enter Tryz.func63, Tryz.ntmps63
   go_wp2_with fail
   refine (mmark_any HP.out ⟨#[40]⟩).mono ?_
   rintro e W1 ⟨rfl, l⟩
   have HB1 := hid l
   have HP1 := hid (HP.out.low l)
   have HF1 := hid (Fmm.of l HP.out.size)
   rw [HMK.out]
   clear l
   go_wp2_with fail
   refine (mopen_any HP1.out HKD.out).mono ?_
   rintro e W2 h2
   rw [if_neg HN.out] at h2
   obtain ⟨rfl, h3, h4⟩ := h2
   have HP2 := hid h3
   have HF2 := hid (HF1.out.trans h4)
   clear h3 h4
   go_wp2_with fail
   go_ret
   exact ⟨rfl, HP2.out, HF2.out⟩
 ·have HMK := hid (show (decide ((tk T s.nx).kind = 4) && decide ((tk T s.nx).text.toList = (⟨#[40]⟩ : ByteArray).toList)) = false from (by rw [tl40]; exact Bool.eq_false_iff.2 hm))
  rw [if_neg hm, fcd_rf]
  clear hm
  go_enter Tryz.func63, Tryz.ntmps63
  go_wp2_with fail
  refine (mmark_any HP.out ⟨#[40]⟩).mono ?_
  rintro e W1 ⟨rfl, l⟩
  have HB1 := hid l
  have HP1 := hid (HP.out.low l)
  have HF1 := hid (Fmm.of l HP.out.size)
  rw [HMK.out]
  clear l
  go_wp2_with fail
  refine (mfail_any HP1.out 120).mono ?_
  rintro e W2 ⟨rfl, h2, h3⟩
  have HP2 := hid h2
  have HF2 := hid (HF1.out.trans h3)
  clear h2 h3
  go_wp2_with fail
  go_ret
  exact ⟨rfl, ⟨_, HP2.out⟩, HF2.out⟩
set_option maxHeartbeats 4000000 in
set_option maxRecDepth 100000 in
theorem mtext_any {mb B : Nat} {tv : Value} {T : List Tok} {W : World} {s : PS} {ws : List Wn} {fr : List Int} {fl : Array Value} {wv v o f : Value} {ks : Nat → Value} (h : MM mb B tv T W s ws fr fl wv v o f ks) : Calls Tryz.prog 82 #[.pointer (some ⟨mb, 0, none⟩)] W fun e W' => Pmm mb B tv T ws fr fl wv v o f ks (fun t => .tuple #[.string t, .bool true]) (.tuple #[.string ⟨#[]⟩, .bool false]) (textP T s) W e W' := by
 obtain ⟨g, cap, rfl, hgl, hc⟩ := h.tokc
 have hnx := h.nx
 have htl := h.tl
 have HP := hid h
 have HC := hid (fun r (hr : r < 5) => hc s.nx r hnx hr)
 have HGL := hid hgl
 have HC0 := hid (h.cell 0 (by decide))
 have HC1 := hid (h.cell 1 (by decide))
 have HML := hid (lt_blk h.box)
 clear hc h hgl
 obtain ⟨t, ht⟩ : ∃ t, t = tk T s.nx := ⟨_, rfl⟩
 have HT := hid ht
 rw [← ht] at HC
 obtain ⟨L, hL⟩ : ∃ L, L = T.length := ⟨_, rfl⟩
 have HLT := hid hL
 rw [← hL] at HC0 hnx htl
 obtain ⟨n, hn⟩ : ∃ n, n = s.nx := ⟨_, rfl⟩
 have HN := hid hn
 rw [← hn] at HC HC1 hnx
 clear hL hn
 have g1 : (n : Int) < (L : Int) := by omega
 have g0 : (0 : Int) ≤ (n : Int) := by omega
 have MS := hid (show ∀ Y, Below W.heap.size W Y → (fun Y => (Y.cell? ⟨mb, 0, none⟩ = some (.slice (some ⟨g, 0, none⟩) L cap) ∧ Y.cell? ⟨mb, 1, none⟩ = some (.int .i64 (n : Int))) ∧ Y.cell? ⟨g, n * 5, none⟩ = some (.int .i64 (t.kind : Int)) ∧ Y.cell? ⟨g, n * 5 + 1, none⟩ = some (.string t.text) ∧ Y.cell? ⟨g, n * 5 + 2, none⟩ = some (.int .i64 t.num) ∧ Y.cell? ⟨g, n * 5 + 3, none⟩ = some (.int .i64 (t.a : Int)) ∧ Y.cell? ⟨g, n * 5 + 4, none⟩ = some (.int .i64 (t.e : Int))) Y from fun Y hb => ⟨⟨(hb.cell (p := ⟨mb, 0, none⟩) HML.out).trans HC0.out, (hb.cell (p := ⟨mb, 1, none⟩) HML.out).trans HC1.out⟩, (hb.cell (p := ⟨g, n * 5, none⟩) HGL.out).trans (HC.out 0 (by decide)), (hb.cell (p := ⟨g, n * 5 + 1, none⟩) HGL.out).trans (HC.out 1 (by decide)), (hb.cell (p := ⟨g, n * 5 + 2, none⟩) HGL.out).trans (HC.out 2 (by decide)), (hb.cell (p := ⟨g, n * 5 + 3, none⟩) HGL.out).trans (HC.out 3 (by decide)), (hb.cell (p := ⟨g, n * 5 + 4, none⟩) HGL.out).trans (HC.out 4 (by decide))⟩)
 have hnl : (n : Int) + 1 ≤ 4098 := by omega
 clear ht
 unfold textP
 by_cases hk : t.kind = 1
 ·rw [← HT.out, if_pos hk]
  have HKD := hid (show (tk T s.nx).kind ≠ 0 by rw [← HT.out]; omega)
  have e1 : ((t.kind : Int) != 1) = false := by simp [hk]
  clear hk
  go_enter Tryz.func82, Tryz.ntmps82
  go_upto_region 1 with fail
  have HD := hid (show Below W.heap.size W W.drew from (Below.refl _ W).drew)
  refine wp_region_held_drew (S := (fun Y => (Y.cell? ⟨mb, 0, none⟩ = some (.slice (some ⟨g, 0, none⟩) L cap) ∧ Y.cell? ⟨mb, 1, none⟩ = some (.int .i64 (n : Int))) ∧ Y.cell? ⟨g, n * 5, none⟩ = some (.int .i64 (t.kind : Int)) ∧ Y.cell? ⟨g, n * 5 + 1, none⟩ = some (.string t.text) ∧ Y.cell? ⟨g, n * 5 + 2, none⟩ = some (.int .i64 t.num) ∧ Y.cell? ⟨g, n * 5 + 3, none⟩ = some (.int .i64 (t.a : Int)) ∧ Y.cell? ⟨g, n * 5 + 4, none⟩ = some (.int .i64 (t.e : Int)))) (by kernel_rfl) ?_ (fun hHeld => ?_)
  ·exact MS.out _ HD.out
  generalize W.drew = Z at *
  refine wpAnyH_take (i := 0) (v := ?_) rfl (by kernel_rfl) (by kernel_rfl) (by kernel_rfl) (fun _ _ _ h => h) (Or.inl ⟨by rfl, ?_⟩) (by assumption) ?_
  rotate_left
  ·(intro w hSw; (try dsimp only at hSw); go_simp; try with_reducible rfl)
  try simp only [Act.put, List.setIfInBounds_toArray, List.set_cons_zero, List.set_cons_succ]
  refine wpAnyH_take (i := 1) (v := ?_) rfl (by kernel_rfl) (by kernel_rfl) (by kernel_rfl) (fun _ _ _ h => h) (Or.inl ⟨by rfl, ?_⟩) (by assumption) ?_
  rotate_left
  ·(intro w hSw; (try dsimp only at hSw); go_simp; try with_reducible rfl)
  try simp only [Act.put, List.setIfInBounds_toArray, List.set_cons_zero, List.set_cons_succ]
  refine wpAnyH_take (i := 2) (v := ?_) rfl (by kernel_rfl) (by kernel_rfl) (by kernel_rfl) (fun _ _ _ h => h) (Or.inl ⟨by rfl, ?_⟩) (by assumption) ?_
  rotate_left
  ·(intro w hSw; (try dsimp only at hSw); go_simp; try with_reducible rfl)
  try simp only [Act.put, List.setIfInBounds_toArray, List.set_cons_zero, List.set_cons_succ]
  refine wpAnyH_take (i := 3) (v := ?_) rfl (by kernel_rfl) (by kernel_rfl) (by kernel_rfl) (fun _ _ _ h => h) (Or.inl ⟨by rfl, ?_⟩) (by assumption) ?_
  rotate_left
  ·(intro w hSw; (try dsimp only at hSw); go_simp; try with_reducible rfl)
  try simp only [Act.put, List.setIfInBounds_toArray, List.set_cons_zero, List.set_cons_succ]
  refine wpAnyH_take (i := 4) (v := ?_) rfl (by kernel_rfl) (by kernel_rfl) (by kernel_rfl) (fun _ _ _ h => h) (Or.inl ⟨by rfl, ?_⟩) (by assumption) ?_
  rotate_left
  ·(intro w hSw; (try dsimp only at hSw); go_simp; try with_reducible rfl)
  try simp only [Act.put, List.setIfInBounds_toArray, List.set_cons_zero, List.set_cons_succ]
  refine wpAnyH_take (i := 5) (v := ?_) rfl (by kernel_rfl) (by kernel_rfl) (by kernel_rfl) (fun _ _ _ h => h) (Or.inl ⟨by rfl, ?_⟩) (by assumption) ?_
  rotate_left
  ·(intro w hSw; (try dsimp only at hSw); go_simp; try with_reducible rfl)
  try simp only [Act.put, List.setIfInBounds_toArray, List.set_cons_zero, List.set_cons_succ]
  refine wpAnyH_take (i := 6) (v := ?_) rfl (by kernel_rfl) (by kernel_rfl) (by kernel_rfl) (fun _ _ _ h => h) (Or.inl ⟨by rfl, ?_⟩) (by assumption) ?_
  rotate_left
  ·(intro w hSw; (try dsimp only at hSw); go_simp; try with_reducible rfl)
  try simp only [Act.put, List.setIfInBounds_toArray, List.set_cons_zero, List.set_cons_succ]
  refine wpAnyH_take (i := 7) (v := ?_) rfl (by kernel_rfl) (by kernel_rfl) (by kernel_rfl) (fun _ _ _ h => h) (Or.inl ⟨by rfl, ?_⟩) (by assumption) ?_
  rotate_left
  ·(intro w hSw; (try dsimp only at hSw); go_simp; try with_reducible rfl)
  try simp only [Act.put, List.setIfInBounds_toArray, List.set_cons_zero, List.set_cons_succ]
  refine wpAnyH_take (i := 8) (v := ?_) rfl (by kernel_rfl) (by kernel_rfl) (by kernel_rfl) (fun _ _ _ h => h) (Or.inl ⟨by rfl, ?_⟩) (by assumption) ?_
  rotate_left
  ·(intro w hSw; (try dsimp only at hSw); go_simp; try with_reducible rfl)
  try simp only [Act.put, List.setIfInBounds_toArray, List.set_cons_zero, List.set_cons_succ]
  refine wpAnyH_take (i := 9) (v := ?_) rfl (by kernel_rfl) (by kernel_rfl) (by kernel_rfl) (fun _ _ _ h => h) (Or.inl ⟨by rfl, ?_⟩) (by assumption) ?_
  rotate_left
  ·(intro w hSw; (try dsimp only at hSw); go_simp; try with_reducible rfl)
  try simp only [Act.put, List.setIfInBounds_toArray, List.set_cons_zero, List.set_cons_succ]
  refine wpAnyH_ready (rs := [10]) (by kernel_rfl) (by simp) ?_
  refine AllReadyH.cons rfl (fun K hK => ?_) AllReadyH.nil
  go_simp
  refine hK.out _ _ ?_ (fun hHeld => ?_)
  ·exact MS.out _ (HD.out.trans ((belowA Z (.cells #[.int .i64 0, .string ⟨#[]⟩, .int .i64 0, .int .i64 0, .int .i64 0] 53)).mono HD.out.size))
  clear hK K
  try simp only [Act.put, List.setIfInBounds_toArray, List.set_cons_zero, List.set_cons_succ]
  have HXN := hid (heap_alloc_new Z (.cells #[.int .i64 0, .string ⟨#[]⟩, .int .i64 0, .int .i64 0, .int .i64 0] 53))
  have HBN := hid (HD.out.trans ((belowA Z (.cells #[.int .i64 0, .string ⟨#[]⟩, .int .i64 0, .int .i64 0, .int .i64 0] 53)).mono HD.out.size))
  have HGE := hid HD.out.size
  generalize Z.alloc (.cells #[.int .i64 0, .string ⟨#[]⟩, .int .i64 0, .int .i64 0, .int .i64 0] 53) = X at *
  clear HD
  generalize Z.heap.size = b at *
  refine wpAnyH_ready (rs := [11]) (by kernel_rfl) (by simp) ?_
  refine AllReadyH.cons rfl (fun K hK => ?_) AllReadyH.nil
  rw [if_pos (by rfl)]
  refine wp_store_row 53 _ _ rfl b #[.int .i64 (t.kind : Int), .string t.text, .int .i64 t.num, .int .i64 (t.a : Int), .int .i64 (t.e : Int)] rfl rfl 53 _ HXN.out infoTk rfl (by kernel_rfl) ?_
  refine hK.out _ _ ?_ (fun hHeld => ?_)
  ·exact MS.out _ (below_row HBN.out _ _ HGE.out)
  clear hK K hHeld
  try simp only [Act.put, List.setIfInBounds_toArray, List.set_cons_zero, List.set_cons_succ]
  refine wpAnyH_done (by kernel_rfl) ?_ _
  have HV := hid (setRow_heap X _ _ #[.int .i64 (t.kind : Int), .string t.text, .int .i64 t.num, .int .i64 (t.a : Int), .int .i64 (t.e : Int)] _ _ HXN.out)
  have HBV := hid (below_row HBN.out b #[.int .i64 (t.kind : Int), .string t.text, .int .i64 t.num, .int .i64 (t.a : Int), .int .i64 (t.e : Int)] HGE.out)
  generalize X.setRow b #[.int .i64 (t.kind : Int), .string t.text, .int .i64 t.num, .int .i64 (t.a : Int), .int .i64 (t.e : Int)] = V at *
  clear HXN HBN MS
  have ⟨x0, x1, x2, x3, x4⟩ := tk5 HV.out
  have HP1 := hid (HP.out.low HBV.out)
  have HF1 := hid (Fmm.of HBV.out HP.out.size)
  have c1 : V.cell? ⟨mb, 1, none⟩ = some (.int .i64 (n : Int)) := by rw [HN.out]; exact HP1.out.cell 1 (by decide)
  have f1 := frz_row HP1.out.box 1
  go_upto_region 6 with fail
  have HQ := hid (HP1.out.adv HKD.out)
  rw [← HN.out] at HQ
  have HNE := hid (show b ≠ mb from fun e => (by have h1 := HV.out; rw [e, HP1.out.box] at h1; injection h1 with h1; injection h1 with _ h5; exact absurd h5 (by decide)))
  have HV2 := hid ((set_oth HP1.out.box 1 (.int .i64 ((n : Int) + 1)) HNE.out).trans HV.out)
  generalize V.setCell ⟨mb, 1, none⟩ (.int .i64 ((n : Int) + 1)) = V2 at *
  clear x0 x1 x2 x3 x4 c1 f1
  have ⟨x0, x1, x2, x3, x4⟩ := tk5 HV2.out
  go_wp2_with fail
  (try simp only [Exit.inBlock, Exit.then])
  refine bodyPost_ret (results_tmp2 rfl _ _ _) rfl ⟨rfl, HQ.out.1, HF1.out.trans HQ.out.2⟩
 ·rw [← HT.out, if_neg hk, fcd_rf]
  have e1 : ((t.kind : Int) != 1) = true := by simp; omega
  clear hk
  go_enter Tryz.func82, Tryz.ntmps82
  go_upto_region 1 with fail
  have HD := hid (show Below W.heap.size W W.drew from (Below.refl _ W).drew)
  refine wp_region_held_drew (S := (fun Y => (Y.cell? ⟨mb, 0, none⟩ = some (.slice (some ⟨g, 0, none⟩) L cap) ∧ Y.cell? ⟨mb, 1, none⟩ = some (.int .i64 (n : Int))) ∧ Y.cell? ⟨g, n * 5, none⟩ = some (.int .i64 (t.kind : Int)) ∧ Y.cell? ⟨g, n * 5 + 1, none⟩ = some (.string t.text) ∧ Y.cell? ⟨g, n * 5 + 2, none⟩ = some (.int .i64 t.num) ∧ Y.cell? ⟨g, n * 5 + 3, none⟩ = some (.int .i64 (t.a : Int)) ∧ Y.cell? ⟨g, n * 5 + 4, none⟩ = some (.int .i64 (t.e : Int)))) (by kernel_rfl) ?_ (fun hHeld => ?_)
  ·exact MS.out _ HD.out
  generalize W.drew = Z at *
  refine wpAnyH_take (i := 0) (v := ?_) rfl (by kernel_rfl) (by kernel_rfl) (by kernel_rfl) (fun _ _ _ h => h) (Or.inl ⟨by rfl, ?_⟩) (by assumption) ?_
  rotate_left
  ·(intro w hSw; (try dsimp only at hSw); go_simp; try with_reducible rfl)
  try simp only [Act.put, List.setIfInBounds_toArray, List.set_cons_zero, List.set_cons_succ]
  refine wpAnyH_take (i := 1) (v := ?_) rfl (by kernel_rfl) (by kernel_rfl) (by kernel_rfl) (fun _ _ _ h => h) (Or.inl ⟨by rfl, ?_⟩) (by assumption) ?_
  rotate_left
  ·(intro w hSw; (try dsimp only at hSw); go_simp; try with_reducible rfl)
  try simp only [Act.put, List.setIfInBounds_toArray, List.set_cons_zero, List.set_cons_succ]
  refine wpAnyH_take (i := 2) (v := ?_) rfl (by kernel_rfl) (by kernel_rfl) (by kernel_rfl) (fun _ _ _ h => h) (Or.inl ⟨by rfl, ?_⟩) (by assumption) ?_
  rotate_left
  ·(intro w hSw; (try dsimp only at hSw); go_simp; try with_reducible rfl)
  try simp only [Act.put, List.setIfInBounds_toArray, List.set_cons_zero, List.set_cons_succ]
  refine wpAnyH_take (i := 3) (v := ?_) rfl (by kernel_rfl) (by kernel_rfl) (by kernel_rfl) (fun _ _ _ h => h) (Or.inl ⟨by rfl, ?_⟩) (by assumption) ?_
  rotate_left
  ·(intro w hSw; (try dsimp only at hSw); go_simp; try with_reducible rfl)
  try simp only [Act.put, List.setIfInBounds_toArray, List.set_cons_zero, List.set_cons_succ]
  refine wpAnyH_take (i := 4) (v := ?_) rfl (by kernel_rfl) (by kernel_rfl) (by kernel_rfl) (fun _ _ _ h => h) (Or.inl ⟨by rfl, ?_⟩) (by assumption) ?_
  rotate_left
  ·(intro w hSw; (try dsimp only at hSw); go_simp; try with_reducible rfl)
  try simp only [Act.put, List.setIfInBounds_toArray, List.set_cons_zero, List.set_cons_succ]
  refine wpAnyH_take (i := 5) (v := ?_) rfl (by kernel_rfl) (by kernel_rfl) (by kernel_rfl) (fun _ _ _ h => h) (Or.inl ⟨by rfl, ?_⟩) (by assumption) ?_
  rotate_left
  ·(intro w hSw; (try dsimp only at hSw); go_simp; try with_reducible rfl)
  try simp only [Act.put, List.setIfInBounds_toArray, List.set_cons_zero, List.set_cons_succ]
  refine wpAnyH_take (i := 6) (v := ?_) rfl (by kernel_rfl) (by kernel_rfl) (by kernel_rfl) (fun _ _ _ h => h) (Or.inl ⟨by rfl, ?_⟩) (by assumption) ?_
  rotate_left
  ·(intro w hSw; (try dsimp only at hSw); go_simp; try with_reducible rfl)
  try simp only [Act.put, List.setIfInBounds_toArray, List.set_cons_zero, List.set_cons_succ]
  refine wpAnyH_take (i := 7) (v := ?_) rfl (by kernel_rfl) (by kernel_rfl) (by kernel_rfl) (fun _ _ _ h => h) (Or.inl ⟨by rfl, ?_⟩) (by assumption) ?_
  rotate_left
  ·(intro w hSw; (try dsimp only at hSw); go_simp; try with_reducible rfl)
  try simp only [Act.put, List.setIfInBounds_toArray, List.set_cons_zero, List.set_cons_succ]
  refine wpAnyH_take (i := 8) (v := ?_) rfl (by kernel_rfl) (by kernel_rfl) (by kernel_rfl) (fun _ _ _ h => h) (Or.inl ⟨by rfl, ?_⟩) (by assumption) ?_
  rotate_left
  ·(intro w hSw; (try dsimp only at hSw); go_simp; try with_reducible rfl)
  try simp only [Act.put, List.setIfInBounds_toArray, List.set_cons_zero, List.set_cons_succ]
  refine wpAnyH_take (i := 9) (v := ?_) rfl (by kernel_rfl) (by kernel_rfl) (by kernel_rfl) (fun _ _ _ h => h) (Or.inl ⟨by rfl, ?_⟩) (by assumption) ?_
  rotate_left
  ·(intro w hSw; (try dsimp only at hSw); go_simp; try with_reducible rfl)
  try simp only [Act.put, List.setIfInBounds_toArray, List.set_cons_zero, List.set_cons_succ]
  refine wpAnyH_ready (rs := [10]) (by kernel_rfl) (by simp) ?_
  refine AllReadyH.cons rfl (fun K hK => ?_) AllReadyH.nil
  go_simp
  refine hK.out _ _ ?_ (fun hHeld => ?_)
  ·exact MS.out _ (HD.out.trans ((belowA Z (.cells #[.int .i64 0, .string ⟨#[]⟩, .int .i64 0, .int .i64 0, .int .i64 0] 53)).mono HD.out.size))
  clear hK K
  try simp only [Act.put, List.setIfInBounds_toArray, List.set_cons_zero, List.set_cons_succ]
  have HXN := hid (heap_alloc_new Z (.cells #[.int .i64 0, .string ⟨#[]⟩, .int .i64 0, .int .i64 0, .int .i64 0] 53))
  have HBN := hid (HD.out.trans ((belowA Z (.cells #[.int .i64 0, .string ⟨#[]⟩, .int .i64 0, .int .i64 0, .int .i64 0] 53)).mono HD.out.size))
  have HGE := hid HD.out.size
  generalize Z.alloc (.cells #[.int .i64 0, .string ⟨#[]⟩, .int .i64 0, .int .i64 0, .int .i64 0] 53) = X at *
  clear HD
  generalize Z.heap.size = b at *
  refine wpAnyH_ready (rs := [11]) (by kernel_rfl) (by simp) ?_
  refine AllReadyH.cons rfl (fun K hK => ?_) AllReadyH.nil
  rw [if_pos (by rfl)]
  refine wp_store_row 53 _ _ rfl b #[.int .i64 (t.kind : Int), .string t.text, .int .i64 t.num, .int .i64 (t.a : Int), .int .i64 (t.e : Int)] rfl rfl 53 _ HXN.out infoTk rfl (by kernel_rfl) ?_
  refine hK.out _ _ ?_ (fun hHeld => ?_)
  ·exact MS.out _ (below_row HBN.out _ _ HGE.out)
  clear hK K hHeld
  try simp only [Act.put, List.setIfInBounds_toArray, List.set_cons_zero, List.set_cons_succ]
  refine wpAnyH_done (by kernel_rfl) ?_ _
  have HV := hid (setRow_heap X _ _ #[.int .i64 (t.kind : Int), .string t.text, .int .i64 t.num, .int .i64 (t.a : Int), .int .i64 (t.e : Int)] _ _ HXN.out)
  have HBV := hid (below_row HBN.out b #[.int .i64 (t.kind : Int), .string t.text, .int .i64 t.num, .int .i64 (t.a : Int), .int .i64 (t.e : Int)] HGE.out)
  generalize X.setRow b #[.int .i64 (t.kind : Int), .string t.text, .int .i64 t.num, .int .i64 (t.a : Int), .int .i64 (t.e : Int)] = V at *
  clear HXN HBN MS
  have ⟨x0, x1, x2, x3, x4⟩ := tk5 HV.out
  have HP1 := hid (HP.out.low HBV.out)
  have HF1 := hid (Fmm.of HBV.out HP.out.size)
  go_wp2_with fail
  refine (mfail_any HP1.out 120).mono ?_
  rintro e W2 ⟨rfl, h2, h3⟩
  have HP2 := hid h2
  have HF2 := hid (HF1.out.trans h3)
  clear h2 h3
  go_wp2_with fail
  (try simp only [Exit.inBlock, Exit.then])
  refine bodyPost_ret (results_tmp2 rfl _ _ _) rfl ⟨rfl, ⟨_, HP2.out⟩, HF2.out⟩
end Go.Proofs.YtcldglilhhhdoaaGreatDoor.L
