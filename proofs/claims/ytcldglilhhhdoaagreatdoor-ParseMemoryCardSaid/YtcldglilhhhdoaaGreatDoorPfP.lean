import Derived.Test.YtcldglilhhhdoaaGreatDoorPfM
import Derived.Test.YtcldglilhhhdoaaGreatDoorPfN
import Derived.Test.YtcldglilhhhdoaaGreatDoorPfO
namespace Go.Proofs.YtcldglilhhhdoaaGreatDoor.L
open Go.RowKit
set_option linter.unusedVariables false
set_option linter.unusedSimpArgs false
set_option maxHeartbeats 16000000 in
set_option maxRecDepth 100000 in
theorem mterm_any {mb B : Nat} {tv : Value} {T : List Tok} {W : World} {s : PS} {ws : List Wn} {fr : List Int} {fl : Array Value} {wv v o f : Value} {ks : Nat → Value} (h : MM mb B tv T W s ws fr fl wv v o f ks) (hf1 : fr.length ≤ 90000) (hp1 : s.ps.length ≤ 90000) (ho1 : s.os.length ≤ 90000) (hl : ws.length ≤ 900) : Calls Tryz.prog 41 #[.pointer (some ⟨mb, 0, none⟩)] W fun e W' => e = .returned (.tuple #[]) ∧ Pst mb B tv T ws fl (termM T s fr) W' ∧ Fmm B W W' := by
 obtain ⟨N, hN⟩ : ∃ N, N = fr.length := ⟨_, rfl⟩
 have HNN := hid hN
 obtain ⟨fa, fc, hf⟩ := own_form h.free
 rw [← hN] at hf
 have HFE := hid hf
 have hNm : N ≤ maxLen := by rw [hN]; unfold maxLen; omega
 obtain ⟨g, cap, rfl, hgl, hc⟩ := h.tokc
 have hnx := h.nx
 have htl := h.tl
 have HP := hid h
 have HC := hid (fun r (hr : r < 5) => hc s.nx r hnx hr)
 have HGL := hid hgl
 have HC0 := hid (h.cell 0 (by decide))
 have HC1 := hid (h.cell 1 (by decide))
 have HML := hid (lt_blk h.box)
 clear hc h hgl
 obtain ⟨t, ht⟩ : ∃ t, t = tk T s.nx := ⟨_, rfl⟩
 have HT := hid ht
 rw [← ht] at HC
 obtain ⟨L, hL⟩ : ∃ L, L = T.length := ⟨_, rfl⟩
 have HLT := hid hL
 rw [← hL] at HC0 hnx htl
 obtain ⟨n, hn⟩ : ∃ n, n = s.nx := ⟨_, rfl⟩
 have HN := hid hn
 rw [← hn] at HC HC1 hnx
 clear hL hn
 have g1 : (n : Int) < (L : Int) := by omega
 have g0 : (0 : Int) ≤ (n : Int) := by omega
 have MS := hid (show ∀ Y, Below W.heap.size W Y → (fun Y => (Y.cell? ⟨mb, 0, none⟩ = some (.slice (some ⟨g, 0, none⟩) L cap) ∧ Y.cell? ⟨mb, 1, none⟩ = some (.int .i64 (n : Int))) ∧ Y.cell? ⟨g, n * 5, none⟩ = some (.int .i64 (t.kind : Int)) ∧ Y.cell? ⟨g, n * 5 + 1, none⟩ = some (.string t.text) ∧ Y.cell? ⟨g, n * 5 + 2, none⟩ = some (.int .i64 t.num) ∧ Y.cell? ⟨g, n * 5 + 3, none⟩ = some (.int .i64 (t.a : Int)) ∧ Y.cell? ⟨g, n * 5 + 4, none⟩ = some (.int .i64 (t.e : Int))) Y from fun Y hb => ⟨⟨(hb.cell (p := ⟨mb, 0, none⟩) HML.out).trans HC0.out, (hb.cell (p := ⟨mb, 1, none⟩) HML.out).trans HC1.out⟩, (hb.cell (p := ⟨g, n * 5, none⟩) HGL.out).trans (HC.out 0 (by decide)), (hb.cell (p := ⟨g, n * 5 + 1, none⟩) HGL.out).trans (HC.out 1 (by decide)), (hb.cell (p := ⟨g, n * 5 + 2, none⟩) HGL.out).trans (HC.out 2 (by decide)), (hb.cell (p := ⟨g, n * 5 + 3, none⟩) HGL.out).trans (HC.out 3 (by decide)), (hb.cell (p := ⟨g, n * 5 + 4, none⟩) HGL.out).trans (HC.out 4 (by decide))⟩)
 clear ht hf hN
 go_enter Tryz.func41, Tryz.ntmps41
 go_upto_region 0 with fail
 have HD := hid (show Below W.heap.size W W.drew from (Below.refl _ W).drew)
 refine wp_region_held_drew (S := (fun Y => (Y.cell? ⟨mb, 0, none⟩ = some (.slice (some ⟨g, 0, none⟩) L cap) ∧ Y.cell? ⟨mb, 1, none⟩ = some (.int .i64 (n : Int))) ∧ Y.cell? ⟨g, n * 5, none⟩ = some (.int .i64 (t.kind : Int)) ∧ Y.cell? ⟨g, n * 5 + 1, none⟩ = some (.string t.text) ∧ Y.cell? ⟨g, n * 5 + 2, none⟩ = some (.int .i64 t.num) ∧ Y.cell? ⟨g, n * 5 + 3, none⟩ = some (.int .i64 (t.a : Int)) ∧ Y.cell? ⟨g, n * 5 + 4, none⟩ = some (.int .i64 (t.e : Int)))) (by kernel_rfl) ?_ (fun hHeld => ?_)
 ·exact MS.out _ HD.out
 generalize W.drew = Z at *
 refine wpAnyH_take (i := 0) (v := ?_) rfl (by kernel_rfl) (by kernel_rfl) (by kernel_rfl) (fun _ _ _ h => h) (Or.inl ⟨by rfl, ?_⟩) (by assumption) ?_
 rotate_left
 ·(intro w hSw; (try dsimp only at hSw); go_simp; try with_reducible rfl)
 try simp only [Act.put, List.setIfInBounds_toArray, List.set_cons_zero, List.set_cons_succ]
 refine wpAnyH_take (i := 1) (v := ?_) rfl (by kernel_rfl) (by kernel_rfl) (by kernel_rfl) (fun _ _ _ h => h) (Or.inl ⟨by rfl, ?_⟩) (by assumption) ?_
 rotate_left
 ·(intro w hSw; (try dsimp only at hSw); go_simp; try with_reducible rfl)
 try simp only [Act.put, List.setIfInBounds_toArray, List.set_cons_zero, List.set_cons_succ]
 refine wpAnyH_take (i := 2) (v := ?_) rfl (by kernel_rfl) (by kernel_rfl) (by kernel_rfl) (fun _ _ _ h => h) (Or.inl ⟨by rfl, ?_⟩) (by assumption) ?_
 rotate_left
 ·(intro w hSw; (try dsimp only at hSw); go_simp; try with_reducible rfl)
 try simp only [Act.put, List.setIfInBounds_toArray, List.set_cons_zero, List.set_cons_succ]
 refine wpAnyH_take (i := 3) (v := ?_) rfl (by kernel_rfl) (by kernel_rfl) (by kernel_rfl) (fun _ _ _ h => h) (Or.inl ⟨by rfl, ?_⟩) (by assumption) ?_
 rotate_left
 ·(intro w hSw; (try dsimp only at hSw); go_simp; try with_reducible rfl)
 try simp only [Act.put, List.setIfInBounds_toArray, List.set_cons_zero, List.set_cons_succ]
 refine wpAnyH_take (i := 4) (v := ?_) rfl (by kernel_rfl) (by kernel_rfl) (by kernel_rfl) (fun _ _ _ h => h) (Or.inl ⟨by rfl, ?_⟩) (by assumption) ?_
 rotate_left
 ·(intro w hSw; (try dsimp only at hSw); go_simp; try with_reducible rfl)
 try simp only [Act.put, List.setIfInBounds_toArray, List.set_cons_zero, List.set_cons_succ]
 refine wpAnyH_take (i := 5) (v := ?_) rfl (by kernel_rfl) (by kernel_rfl) (by kernel_rfl) (fun _ _ _ h => h) (Or.inl ⟨by rfl, ?_⟩) (by assumption) ?_
 rotate_left
 ·(intro w hSw; (try dsimp only at hSw); go_simp; try with_reducible rfl)
 try simp only [Act.put, List.setIfInBounds_toArray, List.set_cons_zero, List.set_cons_succ]
 refine wpAnyH_take (i := 6) (v := ?_) rfl (by kernel_rfl) (by kernel_rfl) (by kernel_rfl) (fun _ _ _ h => h) (Or.inl ⟨by rfl, ?_⟩) (by assumption) ?_
 rotate_left
 ·(intro w hSw; (try dsimp only at hSw); go_simp; try with_reducible rfl)
 try simp only [Act.put, List.setIfInBounds_toArray, List.set_cons_zero, List.set_cons_succ]
 refine wpAnyH_take (i := 7) (v := ?_) rfl (by kernel_rfl) (by kernel_rfl) (by kernel_rfl) (fun _ _ _ h => h) (Or.inl ⟨by rfl, ?_⟩) (by assumption) ?_
 rotate_left
 ·(intro w hSw; (try dsimp only at hSw); go_simp; try with_reducible rfl)
 try simp only [Act.put, List.setIfInBounds_toArray, List.set_cons_zero, List.set_cons_succ]
 refine wpAnyH_take (i := 8) (v := ?_) rfl (by kernel_rfl) (by kernel_rfl) (by kernel_rfl) (fun _ _ _ h => h) (Or.inl ⟨by rfl, ?_⟩) (by assumption) ?_
 rotate_left
 ·(intro w hSw; (try dsimp only at hSw); go_simp; try with_reducible rfl)
 try simp only [Act.put, List.setIfInBounds_toArray, List.set_cons_zero, List.set_cons_succ]
 refine wpAnyH_take (i := 9) (v := ?_) rfl (by kernel_rfl) (by kernel_rfl) (by kernel_rfl) (fun _ _ _ h => h) (Or.inl ⟨by rfl, ?_⟩) (by assumption) ?_
 rotate_left
 ·(intro w hSw; (try dsimp only at hSw); go_simp; try with_reducible rfl)
 try simp only [Act.put, List.setIfInBounds_toArray, List.set_cons_zero, List.set_cons_succ]
 refine wpAnyH_ready (rs := [10]) (by kernel_rfl) (by simp) ?_
 refine AllReadyH.cons rfl (fun K hK => ?_) AllReadyH.nil
 go_simp
 refine hK.out _ _ ?_ (fun hHeld => ?_)
 ·exact MS.out _ (HD.out.trans ((belowA Z (.cells #[.int .i64 0, .string ⟨#[]⟩, .int .i64 0, .int .i64 0, .int .i64 0] 53)).mono HD.out.size))
 clear hK K
 try simp only [Act.put, List.setIfInBounds_toArray, List.set_cons_zero, List.set_cons_succ]
 have HXN := hid (heap_alloc_new Z (.cells #[.int .i64 0, .string ⟨#[]⟩, .int .i64 0, .int .i64 0, .int .i64 0] 53))
 have HBN := hid (HD.out.trans ((belowA Z (.cells #[.int .i64 0, .string ⟨#[]⟩, .int .i64 0, .int .i64 0, .int .i64 0] 53)).mono HD.out.size))
 have HGE := hid HD.out.size
 generalize Z.alloc (.cells #[.int .i64 0, .string ⟨#[]⟩, .int .i64 0, .int .i64 0, .int .i64 0] 53) = X at *
 clear HD
 generalize Z.heap.size = b at *
 refine wpAnyH_ready (rs := [11]) (by kernel_rfl) (by simp) ?_
 refine AllReadyH.cons rfl (fun K hK => ?_) AllReadyH.nil
 rw [if_pos (by rfl)]
 refine wp_store_row 53 _ _ rfl b #[.int .i64 (t.kind : Int), .string t.text, .int .i64 t.num, .int .i64 (t.a : Int), .int .i64 (t.e : Int)] rfl rfl 53 _ HXN.out infoTk rfl (by kernel_rfl) ?_
 refine hK.out _ _ ?_ (fun hHeld => ?_)
 ·exact MS.out _ (below_row HBN.out _ _ HGE.out)
 clear hK K hHeld
 try simp only [Act.put, List.setIfInBounds_toArray, List.set_cons_zero, List.set_cons_succ]
 refine wpAnyH_done (by kernel_rfl) ?_ _
 have HV := hid (setRow_heap X _ _ #[.int .i64 (t.kind : Int), .string t.text, .int .i64 t.num, .int .i64 (t.a : Int), .int .i64 (t.e : Int)] _ _ HXN.out)
 have HBV := hid (below_row HBN.out b #[.int .i64 (t.kind : Int), .string t.text, .int .i64 t.num, .int .i64 (t.a : Int), .int .i64 (t.e : Int)] HGE.out)
 generalize X.setRow b #[.int .i64 (t.kind : Int), .string t.text, .int .i64 t.num, .int .i64 (t.a : Int), .int .i64 (t.e : Int)] = V at *
 clear HXN HBN MS
 have ⟨x0, x1, x2, x3, x4⟩ := tk5 HV.out
 have HP0 := hid (HP.out.low HBV.out)
 have HF0 := hid (Fmm.of HBV.out HP.out.size)
 go_wp2_with fail
 refine (mmark_any HP0.out ⟨#[123]⟩).mono ?_
 rintro e Y1 ⟨rfl, l⟩
 have HM1 := hid (HP0.out.low l)
 have HG1 := hid (HF0.out.trans (Fmm.of l HP0.out.size))
 have HL1 := hid l
 clear l
 obtain ⟨mk, hmk⟩ : ∃ b : Bool, b = (decide ((tk T s.nx).kind = 4) && decide ((tk T s.nx).text.toList = (⟨#[123]⟩ : ByteArray).toList)) := ⟨_, rfl⟩
 rw [← hmk]
 have HVmk := hid hmk
 clear hmk
 have HV1 := hid ((HL1.out.block _ (lt_blk HV.out)).trans HV.out)
 clear x0 x1 x2 x3 x4
 have ⟨x0, x1, x2, x3, x4⟩ := tk5 HV1.out
 by_cases hel : isEl t = true
 ·rcases isel_k hel with hk | hk
  ·have HKD := hid (show (tk T s.nx).kind ≠ 0 by rw [← HT.out]; omega)
   have HEQ := hid (show termM T s fr = lv fr (putP (Go.Proofs.YtcldglilhhhdoaaGreatDoor.L.adv s) ⟨11, t.text, 0, []⟩ (t.a : Int)) by unfold termM; rw [← HT.out, if_pos hel]; unfold elP; rw [← HT.out, if_pos hk])
   have e1 : ((t.kind : Int) == 1) = true := by simp [hk]
   have e2 : ((t.kind : Int) == 2) = false := by simp [hk]
   have e3 : ((t.kind : Int) == 3) = false := by simp [hk]
   have hm : isM T s [123] ≠ true := fun h => by unfold isM at h; rw [← HT.out, hk] at h; simp at h
   have HMK := hid (show (decide ((tk T s.nx).kind = 4) && decide ((tk T s.nx).text.toList = (⟨#[123]⟩ : ByteArray).toList)) = false by rw [show (⟨#[123]⟩ : ByteArray).toList = [123] from ByteArray.toList_eq _]; exact Bool.eq_false_iff.2 hm)
   rw [HMK.out] at HVmk
   obtain rfl := HVmk.out
   clear hk hm hel
   have hnl : (s.nx : Int) + 1 ≤ 4098 := by have h8 := HM1.out.nx; have h9 := HM1.out.tl; omega
   have c1 : Y1.cell? ⟨mb, 1, none⟩ = some (.int .i64 (s.nx : Int)) := HM1.out.cell 1 (by decide)
   have f1 := frz_row HM1.out.box 1
   go_upto_region 5 with (fail)
   have HQ := hid (HM1.out.adv HKD.out)
   have HNE := hid (show b ≠ mb from fun e => (by have h1 := HV1.out; rw [e, HM1.out.box] at h1; injection h1 with h1; injection h1 with _ h5; exact absurd h5 (by decide)))
   have HV2 := hid ((set_oth HM1.out.box 1 (.int .i64 ((s.nx : Int) + 1)) HNE.out).trans HV1.out)
   have HM2 := hid HQ.out.1
   have HG2 := hid (HG1.out.trans HQ.out.2)
   generalize Y1.setCell ⟨mb, 1, none⟩ (.int .i64 ((s.nx : Int) + 1)) = Y2 at *
   clear x0 x1 x2 x3 x4 c1 f1
   have ⟨x0, x1, x2, x3, x4⟩ := tk5 HV2.out
   go_wp2_with fail
   refine (mleaf_any HM2.out 11 0 (t.a : Int) t.text (by omega) (by show s.ps.length ≤ _; omega) (by show s.os.length ≤ _; omega)).mono ?_
   rintro e Y3 ⟨rfl, ⟨v9, o9, f9, k9, h8⟩, h9⟩
   have HE := hid h8
   have HG3 := hid (HG2.out.trans h9)
   clear h8 h9
   go_wp2_with fail
   exact ⟨rfl, .tuple #[], by first | rfl | kernel_rfl, rfl, pst_eq HEQ.out ⟨_, _, _, _, _, HE.out⟩, HG3.out⟩
  ·have HKD := hid (show (tk T s.nx).kind ≠ 0 by rw [← HT.out]; omega)
   have HEQ := hid (show termM T s fr = lv fr (putP (Go.Proofs.YtcldglilhhhdoaaGreatDoor.L.adv s) ⟨12, ⟨#[]⟩, t.num, []⟩ (t.a : Int)) by unfold termM; rw [← HT.out, if_pos hel]; unfold elP; rw [← HT.out, if_neg (by omega)])
   have e1 : ((t.kind : Int) == 1) = false := by simp [hk]
   have e2 : ((t.kind : Int) == 2) = true := by simp [hk]
   have e3 : ((t.kind : Int) == 3) = false := by simp [hk]
   have hm : isM T s [123] ≠ true := fun h => by unfold isM at h; rw [← HT.out, hk] at h; simp at h
   have HMK := hid (show (decide ((tk T s.nx).kind = 4) && decide ((tk T s.nx).text.toList = (⟨#[123]⟩ : ByteArray).toList)) = false by rw [show (⟨#[123]⟩ : ByteArray).toList = [123] from ByteArray.toList_eq _]; exact Bool.eq_false_iff.2 hm)
   rw [HMK.out] at HVmk
   obtain rfl := HVmk.out
   clear hk hm hel
   have hnl : (s.nx : Int) + 1 ≤ 4098 := by have h8 := HM1.out.nx; have h9 := HM1.out.tl; omega
   have c1 : Y1.cell? ⟨mb, 1, none⟩ = some (.int .i64 (s.nx : Int)) := HM1.out.cell 1 (by decide)
   have f1 := frz_row HM1.out.box 1
   go_upto_region 8 with (fail)
   have HQ := hid (HM1.out.adv HKD.out)
   have HNE := hid (show b ≠ mb from fun e => (by have h1 := HV1.out; rw [e, HM1.out.box] at h1; injection h1 with h1; injection h1 with _ h5; exact absurd h5 (by decide)))
   have HV2 := hid ((set_oth HM1.out.box 1 (.int .i64 ((s.nx : Int) + 1)) HNE.out).trans HV1.out)
   have HM2 := hid HQ.out.1
   have HG2 := hid (HG1.out.trans HQ.out.2)
   generalize Y1.setCell ⟨mb, 1, none⟩ (.int .i64 ((s.nx : Int) + 1)) = Y2 at *
   clear x0 x1 x2 x3 x4 c1 f1
   have ⟨x0, x1, x2, x3, x4⟩ := tk5 HV2.out
   go_wp2_with fail
   refine (mleaf_any HM2.out 12 t.num (t.a : Int) ⟨#[]⟩ (by omega) (by show s.ps.length ≤ _; omega) (by show s.os.length ≤ _; omega)).mono ?_
   rintro e Y3 ⟨rfl, ⟨v9, o9, f9, k9, h8⟩, h9⟩
   have HE := hid h8
   have HG3 := hid (HG2.out.trans h9)
   clear h8 h9
   go_wp2_with fail
   exact ⟨rfl, .tuple #[], by first | rfl | kernel_rfl, rfl, pst_eq HEQ.out ⟨_, _, _, _, _, HE.out⟩, HG3.out⟩
 ·have HEL := hid hel
  have hn1 : t.kind ≠ 1 := fun h => hel (by unfold isEl; simp [h])
  have hn2 : t.kind ≠ 2 := fun h => hel (by unfold isEl; simp [h])
  clear hel
  have e1 : ((t.kind : Int) == 1) = false := by simp; omega
  have e2 : ((t.kind : Int) == 2) = false := by simp; omega
  clear hn1 hn2
  by_cases hm : isM T s [123] = true
  ·have HEQ := hid (show termM T s fr = lv fr (setP T s) by unfold termM; rw [← HT.out, if_neg HEL.out, if_pos hm])
   have HMK := hid (show (decide ((tk T s.nx).kind = 4) && decide ((tk T s.nx).text.toList = (⟨#[123]⟩ : ByteArray).toList)) = true by rw [show (⟨#[123]⟩ : ByteArray).toList = [123] from ByteArray.toList_eq _]; exact hm)
   rw [HMK.out] at HVmk
   obtain rfl := HVmk.out
   have HIM := hid hm
   clear hm
   go_wp2_with fail
   refine (mset_any HM1.out HIM.out (by omega) (by omega) (by omega)).mono ?_
   rintro e Y2 ⟨rfl, h8, h9⟩
   have HE := hid (pst_ls h8)
   have HG2 := hid (HG1.out.trans h9)
   clear h8 h9
   go_wp2_with fail
   exact ⟨rfl, .tuple #[], by first | rfl | kernel_rfl, rfl, pst_eq HEQ.out HE.out, HG2.out⟩
  ·have HNM := hid hm
   have HMK := hid (show (decide ((tk T s.nx).kind = 4) && decide ((tk T s.nx).text.toList = (⟨#[123]⟩ : ByteArray).toList)) = false by rw [show (⟨#[123]⟩ : ByteArray).toList = [123] from ByteArray.toList_eq _]; exact Bool.eq_false_iff.2 hm)
   rw [HMK.out] at HVmk
   obtain rfl := HVmk.out
   clear hm
   by_cases hk : t.kind = 3
   ·have e3 : ((t.kind : Int) == 3) = true := by simp [hk]
    by_cases hx : t.text.toList = [110, 111, 100, 101]
    ·have HEQ := hid (show termM T s fr = lv fr (whoP T s 2) by unfold termM; rw [← HT.out, ← HNN.out, if_neg HEL.out, if_neg HNM.out, if_pos hk, if_pos hx])
     have t0 := beq_t hx
     have HKD := hid (show (tk T s.nx).kind ≠ 0 by rw [← HT.out]; omega)
     clear hx hk
     go_wp2_with fail
     refine (mwho_any HM1.out 2 HKD.out (by omega) (by omega) (by omega)).mono ?_
     rintro e Y2 ⟨rfl, h8, h9⟩
     have HE := hid (pst_lv h8)
     have HG2 := hid (HG1.out.trans h9)
     clear h8 h9
     go_wp2_with fail
     exact ⟨rfl, .tuple #[], by first | rfl | kernel_rfl, rfl, pst_eq HEQ.out HE.out, HG2.out⟩
    ·have HX0 := hid hx
     have t0 := beq_f hx
     clear hx
     by_cases hx : t.text.toList = [112, 111, 100]
     ·have HEQ := hid (show termM T s fr = lv fr (whoP T s 1) by unfold termM; rw [← HT.out, ← HNN.out, if_neg HEL.out, if_neg HNM.out, if_pos hk, if_neg HX0.out, if_pos hx])
      have t1 := beq_t hx
      have HKD := hid (show (tk T s.nx).kind ≠ 0 by rw [← HT.out]; omega)
      clear hx hk
      go_wp2_with fail
      refine (mwho_any HM1.out 1 HKD.out (by omega) (by omega) (by omega)).mono ?_
      rintro e Y2 ⟨rfl, h8, h9⟩
      have HE := hid (pst_lv h8)
      have HG2 := hid (HG1.out.trans h9)
      clear h8 h9
      go_wp2_with fail
      exact ⟨rfl, .tuple #[], by first | rfl | kernel_rfl, rfl, pst_eq HEQ.out HE.out, HG2.out⟩
     ·have HX1 := hid hx
      have t1 := beq_f hx
      clear hx
      by_cases hx : t.text.toList = [105, 116]
      ·have HEQ := hid (show termM T s fr = lv fr (whoP T s 3) by unfold termM; rw [← HT.out, ← HNN.out, if_neg HEL.out, if_neg HNM.out, if_pos hk, if_neg HX0.out, if_neg HX1.out, if_pos hx])
       have t2 := beq_t hx
       have HKD := hid (show (tk T s.nx).kind ≠ 0 by rw [← HT.out]; omega)
       clear hx hk
       go_wp2_with fail
       refine (mwho_any HM1.out 3 HKD.out (by omega) (by omega) (by omega)).mono ?_
       rintro e Y2 ⟨rfl, h8, h9⟩
       have HE := hid (pst_lv h8)
       have HG2 := hid (HG1.out.trans h9)
       clear h8 h9
       go_wp2_with fail
       exact ⟨rfl, .tuple #[], by first | rfl | kernel_rfl, rfl, pst_eq HEQ.out HE.out, HG2.out⟩
      ·have HX2 := hid hx
       have t2 := beq_f hx
       clear hx
       by_cases hx : t.text.toList = [105, 110, 116]
       ·have HE0 := hid (show termM T s fr = bnd (openP T (Go.Proofs.YtcldglilhhhdoaaGreatDoor.L.adv s) [40]) fun _ s1 => .ok (([awt 6, awt 8, ⟨10, 19, (t.a : Int), ⟨#[]⟩, 0, N⟩], fr), s1) by unfold termM; rw [← HT.out, ← HNN.out, if_neg HEL.out, if_neg HNM.out, if_pos hk, if_neg HX0.out, if_neg HX1.out, if_neg HX2.out, if_pos hx])
        have t3 := beq_t hx
        have HKD := hid (show (tk T s.nx).kind ≠ 0 by rw [← HT.out]; omega)
        clear hx hk
        cases h1 : openP T (Go.Proofs.YtcldglilhhhdoaaGreatDoor.L.adv s) [40] with
        | error q =>
         obtain ⟨c, x⟩ := q
         have HR1 := hid h1
         have HEQ := hid (HE0.out.trans (by rw [h1]; rfl : _ = (.error (c, x) : MR)))
         clear h1
         have hnl : (s.nx : Int) + 1 ≤ 4098 := by have h8 := HM1.out.nx; have h9 := HM1.out.tl; omega
         have c1 : Y1.cell? ⟨mb, 1, none⟩ = some (.int .i64 (s.nx : Int)) := HM1.out.cell 1 (by decide)
         have f1 := frz_row HM1.out.box 1
         go_upto_region 19 with (fail)
         have HQ := hid (HM1.out.adv HKD.out)
         have HNE := hid (show b ≠ mb from fun e => (by have h1 := HV1.out; rw [e, HM1.out.box] at h1; injection h1 with h1; injection h1 with _ h5; exact absurd h5 (by decide)))
         have HV2 := hid ((set_oth HM1.out.box 1 (.int .i64 ((s.nx : Int) + 1)) HNE.out).trans HV1.out)
         have HM2 := hid HQ.out.1
         have HG2 := hid (HG1.out.trans HQ.out.2)
         generalize Y1.setCell ⟨mb, 1, none⟩ (.int .i64 ((s.nx : Int) + 1)) = Y2 at *
         clear x0 x1 x2 x3 x4 c1 f1
         have ⟨x0, x1, x2, x3, x4⟩ := tk5 HV2.out
         go_wp2_with fail
         refine (mtopen_any HM2.out).mono ?_
         rintro e Y3 hh
         rw [HR1.out] at hh
         obtain ⟨rfl, h8, h9⟩ := hh
         have HM3 := hid h8
         have HG3 := hid (HG2.out.trans h9)
         clear h8 h9
         go_wp2_with fail
         obtain ⟨s9, h9⟩ := HM3.out
         exact ⟨rfl, .tuple #[], by first | rfl | kernel_rfl, rfl, pst_eq HEQ.out ⟨_, _, _, _, _, _, _, _, h9⟩, HG3.out⟩
        | ok q =>
         obtain ⟨u1, s1⟩ := q
         have HR1 := hid h1
         have HEQ := hid (HE0.out.trans (by rw [h1]; rfl : _ = (.ok (([awt 6, awt 8, ⟨10, 19, (t.a : Int), ⟨#[]⟩, 0, N⟩], fr), s1) : MR)))
         clear h1
         have hnl : (s.nx : Int) + 1 ≤ 4098 := by have h8 := HM1.out.nx; have h9 := HM1.out.tl; omega
         have c1 : Y1.cell? ⟨mb, 1, none⟩ = some (.int .i64 (s.nx : Int)) := HM1.out.cell 1 (by decide)
         have f1 := frz_row HM1.out.box 1
         go_upto_region 19 with (fail)
         have HQ := hid (HM1.out.adv HKD.out)
         have HNE := hid (show b ≠ mb from fun e => (by have h1 := HV1.out; rw [e, HM1.out.box] at h1; injection h1 with h1; injection h1 with _ h5; exact absurd h5 (by decide)))
         have HV2 := hid ((set_oth HM1.out.box 1 (.int .i64 ((s.nx : Int) + 1)) HNE.out).trans HV1.out)
         have HM2 := hid HQ.out.1
         have HG2 := hid (HG1.out.trans HQ.out.2)
         generalize Y1.setCell ⟨mb, 1, none⟩ (.int .i64 ((s.nx : Int) + 1)) = Y2 at *
         clear x0 x1 x2 x3 x4 c1 f1
         have ⟨x0, x1, x2, x3, x4⟩ := tk5 HV2.out
         go_wp2_with fail
         refine (mtopen_any HM2.out).mono ?_
         rintro e Y3 hh
         rw [HR1.out] at hh
         obtain ⟨rfl, h8, h9⟩ := hh
         have HM3 := hid h8
         have HG3 := hid (HG2.out.trans h9)
         have HV3 := hid ((h9.tk b _ _ HV2.out).trans HV2.out)
         clear h8 h9 x0 x1 x2 x3 x4
         have ⟨x0, x1, x2, x3, x4⟩ := tk5 HV3.out
         go_upto_region 21 with (fail)
         have HDR := hid (show Below Y3.heap.size Y3 Y3.drew from (Below.refl _ _).drew)
         have HMD := hid (HM3.out.low HDR.out)
         have HGD := hid (HG3.out.trans (Fmm.of HDR.out HM3.out.size))
         have HVD := hid ((HDR.out.block b (lt_blk HV3.out)).trans HV3.out)
         refine wp_region_held_drew (S := (fun Y => Y.cell? ⟨b, 3, none⟩ = some (.int .i64 (t.a : Int)) ∧ Y.cell? ⟨mb, 5, none⟩ = some (.slice fa N fc))) (by kernel_rfl) ?_ (fun hHeld => ?_)
         ·exact ⟨(tk5 HVD.out).2.2.2.1, (HMD.out.cell 5 (by decide)).trans (by rw [HFE.out]; rfl)⟩
         generalize Y3.drew = Z at *
         clear x0 x1 x2 x3 x4
         refine wpAnyH_take (i := 0) (v := ?_) rfl (by kernel_rfl) (by kernel_rfl) (by kernel_rfl) (fun _ _ _ h => h) (Or.inl ⟨by rfl, ?_⟩) (by assumption) ?_
         rotate_left
         ·(intro w hSw; (try dsimp only at hSw); go_simp; try with_reducible rfl)
         try simp only [Act.put, List.setIfInBounds_toArray, List.set_cons_zero, List.set_cons_succ]
         refine wpAnyH_take (i := 1) (v := ?_) rfl (by kernel_rfl) (by kernel_rfl) (by kernel_rfl) (fun _ _ _ h => h) (Or.inl ⟨by rfl, ?_⟩) (by assumption) ?_
         rotate_left
         ·(intro w hSw; (try dsimp only at hSw); go_simp; try with_reducible rfl)
         try simp only [Act.put, List.setIfInBounds_toArray, List.set_cons_zero, List.set_cons_succ]
         refine wpAnyH_take (i := 2) (v := ?_) rfl (by kernel_rfl) (by kernel_rfl) (by kernel_rfl) (fun _ _ _ h => h) (Or.inl ⟨by rfl, ?_⟩) (by assumption) ?_
         rotate_left
         ·(intro w hSw; (try dsimp only at hSw); go_simp; try with_reducible rfl)
         try simp only [Act.put, List.setIfInBounds_toArray, List.set_cons_zero, List.set_cons_succ]
         refine wpAnyH_take (i := 3) (v := ?_) rfl (by kernel_rfl) (by kernel_rfl) (by kernel_rfl) (fun _ _ _ h => h) (Or.inl ⟨by rfl, ?_⟩) (by assumption) ?_
         rotate_left
         ·(intro w hSw; (try dsimp only at hSw); go_simp; try with_reducible rfl)
         try simp only [Act.put, List.setIfInBounds_toArray, List.set_cons_zero, List.set_cons_succ]
         refine wpAnyH_take (i := 4) (v := ?_) rfl (by kernel_rfl) (by kernel_rfl) (by kernel_rfl) (fun _ _ _ h => h) (Or.inl ⟨by rfl, ?_⟩) (by assumption) ?_
         rotate_left
         ·(intro w hSw; (try dsimp only at hSw); go_simp; try with_reducible rfl)
         try simp only [Act.put, List.setIfInBounds_toArray, List.set_cons_zero, List.set_cons_succ]
         refine wpAnyH_take (i := 5) (v := ?_) rfl (by kernel_rfl) (by kernel_rfl) (by kernel_rfl) (fun _ _ _ h => h) (Or.inl ⟨by rfl, ?_⟩) (by assumption) ?_
         rotate_left
         ·(intro w hSw; (try dsimp only at hSw); go_simp; try with_reducible rfl)
         try simp only [Act.put, List.setIfInBounds_toArray, List.set_cons_zero, List.set_cons_succ]
         refine wpAnyH_take (i := 6) (v := ?_) rfl (by kernel_rfl) (by kernel_rfl) (by kernel_rfl) (fun _ _ _ h => h) (Or.inl ⟨by rfl, ?_⟩) (by assumption) ?_
         rotate_left
         ·(intro w hSw; (try dsimp only at hSw); go_simp; try with_reducible rfl)
         try simp only [Act.put, List.setIfInBounds_toArray, List.set_cons_zero, List.set_cons_succ]
         refine wpAnyH_take (i := 7) (v := ?_) rfl (by kernel_rfl) (by kernel_rfl) (by kernel_rfl) (fun _ _ _ h => h) (Or.inl ⟨by rfl, ?_⟩) (by assumption) ?_
         rotate_left
         ·(intro w hSw; (try dsimp only at hSw); go_simp; try with_reducible rfl)
         try simp only [Act.put, List.setIfInBounds_toArray, List.set_cons_zero, List.set_cons_succ]
         refine wpAnyH_take (i := 8) (v := ?_) rfl (by kernel_rfl) (by kernel_rfl) (by kernel_rfl) (fun _ _ _ h => h) (Or.inl ⟨by rfl, ?_⟩) (by assumption) ?_
         rotate_left
         ·(intro w hSw; (try dsimp only at hSw); go_simp; try with_reducible rfl)
         try simp only [Act.put, List.setIfInBounds_toArray, List.set_cons_zero, List.set_cons_succ]
         refine wpAnyH_ready (rs := [9]) (by kernel_rfl) (by simp) ?_
         refine AllReadyH.cons rfl (fun K hK => ?_) AllReadyH.nil
         go_simp
         refine (mpush_any HMD.out ⟨10, 19, (t.a : Int), ⟨#[]⟩, 0, N⟩ (by (try simp only [List.length_cons]); omega)).mono ?_
         rintro e Y4 ⟨rfl, ⟨wv4, h8⟩, h9⟩
         have HM4 := hid h8
         have HG4 := hid (HGD.out.trans h9)
         have HV4 := hid ((h9.tk b _ _ HVD.out).trans HVD.out)
         clear h8 h9
         refine hK.out _ _ ?_ (fun hHeld => ?_)
         ·exact ⟨(tk5 HV4.out).2.2.2.1, (HM4.out.cell 5 (by decide)).trans (by rw [HFE.out]; rfl)⟩
         clear hK K hHeld
         try simp only [Act.put, List.setIfInBounds_toArray, List.set_cons_zero, List.set_cons_succ]
         refine wpAnyH_done (by kernel_rfl) ?_ _
         clear hHeld
         go_wp2_with fail
         refine (mpush_any HM4.out (awt 8) (by (try simp only [List.length_cons]); omega)).mono ?_
         rintro e Y5 ⟨rfl, ⟨wv5, h8⟩, h9⟩
         have HM5 := hid h8
         have HG5 := hid (HG4.out.trans h9)
         clear h8 h9
         go_wp2_with fail
         refine (mpush_any HM5.out (awt 6) (by (try simp only [List.length_cons]); omega)).mono ?_
         rintro e Y6 ⟨rfl, ⟨wv6, h8⟩, h9⟩
         have HM6 := hid h8
         have HG6 := hid (HG5.out.trans h9)
         clear h8 h9
         go_wp2_with fail
         exact ⟨rfl, .tuple #[], by first | rfl | kernel_rfl, rfl, pst_eq HEQ.out ⟨_, _, _, _, _, HM6.out⟩, HG6.out⟩
       ·have HX3 := hid hx
        have t3 := beq_f hx
        clear hx
        by_cases hx : t.text.toList = [99, 111, 117, 110, 116]
        ·have HEQ := hid (show termM T s fr = selM T 20 s fr by unfold termM; rw [← HT.out, ← HNN.out, if_neg HEL.out, if_neg HNM.out, if_pos hk, if_neg HX0.out, if_neg HX1.out, if_neg HX2.out, if_neg HX3.out, if_pos hx])
         have t4 := beq_t hx
         have HKD := hid (show (tk T s.nx).kind ≠ 0 by rw [← HT.out]; omega)
         clear hx hk
         go_wp2_with fail
         refine (msel_any HM1.out 20 HKD.out (by omega) (by omega)).mono ?_
         rintro e Y2 ⟨rfl, h8, h9⟩
         have HE := hid h8
         have HG2 := hid (HG1.out.trans h9)
         clear h8 h9
         go_wp2_with fail
         exact ⟨rfl, .tuple #[], by first | rfl | kernel_rfl, rfl, pst_eq HEQ.out HE.out, HG2.out⟩
        ·have HX4 := hid hx
         have t4 := beq_f hx
         clear hx
         have HEQ := hid (show termM T s fr = .error (rfE T s) by unfold termM; rw [← HT.out, ← HNN.out, if_neg HEL.out, if_neg HNM.out, if_pos hk, if_neg HX0.out, if_neg HX1.out, if_neg HX2.out, if_neg HX3.out, if_neg HX4.out])
         clear hk
         go_wp2_with fail
         refine (mfail_any HM1.out 120).mono ?_
         rintro e Y2 ⟨rfl, h2, h3⟩
         have HM2 := hid h2
         have HG2 := hid (HG1.out.trans h3)
         clear h2 h3
         go_wp2_with fail
         exact ⟨rfl, .tuple #[], by first | rfl | kernel_rfl, rfl, pst_eq HEQ.out (by rw [fcd_rf]; exact ⟨_, _, _, _, _, _, _, _, HM2.out⟩), HG2.out⟩
   ·have HEQ := hid (show termM T s fr = .error (rfE T s) by unfold termM; rw [← HT.out, if_neg HEL.out, if_neg HNM.out, if_neg hk])
    have e3 : ((t.kind : Int) == 3) = false := by simp; omega
    clear hk
    go_wp2_with fail
    refine (mfail_any HM1.out 120).mono ?_
    rintro e Y2 ⟨rfl, h2, h3⟩
    have HM2 := hid h2
    have HG2 := hid (HG1.out.trans h3)
    clear h2 h3
    go_wp2_with fail
    exact ⟨rfl, .tuple #[], by first | rfl | kernel_rfl, rfl, pst_eq HEQ.out (by rw [fcd_rf]; exact ⟨_, _, _, _, _, _, _, _, HM2.out⟩), HG2.out⟩
end Go.Proofs.YtcldglilhhhdoaaGreatDoor.L
