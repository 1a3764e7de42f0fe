import Derived.Test.YtcldglilhhhdoaaGreatDoorMgAU
namespace Go.Proofs.YtcldglilhhhdoaaGreatDoor.L
open Go.RowKit
set_option linter.unusedVariables false
set_option linter.unusedSimpArgs false
set_option maxHeartbeats 16000000 in
set_option maxRecDepth 100000 in
theorem mwho_any {mb B : Nat} {tv : Value} {T : List Tok} {W : World} {s : PS} {ws : List Wn} {fr : List Int} {fl : Array Value} {wv v o f : Value} {ks : Nat → Value} (h : MM mb B tv T W s ws fr fl wv v o f ks) (side : Int) (hk : (tk T s.nx).kind ≠ 0) (hf1 : fr.length ≤ 100000) (hp1 : s.ps.length ≤ 100000) (ho1 : s.os.length ≤ 100000) : Calls Tryz.prog 62 #[.pointer (some ⟨mb, 0, none⟩), .int .i64 side] W fun e W' => e = .returned (.tuple #[]) ∧ Plf mb B tv T ws fr fl wv (whoP T s side) W' ∧ Fmm B W W' := by
 obtain ⟨g, cap, rfl, hgl, hc⟩ := h.tokc
 have hnx := h.nx
 have htl := h.tl
 have HP := hid h
 have HC := hid (fun r (hr : r < 5) => hc s.nx r hnx hr)
 have HGL := hid hgl
 have HC0 := hid (h.cell 0 (by decide))
 have HC1 := hid (h.cell 1 (by decide))
 have HML := hid (lt_blk h.box)
 clear hc h hgl
 obtain ⟨t, ht⟩ : ∃ t, t = tk T s.nx := ⟨_, rfl⟩
 have HT := hid ht
 rw [← ht] at HC
 obtain ⟨L, hL⟩ : ∃ L, L = T.length := ⟨_, rfl⟩
 have HLT := hid hL
 rw [← hL] at HC0 hnx htl
 obtain ⟨n, hn⟩ : ∃ n, n = s.nx := ⟨_, rfl⟩
 have HN := hid hn
 rw [← hn] at HC HC1 hnx
 clear hL hn
 have g1 : (n : Int) < (L : Int) := by omega
 have g0 : (0 : Int) ≤ (n : Int) := by omega
 have MS := hid (show ∀ Y, Below W.heap.size W Y → (fun Y => (Y.cell? ⟨mb, 0, none⟩ = some (.slice (some ⟨g, 0, none⟩) L cap) ∧ Y.cell? ⟨mb, 1, none⟩ = some (.int .i64 (n : Int))) ∧ Y.cell? ⟨g, n * 5, none⟩ = some (.int .i64 (t.kind : Int)) ∧ Y.cell? ⟨g, n * 5 + 1, none⟩ = some (.string t.text) ∧ Y.cell? ⟨g, n * 5 + 2, none⟩ = some (.int .i64 t.num) ∧ Y.cell? ⟨g, n * 5 + 3, none⟩ = some (.int .i64 (t.a : Int)) ∧ Y.cell? ⟨g, n * 5 + 4, none⟩ = some (.int .i64 (t.e : Int))) Y from fun Y hb => ⟨⟨(hb.cell (p := ⟨mb, 0, none⟩) HML.out).trans HC0.out, (hb.cell (p := ⟨mb, 1, none⟩) HML.out).trans HC1.out⟩, (hb.cell (p := ⟨g, n * 5, none⟩) HGL.out).trans (HC.out 0 (by decide)), (hb.cell (p := ⟨g, n * 5 + 1, none⟩) HGL.out).trans (HC.out 1 (by decide)), (hb.cell (p := ⟨g, n * 5 + 2, none⟩) HGL.out).trans (HC.out 2 (by decide)), (hb.cell (p := ⟨g, n * 5 + 3, none⟩) HGL.out).trans (HC.out 3 (by decide)), (hb.cell (p := ⟨g, n * 5 + 4, none⟩) HGL.out).trans (HC.out 4 (by decide))⟩)
 have HKD := hid hk
 have HLN := hid (And.intro hp1 ho1)
 clear ht hk
 have hnl : (n : Int) + 1 ≤ 4098 := by omega
 have q0 : W.cell? ⟨mb, 0, none⟩ = some (.slice (some ⟨g, 0, none⟩) L cap) := HC0.out
 have q1 : W.cell? ⟨mb, 1, none⟩ = some (.int .i64 (n : Int)) := HC1.out
 have q3 : W.cell? ⟨g, n * 5 + 3, none⟩ = some (.int .i64 (t.a : Int)) := HC.out 3 (by decide)
 clear MS
 unfold whoP
 rw [← HT.out]
 by_cases hm : isM T (Go.Proofs.YtcldglilhhhdoaaGreatDoor.L.adv s) [91] = true
 ·have HMK := hid (show (decide ((tk T (Go.Proofs.YtcldglilhhhdoaaGreatDoor.L.adv s).nx).kind = 4) && decide ((tk T (Go.Proofs.YtcldglilhhhdoaaGreatDoor.L.adv s).nx).text.toList = (⟨#[91]⟩ : ByteArray).toList)) = true by rw [show (⟨#[91]⟩ : ByteArray).toList = [91] from ByteArray.toList_eq _]; exact hm)
  have HKD2 := hid (ism_k hm)
  rw [if_pos hm]
  clear hm
  cases h1 : textP T (Go.Proofs.YtcldglilhhhdoaaGreatDoor.L.adv (Go.Proofs.YtcldglilhhhdoaaGreatDoor.L.adv s)) with
  | error q =>
   obtain ⟨c, x⟩ := q
   have HR1 := hid h1
   clear h1
   go_enter Tryz.func62, Tryz.ntmps62
   go_wp2_with fail
   go_quiet (fail)
   have HP1 := hid (HP.out.low (below_drewN (Below.refl _ W) nq))
   have HF1 := hid (Fmm.of (below_drewN (Below.refl _ W) nq) HP.out.size)
   generalize W.drewN nq = W1 at *
   clear q0 q1 q3
   have c1 : W1.cell? ⟨mb, 1, none⟩ = some (.int .i64 (n : Int)) := by rw [HN.out]; exact HP1.out.cell 1 (by decide)
   have f1 := frz_row HP1.out.box 1
   go_upto_region 2 with (fail)
   have HQ := hid (HP1.out.adv HKD.out)
   rw [← HN.out] at HQ
   have HF2 := hid (HF1.out.trans HQ.out.2)
   generalize W1.setCell ⟨mb, 1, none⟩ (.int .i64 ((n : Int) + 1)) = W2 at *
   clear c1 f1
   have HQ1 := hid HQ.out.1
   go_wp2_with fail
   refine (mmark_any HQ1.out ⟨#[91]⟩).mono ?_
   rintro e Y3 ⟨rfl, l⟩
   have HM3 := hid (HQ1.out.low l)
   have HG3 := hid (HF2.out.trans (Fmm.of l HQ1.out.size))
   have HL3 := hid l
   rw [HMK.out]
   clear l
   have hb9 : ((Go.Proofs.YtcldglilhhhdoaaGreatDoor.L.adv s).nx : Int) + 1 ≤ 4098 := by have h8 := HM3.out.nx; have h9 := HM3.out.tl; omega
   have c1 : Y3.cell? ⟨mb, 1, none⟩ = some (.int .i64 ((Go.Proofs.YtcldglilhhhdoaaGreatDoor.L.adv s).nx : Int)) := HM3.out.cell 1 (by decide)
   have f1 := frz_row HM3.out.box 1
   go_upto_region 5 with (fail)
   have HQ4 := hid (HM3.out.adv HKD2.out)
   have HM4 := hid HQ4.out.1
   have HG4 := hid (HG3.out.trans HQ4.out.2)
   generalize Y3.setCell ⟨mb, 1, none⟩ (.int .i64 (((Go.Proofs.YtcldglilhhhdoaaGreatDoor.L.adv s).nx : Int) + 1)) = Y4 at *
   clear c1 f1 hb9
   go_wp2_with fail
   refine (mtext_any HM4.out).mono ?_
   rintro e Y5 hh
   rw [HR1.out] at hh
   obtain ⟨rfl, h8, h9⟩ := hh
   have HM5 := hid h8
   have HG5 := hid (HG4.out.trans h9)
   clear h8 h9
   go_wp2_with fail
   obtain ⟨s9, h9⟩ := HM5.out
   exact ⟨rfl, .tuple #[], by first | rfl | kernel_rfl, rfl, ⟨_, _, _, _, _, h9⟩, HG5.out⟩
  | ok q =>
   obtain ⟨tx, s1⟩ := q
   have HR1 := hid h1
   clear h1
   rw [bnd_ok]
   cases h2 : markP T s1 [93] with
   | error q =>
    obtain ⟨c, x⟩ := q
    have HR2 := hid h2
    clear h2
    go_enter Tryz.func62, Tryz.ntmps62
    go_wp2_with fail
    go_quiet (fail)
    have HP1 := hid (HP.out.low (below_drewN (Below.refl _ W) nq))
    have HF1 := hid (Fmm.of (below_drewN (Below.refl _ W) nq) HP.out.size)
    generalize W.drewN nq = W1 at *
    clear q0 q1 q3
    have c1 : W1.cell? ⟨mb, 1, none⟩ = some (.int .i64 (n : Int)) := by rw [HN.out]; exact HP1.out.cell 1 (by decide)
    have f1 := frz_row HP1.out.box 1
    go_upto_region 2 with (fail)
    have HQ := hid (HP1.out.adv HKD.out)
    rw [← HN.out] at HQ
    have HF2 := hid (HF1.out.trans HQ.out.2)
    generalize W1.setCell ⟨mb, 1, none⟩ (.int .i64 ((n : Int) + 1)) = W2 at *
    clear c1 f1
    have HQ1 := hid HQ.out.1
    go_wp2_with fail
    refine (mmark_any HQ1.out ⟨#[91]⟩).mono ?_
    rintro e Y3 ⟨rfl, l⟩
    have HM3 := hid (HQ1.out.low l)
    have HG3 := hid (HF2.out.trans (Fmm.of l HQ1.out.size))
    have HL3 := hid l
    rw [HMK.out]
    clear l
    have hb9 : ((Go.Proofs.YtcldglilhhhdoaaGreatDoor.L.adv s).nx : Int) + 1 ≤ 4098 := by have h8 := HM3.out.nx; have h9 := HM3.out.tl; omega
    have c1 : Y3.cell? ⟨mb, 1, none⟩ = some (.int .i64 ((Go.Proofs.YtcldglilhhhdoaaGreatDoor.L.adv s).nx : Int)) := HM3.out.cell 1 (by decide)
    have f1 := frz_row HM3.out.box 1
    go_upto_region 5 with (fail)
    have HQ4 := hid (HM3.out.adv HKD2.out)
    have HM4 := hid HQ4.out.1
    have HG4 := hid (HG3.out.trans HQ4.out.2)
    generalize Y3.setCell ⟨mb, 1, none⟩ (.int .i64 (((Go.Proofs.YtcldglilhhhdoaaGreatDoor.L.adv s).nx : Int) + 1)) = Y4 at *
    clear c1 f1 hb9
    go_wp2_with fail
    refine (mtext_any HM4.out).mono ?_
    rintro e Y5 hh
    rw [HR1.out] at hh
    obtain ⟨rfl, h8, h9⟩ := hh
    have HM5 := hid h8
    have HG5 := hid (HG4.out.trans h9)
    clear h8 h9
    go_wp2_with fail
    refine (mtake_any HM5.out ⟨#[93]⟩).mono ?_
    rintro e Y6 hh
    rw [show (⟨#[93]⟩ : ByteArray).toList = [93] from ByteArray.toList_eq _] at hh
    rw [HR2.out] at hh
    obtain ⟨rfl, h8, h9⟩ := hh
    have HM6 := hid h8
    have HG6 := hid (HG5.out.trans h9)
    clear h8 h9
    go_wp2_with fail
    obtain ⟨s9, h9⟩ := HM6.out
    exact ⟨rfl, .tuple #[], by first | rfl | kernel_rfl, rfl, ⟨_, _, _, _, _, h9⟩, HG6.out⟩
   | ok q =>
    obtain ⟨u2, s2⟩ := q
    have HR2 := hid h2
    have HLN := hid (show s2.ps.length ≤ 100000 ∧ s2.os.length ≤ 100000 by rw [mark_ok h2, text_ok HR1.out]; exact HLN.out)
    clear h2
    go_enter Tryz.func62, Tryz.ntmps62
    go_wp2_with fail
    go_quiet (fail)
    have HP1 := hid (HP.out.low (below_drewN (Below.refl _ W) nq))
    have HF1 := hid (Fmm.of (below_drewN (Below.refl _ W) nq) HP.out.size)
    generalize W.drewN nq = W1 at *
    clear q0 q1 q3
    have c1 : W1.cell? ⟨mb, 1, none⟩ = some (.int .i64 (n : Int)) := by rw [HN.out]; exact HP1.out.cell 1 (by decide)
    have f1 := frz_row HP1.out.box 1
    go_upto_region 2 with (fail)
    have HQ := hid (HP1.out.adv HKD.out)
    rw [← HN.out] at HQ
    have HF2 := hid (HF1.out.trans HQ.out.2)
    generalize W1.setCell ⟨mb, 1, none⟩ (.int .i64 ((n : Int) + 1)) = W2 at *
    clear c1 f1
    have HQ1 := hid HQ.out.1
    go_wp2_with fail
    refine (mmark_any HQ1.out ⟨#[91]⟩).mono ?_
    rintro e Y3 ⟨rfl, l⟩
    have HM3 := hid (HQ1.out.low l)
    have HG3 := hid (HF2.out.trans (Fmm.of l HQ1.out.size))
    have HL3 := hid l
    rw [HMK.out]
    clear l
    have hb9 : ((Go.Proofs.YtcldglilhhhdoaaGreatDoor.L.adv s).nx : Int) + 1 ≤ 4098 := by have h8 := HM3.out.nx; have h9 := HM3.out.tl; omega
    have c1 : Y3.cell? ⟨mb, 1, none⟩ = some (.int .i64 ((Go.Proofs.YtcldglilhhhdoaaGreatDoor.L.adv s).nx : Int)) := HM3.out.cell 1 (by decide)
    have f1 := frz_row HM3.out.box 1
    go_upto_region 5 with (fail)
    have HQ4 := hid (HM3.out.adv HKD2.out)
    have HM4 := hid HQ4.out.1
    have HG4 := hid (HG3.out.trans HQ4.out.2)
    generalize Y3.setCell ⟨mb, 1, none⟩ (.int .i64 (((Go.Proofs.YtcldglilhhhdoaaGreatDoor.L.adv s).nx : Int) + 1)) = Y4 at *
    clear c1 f1 hb9
    go_wp2_with fail
    refine (mtext_any HM4.out).mono ?_
    rintro e Y5 hh
    rw [HR1.out] at hh
    obtain ⟨rfl, h8, h9⟩ := hh
    have HM5 := hid h8
    have HG5 := hid (HG4.out.trans h9)
    clear h8 h9
    go_wp2_with fail
    refine (mtake_any HM5.out ⟨#[93]⟩).mono ?_
    rintro e Y6 hh
    rw [show (⟨#[93]⟩ : ByteArray).toList = [93] from ByteArray.toList_eq _] at hh
    rw [HR2.out] at hh
    obtain ⟨rfl, h8, h9⟩ := hh
    have HM6 := hid h8
    have HG6 := hid (HG5.out.trans h9)
    clear h8 h9
    go_wp2_with fail
    refine (mleaf_any HM6.out 14 side (t.a : Int) tx hf1 (by have := HLN.out; omega) (by have := HLN.out; omega)).mono ?_
    rintro e Y7 ⟨rfl, h8, h9⟩
    have HE := hid h8
    have HG7 := hid (HG6.out.trans h9)
    clear h8 h9
    go_wp2_with fail
    exact ⟨rfl, .tuple #[], by first | rfl | kernel_rfl, rfl, HE.out, HG7.out⟩
 ·have HMK := hid (show (decide ((tk T (Go.Proofs.YtcldglilhhhdoaaGreatDoor.L.adv s).nx).kind = 4) && decide ((tk T (Go.Proofs.YtcldglilhhhdoaaGreatDoor.L.adv s).nx).text.toList = (⟨#[91]⟩ : ByteArray).toList)) = false by rw [show (⟨#[91]⟩ : ByteArray).toList = [91] from ByteArray.toList_eq _]; exact Bool.eq_false_iff.2 hm)
  rw [if_neg hm]
  clear hm
  cases h1 : markP T (Go.Proofs.YtcldglilhhhdoaaGreatDoor.L.adv s) [46] with
  | error q =>
   obtain ⟨c, x⟩ := q
   have HR1 := hid h1
   clear h1
   go_enter Tryz.func62, Tryz.ntmps62
   go_wp2_with fail
   go_quiet (fail)
   have HP1 := hid (HP.out.low (below_drewN (Below.refl _ W) nq))
   have HF1 := hid (Fmm.of (below_drewN (Below.refl _ W) nq) HP.out.size)
   generalize W.drewN nq = W1 at *
   clear q0 q1 q3
   have c1 : W1.cell? ⟨mb, 1, none⟩ = some (.int .i64 (n : Int)) := by rw [HN.out]; exact HP1.out.cell 1 (by decide)
   have f1 := frz_row HP1.out.box 1
   go_upto_region 2 with (fail)
   have HQ := hid (HP1.out.adv HKD.out)
   rw [← HN.out] at HQ
   have HF2 := hid (HF1.out.trans HQ.out.2)
   generalize W1.setCell ⟨mb, 1, none⟩ (.int .i64 ((n : Int) + 1)) = W2 at *
   clear c1 f1
   have HQ1 := hid HQ.out.1
   go_wp2_with fail
   refine (mmark_any HQ1.out ⟨#[91]⟩).mono ?_
   rintro e Y3 ⟨rfl, l⟩
   have HM3 := hid (HQ1.out.low l)
   have HG3 := hid (HF2.out.trans (Fmm.of l HQ1.out.size))
   have HL3 := hid l
   rw [HMK.out]
   clear l
   go_wp2_with fail
   refine (mtake_any HM3.out ⟨#[46]⟩).mono ?_
   rintro e Y4 hh
   rw [show (⟨#[46]⟩ : ByteArray).toList = [46] from ByteArray.toList_eq _] at hh
   rw [HR1.out] at hh
   obtain ⟨rfl, h8, h9⟩ := hh
   have HM4 := hid h8
   have HG4 := hid (HG3.out.trans h9)
   clear h8 h9
   go_wp2_with fail
   obtain ⟨s9, h9⟩ := HM4.out
   exact ⟨rfl, .tuple #[], by first | rfl | kernel_rfl, rfl, ⟨_, _, _, _, _, h9⟩, HG4.out⟩
  | ok q =>
   obtain ⟨u1, s1⟩ := q
   have HR1 := hid h1
   clear h1
   rw [bnd_ok]
   by_cases hk : (tk T s1.nx).kind = 3
   ·by_cases hx : (tk T s1.nx).text.toList = [110, 97, 109, 101]
    ·have HKD2 := hid (show (tk T s1.nx).kind ≠ 0 by omega)
     have HFO := hid (show fieldO (tk T s1.nx) = 15 by unfold fieldO; rw [if_pos hk, hx]; rfl)
     have HW0 := hid (show (decide ((tk T s1.nx).kind = 3) && decide ((tk T s1.nx).text.toList = (⟨#[110, 97, 109, 101]⟩ : ByteArray).toList)) = true by rw [show (⟨#[110, 97, 109, 101]⟩ : ByteArray).toList = [110, 97, 109, 101] from ByteArray.toList_eq _]; simp [hk, hx])
     have HW1 := hid (show (decide ((tk T s1.nx).kind = 3) && decide ((tk T s1.nx).text.toList = (⟨#[107, 101, 121, 115]⟩ : ByteArray).toList)) = false by rw [show (⟨#[107, 101, 121, 115]⟩ : ByteArray).toList = [107, 101, 121, 115] from ByteArray.toList_eq _]; simp [hk, hx])
     have HW2 := hid (show (decide ((tk T s1.nx).kind = 3) && decide ((tk T s1.nx).text.toList = (⟨#[116, 97, 105, 110, 116, 115]⟩ : ByteArray).toList)) = false by rw [show (⟨#[116, 97, 105, 110, 116, 115]⟩ : ByteArray).toList = [116, 97, 105, 110, 116, 115] from ByteArray.toList_eq _]; simp [hk, hx])
     have HW3 := hid (show (decide ((tk T s1.nx).kind = 3) && decide ((tk T s1.nx).text.toList = (⟨#[99, 97, 112]⟩ : ByteArray).toList)) = false by rw [show (⟨#[99, 97, 112]⟩ : ByteArray).toList = [99, 97, 112] from ByteArray.toList_eq _]; simp [hk, hx])
     clear hx hk
     unfold fieldP
     rw [HFO.out]
     rw [if_neg (by decide)]
     rw [bnd_ok]
     rw [if_neg (by decide)]
     have HLN := hid (show (Go.Proofs.YtcldglilhhhdoaaGreatDoor.L.adv s1).ps.length ≤ 100000 ∧ (Go.Proofs.YtcldglilhhhdoaaGreatDoor.L.adv s1).os.length ≤ 100000 by rw [mark_ok HR1.out]; exact HLN.out)
     go_enter Tryz.func62, Tryz.ntmps62
     go_wp2_with fail
     go_quiet (fail)
     have HP1 := hid (HP.out.low (below_drewN (Below.refl _ W) nq))
     have HF1 := hid (Fmm.of (below_drewN (Below.refl _ W) nq) HP.out.size)
     generalize W.drewN nq = W1 at *
     clear q0 q1 q3
     have c1 : W1.cell? ⟨mb, 1, none⟩ = some (.int .i64 (n : Int)) := by rw [HN.out]; exact HP1.out.cell 1 (by decide)
     have f1 := frz_row HP1.out.box 1
     go_upto_region 2 with (fail)
     have HQ := hid (HP1.out.adv HKD.out)
     rw [← HN.out] at HQ
     have HF2 := hid (HF1.out.trans HQ.out.2)
     generalize W1.setCell ⟨mb, 1, none⟩ (.int .i64 ((n : Int) + 1)) = W2 at *
     clear c1 f1
     have HQ1 := hid HQ.out.1
     go_wp2_with fail
     refine (mmark_any HQ1.out ⟨#[91]⟩).mono ?_
     rintro e Y3 ⟨rfl, l⟩
     have HM3 := hid (HQ1.out.low l)
     have HG3 := hid (HF2.out.trans (Fmm.of l HQ1.out.size))
     have HL3 := hid l
     rw [HMK.out]
     clear l
     go_wp2_with fail
     refine (mtake_any HM3.out ⟨#[46]⟩).mono ?_
     rintro e Y4 hh
     rw [show (⟨#[46]⟩ : ByteArray).toList = [46] from ByteArray.toList_eq _] at hh
     rw [HR1.out] at hh
     obtain ⟨rfl, h8, h9⟩ := hh
     have HM4 := hid h8
     have HG4 := hid (HG3.out.trans h9)
     clear h8 h9
     go_wp2_with fail
     refine (mword_any HM4.out ⟨#[110, 97, 109, 101]⟩).mono ?_
     rintro e Y5 ⟨rfl, l⟩
     have HM5 := hid (HM4.out.low l)
     have HG5 := hid (HG4.out.trans (Fmm.of l HM4.out.size))
     have HL5 := hid l
     rw [HW0.out]
     clear l
     go_wp2_with fail
     refine (mword_any HM5.out ⟨#[107, 101, 121, 115]⟩).mono ?_
     rintro e Y6 ⟨rfl, l⟩
     have HM6 := hid (HM5.out.low l)
     have HG6 := hid (HG5.out.trans (Fmm.of l HM5.out.size))
     have HL6 := hid l
     rw [HW1.out]
     clear l
     go_wp2_with fail
     refine (mword_any HM6.out ⟨#[116, 97, 105, 110, 116, 115]⟩).mono ?_
     rintro e Y7 ⟨rfl, l⟩
     have HM7 := hid (HM6.out.low l)
     have HG7 := hid (HG6.out.trans (Fmm.of l HM6.out.size))
     have HL7 := hid l
     rw [HW2.out]
     clear l
     go_wp2_with fail
     refine (mword_any HM7.out ⟨#[99, 97, 112]⟩).mono ?_
     rintro e Y8 ⟨rfl, l⟩
     have HM8 := hid (HM7.out.low l)
     have HG8 := hid (HG7.out.trans (Fmm.of l HM7.out.size))
     have HL8 := hid l
     rw [HW3.out]
     clear l
     have hb9 : (s1.nx : Int) + 1 ≤ 4098 := by have h8 := HM8.out.nx; have h9 := HM8.out.tl; omega
     have c1 : Y8.cell? ⟨mb, 1, none⟩ = some (.int .i64 (s1.nx : Int)) := HM8.out.cell 1 (by decide)
     have f1 := frz_row HM8.out.box 1
     go_upto_region 19 with (fail)
     have HQ9 := hid (HM8.out.adv HKD2.out)
     have HM9 := hid HQ9.out.1
     have HG9 := hid (HG8.out.trans HQ9.out.2)
     generalize Y8.setCell ⟨mb, 1, none⟩ (.int .i64 ((s1.nx : Int) + 1)) = Y9 at *
     clear c1 f1 hb9
     go_wp2_with fail
     refine (mleaf_any HM9.out 15 side (t.a : Int) ⟨#[]⟩ hf1 (by have := HLN.out; omega) (by have := HLN.out; omega)).mono ?_
     rintro e Y10 ⟨rfl, h8, h9⟩
     have HE := hid h8
     have HG10 := hid (HG9.out.trans h9)
     clear h8 h9
     go_wp2_with fail
     exact ⟨rfl, .tuple #[], by first | rfl | kernel_rfl, rfl, HE.out, HG10.out⟩
    ·have n0 := hx
     clear hx
     by_cases hx : (tk T s1.nx).text.toList = [107, 101, 121, 115]
     ·have HKD2 := hid (show (tk T s1.nx).kind ≠ 0 by omega)
      have HFO := hid (show fieldO (tk T s1.nx) = 16 by unfold fieldO; rw [if_pos hk, hx]; rfl)
      have HW0 := hid (show (decide ((tk T s1.nx).kind = 3) && decide ((tk T s1.nx).text.toList = (⟨#[110, 97, 109, 101]⟩ : ByteArray).toList)) = false by rw [show (⟨#[110, 97, 109, 101]⟩ : ByteArray).toList = [110, 97, 109, 101] from ByteArray.toList_eq _]; simp [hk, hx])
      have HW1 := hid (show (decide ((tk T s1.nx).kind = 3) && decide ((tk T s1.nx).text.toList = (⟨#[107, 101, 121, 115]⟩ : ByteArray).toList)) = true by rw [show (⟨#[107, 101, 121, 115]⟩ : ByteArray).toList = [107, 101, 121, 115] from ByteArray.toList_eq _]; simp [hk, hx])
      have HW2 := hid (show (decide ((tk T s1.nx).kind = 3) && decide ((tk T s1.nx).text.toList = (⟨#[116, 97, 105, 110, 116, 115]⟩ : ByteArray).toList)) = false by rw [show (⟨#[116, 97, 105, 110, 116, 115]⟩ : ByteArray).toList = [116, 97, 105, 110, 116, 115] from ByteArray.toList_eq _]; simp [hk, hx])
      have HW3 := hid (show (decide ((tk T s1.nx).kind = 3) && decide ((tk T s1.nx).text.toList = (⟨#[99, 97, 112]⟩ : ByteArray).toList)) = false by rw [show (⟨#[99, 97, 112]⟩ : ByteArray).toList = [99, 97, 112] from ByteArray.toList_eq _]; simp [hk, hx])
      clear hx hk
      unfold fieldP
      rw [HFO.out]
      rw [if_neg (by decide)]
      rw [bnd_ok]
      rw [if_neg (by decide)]
      have HLN := hid (show (Go.Proofs.YtcldglilhhhdoaaGreatDoor.L.adv s1).ps.length ≤ 100000 ∧ (Go.Proofs.YtcldglilhhhdoaaGreatDoor.L.adv s1).os.length ≤ 100000 by rw [mark_ok HR1.out]; exact HLN.out)
      go_enter Tryz.func62, Tryz.ntmps62
      go_wp2_with fail
      go_quiet (fail)
      have HP1 := hid (HP.out.low (below_drewN (Below.refl _ W) nq))
      have HF1 := hid (Fmm.of (below_drewN (Below.refl _ W) nq) HP.out.size)
      generalize W.drewN nq = W1 at *
      clear q0 q1 q3
      have c1 : W1.cell? ⟨mb, 1, none⟩ = some (.int .i64 (n : Int)) := by rw [HN.out]; exact HP1.out.cell 1 (by decide)
      have f1 := frz_row HP1.out.box 1
      go_upto_region 2 with (fail)
      have HQ := hid (HP1.out.adv HKD.out)
      rw [← HN.out] at HQ
      have HF2 := hid (HF1.out.trans HQ.out.2)
      generalize W1.setCell ⟨mb, 1, none⟩ (.int .i64 ((n : Int) + 1)) = W2 at *
      clear c1 f1
      have HQ1 := hid HQ.out.1
      go_wp2_with fail
      refine (mmark_any HQ1.out ⟨#[91]⟩).mono ?_
      rintro e Y3 ⟨rfl, l⟩
      have HM3 := hid (HQ1.out.low l)
      have HG3 := hid (HF2.out.trans (Fmm.of l HQ1.out.size))
      have HL3 := hid l
      rw [HMK.out]
      clear l
      go_wp2_with fail
      refine (mtake_any HM3.out ⟨#[46]⟩).mono ?_
      rintro e Y4 hh
      rw [show (⟨#[46]⟩ : ByteArray).toList = [46] from ByteArray.toList_eq _] at hh
      rw [HR1.out] at hh
      obtain ⟨rfl, h8, h9⟩ := hh
      have HM4 := hid h8
      have HG4 := hid (HG3.out.trans h9)
      clear h8 h9
      go_wp2_with fail
      refine (mword_any HM4.out ⟨#[110, 97, 109, 101]⟩).mono ?_
      rintro e Y5 ⟨rfl, l⟩
      have HM5 := hid (HM4.out.low l)
      have HG5 := hid (HG4.out.trans (Fmm.of l HM4.out.size))
      have HL5 := hid l
      rw [HW0.out]
      clear l
      go_wp2_with fail
      refine (mword_any HM5.out ⟨#[107, 101, 121, 115]⟩).mono ?_
      rintro e Y6 ⟨rfl, l⟩
      have HM6 := hid (HM5.out.low l)
      have HG6 := hid (HG5.out.trans (Fmm.of l HM5.out.size))
      have HL6 := hid l
      rw [HW1.out]
      clear l
      go_wp2_with fail
      refine (mword_any HM6.out ⟨#[116, 97, 105, 110, 116, 115]⟩).mono ?_
      rintro e Y7 ⟨rfl, l⟩
      have HM7 := hid (HM6.out.low l)
      have HG7 := hid (HG6.out.trans (Fmm.of l HM6.out.size))
      have HL7 := hid l
      rw [HW2.out]
      clear l
      go_wp2_with fail
      refine (mword_any HM7.out ⟨#[99, 97, 112]⟩).mono ?_
      rintro e Y8 ⟨rfl, l⟩
      have HM8 := hid (HM7.out.low l)
      have HG8 := hid (HG7.out.trans (Fmm.of l HM7.out.size))
      have HL8 := hid l
      rw [HW3.out]
      clear l
      have hb9 : (s1.nx : Int) + 1 ≤ 4098 := by have h8 := HM8.out.nx; have h9 := HM8.out.tl; omega
      have c1 : Y8.cell? ⟨mb, 1, none⟩ = some (.int .i64 (s1.nx : Int)) := HM8.out.cell 1 (by decide)
      have f1 := frz_row HM8.out.box 1
      go_upto_region 22 with (fail)
      have HQ9 := hid (HM8.out.adv HKD2.out)
      have HM9 := hid HQ9.out.1
      have HG9 := hid (HG8.out.trans HQ9.out.2)
      generalize Y8.setCell ⟨mb, 1, none⟩ (.int .i64 ((s1.nx : Int) + 1)) = Y9 at *
      clear c1 f1 hb9
      go_wp2_with fail
      refine (mleaf_any HM9.out 16 side (t.a : Int) ⟨#[]⟩ hf1 (by have := HLN.out; omega) (by have := HLN.out; omega)).mono ?_
      rintro e Y10 ⟨rfl, h8, h9⟩
      have HE := hid h8
      have HG10 := hid (HG9.out.trans h9)
      clear h8 h9
      go_wp2_with fail
      exact ⟨rfl, .tuple #[], by first | rfl | kernel_rfl, rfl, HE.out, HG10.out⟩
     ·have n1 := hx
      clear hx
      by_cases hx : (tk T s1.nx).text.toList = [116, 97, 105, 110, 116, 115]
      ·have HKD2 := hid (show (tk T s1.nx).kind ≠ 0 by omega)
       have HFO := hid (show fieldO (tk T s1.nx) = 17 by unfold fieldO; rw [if_pos hk, hx]; rfl)
       have HW0 := hid (show (decide ((tk T s1.nx).kind = 3) && decide ((tk T s1.nx).text.toList = (⟨#[110, 97, 109, 101]⟩ : ByteArray).toList)) = false by rw [show (⟨#[110, 97, 109, 101]⟩ : ByteArray).toList = [110, 97, 109, 101] from ByteArray.toList_eq _]; simp [hk, hx])
       have HW1 := hid (show (decide ((tk T s1.nx).kind = 3) && decide ((tk T s1.nx).text.toList = (⟨#[107, 101, 121, 115]⟩ : ByteArray).toList)) = false by rw [show (⟨#[107, 101, 121, 115]⟩ : ByteArray).toList = [107, 101, 121, 115] from ByteArray.toList_eq _]; simp [hk, hx])
       have HW2 := hid (show (decide ((tk T s1.nx).kind = 3) && decide ((tk T s1.nx).text.toList = (⟨#[116, 97, 105, 110, 116, 115]⟩ : ByteArray).toList)) = true by rw [show (⟨#[116, 97, 105, 110, 116, 115]⟩ : ByteArray).toList = [116, 97, 105, 110, 116, 115] from ByteArray.toList_eq _]; simp [hk, hx])
       have HW3 := hid (show (decide ((tk T s1.nx).kind = 3) && decide ((tk T s1.nx).text.toList = (⟨#[99, 97, 112]⟩ : ByteArray).toList)) = false by rw [show (⟨#[99, 97, 112]⟩ : ByteArray).toList = [99, 97, 112] from ByteArray.toList_eq _]; simp [hk, hx])
       clear hx hk
       unfold fieldP
       rw [HFO.out]
       rw [if_neg (by decide)]
       rw [bnd_ok]
       rw [if_neg (by decide)]
       have HLN := hid (show (Go.Proofs.YtcldglilhhhdoaaGreatDoor.L.adv s1).ps.length ≤ 100000 ∧ (Go.Proofs.YtcldglilhhhdoaaGreatDoor.L.adv s1).os.length ≤ 100000 by rw [mark_ok HR1.out]; exact HLN.out)
       go_enter Tryz.func62, Tryz.ntmps62
       go_wp2_with fail
       go_quiet (fail)
       have HP1 := hid (HP.out.low (below_drewN (Below.refl _ W) nq))
       have HF1 := hid (Fmm.of (below_drewN (Below.refl _ W) nq) HP.out.size)
       generalize W.drewN nq = W1 at *
       clear q0 q1 q3
       have c1 : W1.cell? ⟨mb, 1, none⟩ = some (.int .i64 (n : Int)) := by rw [HN.out]; exact HP1.out.cell 1 (by decide)
       have f1 := frz_row HP1.out.box 1
       go_upto_region 2 with (fail)
       have HQ := hid (HP1.out.adv HKD.out)
       rw [← HN.out] at HQ
       have HF2 := hid (HF1.out.trans HQ.out.2)
       generalize W1.setCell ⟨mb, 1, none⟩ (.int .i64 ((n : Int) + 1)) = W2 at *
       clear c1 f1
       have HQ1 := hid HQ.out.1
       go_wp2_with fail
       refine (mmark_any HQ1.out ⟨#[91]⟩).mono ?_
       rintro e Y3 ⟨rfl, l⟩
       have HM3 := hid (HQ1.out.low l)
       have HG3 := hid (HF2.out.trans (Fmm.of l HQ1.out.size))
       have HL3 := hid l
       rw [HMK.out]
       clear l
       go_wp2_with fail
       refine (mtake_any HM3.out ⟨#[46]⟩).mono ?_
       rintro e Y4 hh
       rw [show (⟨#[46]⟩ : ByteArray).toList = [46] from ByteArray.toList_eq _] at hh
       rw [HR1.out] at hh
       obtain ⟨rfl, h8, h9⟩ := hh
       have HM4 := hid h8
       have HG4 := hid (HG3.out.trans h9)
       clear h8 h9
       go_wp2_with fail
       refine (mword_any HM4.out ⟨#[110, 97, 109, 101]⟩).mono ?_
       rintro e Y5 ⟨rfl, l⟩
       have HM5 := hid (HM4.out.low l)
       have HG5 := hid (HG4.out.trans (Fmm.of l HM4.out.size))
       have HL5 := hid l
       rw [HW0.out]
       clear l
       go_wp2_with fail
       refine (mword_any HM5.out ⟨#[107, 101, 121, 115]⟩).mono ?_
       rintro e Y6 ⟨rfl, l⟩
       have HM6 := hid (HM5.out.low l)
       have HG6 := hid (HG5.out.trans (Fmm.of l HM5.out.size))
       have HL6 := hid l
       rw [HW1.out]
       clear l
       go_wp2_with fail
       refine (mword_any HM6.out ⟨#[116, 97, 105, 110, 116, 115]⟩).mono ?_
       rintro e Y7 ⟨rfl, l⟩
       have HM7 := hid (HM6.out.low l)
       have HG7 := hid (HG6.out.trans (Fmm.of l HM6.out.size))
       have HL7 := hid l
       rw [HW2.out]
       clear l
       go_wp2_with fail
       refine (mword_any HM7.out ⟨#[99, 97, 112]⟩).mono ?_
       rintro e Y8 ⟨rfl, l⟩
       have HM8 := hid (HM7.out.low l)
       have HG8 := hid (HG7.out.trans (Fmm.of l HM7.out.size))
       have HL8 := hid l
       rw [HW3.out]
       clear l
       have hb9 : (s1.nx : Int) + 1 ≤ 4098 := by have h8 := HM8.out.nx; have h9 := HM8.out.tl; omega
       have c1 : Y8.cell? ⟨mb, 1, none⟩ = some (.int .i64 (s1.nx : Int)) := HM8.out.cell 1 (by decide)
       have f1 := frz_row HM8.out.box 1
       go_upto_region 25 with (fail)
       have HQ9 := hid (HM8.out.adv HKD2.out)
       have HM9 := hid HQ9.out.1
       have HG9 := hid (HG8.out.trans HQ9.out.2)
       generalize Y8.setCell ⟨mb, 1, none⟩ (.int .i64 ((s1.nx : Int) + 1)) = Y9 at *
       clear c1 f1 hb9
       go_wp2_with fail
       refine (mleaf_any HM9.out 17 side (t.a : Int) ⟨#[]⟩ hf1 (by have := HLN.out; omega) (by have := HLN.out; omega)).mono ?_
       rintro e Y10 ⟨rfl, h8, h9⟩
       have HE := hid h8
       have HG10 := hid (HG9.out.trans h9)
       clear h8 h9
       go_wp2_with fail
       exact ⟨rfl, .tuple #[], by first | rfl | kernel_rfl, rfl, HE.out, HG10.out⟩
      ·have n2 := hx
       clear hx
       by_cases hx : (tk T s1.nx).text.toList = [99, 97, 112]
       ·have HKD2 := hid (show (tk T s1.nx).kind ≠ 0 by omega)
        have HFO := hid (show fieldO (tk T s1.nx) = 18 by unfold fieldO; rw [if_pos hk, hx]; rfl)
        have HW0 := hid (show (decide ((tk T s1.nx).kind = 3) && decide ((tk T s1.nx).text.toList = (⟨#[110, 97, 109, 101]⟩ : ByteArray).toList)) = false by rw [show (⟨#[110, 97, 109, 101]⟩ : ByteArray).toList = [110, 97, 109, 101] from ByteArray.toList_eq _]; simp [hk, hx])
        have HW1 := hid (show (decide ((tk T s1.nx).kind = 3) && decide ((tk T s1.nx).text.toList = (⟨#[107, 101, 121, 115]⟩ : ByteArray).toList)) = false by rw [show (⟨#[107, 101, 121, 115]⟩ : ByteArray).toList = [107, 101, 121, 115] from ByteArray.toList_eq _]; simp [hk, hx])
        have HW2 := hid (show (decide ((tk T s1.nx).kind = 3) && decide ((tk T s1.nx).text.toList = (⟨#[116, 97, 105, 110, 116, 115]⟩ : ByteArray).toList)) = false by rw [show (⟨#[116, 97, 105, 110, 116, 115]⟩ : ByteArray).toList = [116, 97, 105, 110, 116, 115] from ByteArray.toList_eq _]; simp [hk, hx])
        have HW3 := hid (show (decide ((tk T s1.nx).kind = 3) && decide ((tk T s1.nx).text.toList = (⟨#[99, 97, 112]⟩ : ByteArray).toList)) = true by rw [show (⟨#[99, 97, 112]⟩ : ByteArray).toList = [99, 97, 112] from ByteArray.toList_eq _]; simp [hk, hx])
        clear hx hk
        unfold fieldP
        rw [HFO.out]
        rw [if_neg (by decide)]
        rw [bnd_ok]
        rw [if_pos (by rfl)]
        have HLN := hid (show (Go.Proofs.YtcldglilhhhdoaaGreatDoor.L.adv s1).ps.length ≤ 100000 ∧ (Go.Proofs.YtcldglilhhhdoaaGreatDoor.L.adv s1).os.length ≤ 100000 by rw [mark_ok HR1.out]; exact HLN.out)
        go_enter Tryz.func62, Tryz.ntmps62
        go_wp2_with fail
        go_quiet (fail)
        have HP1 := hid (HP.out.low (below_drewN (Below.refl _ W) nq))
        have HF1 := hid (Fmm.of (below_drewN (Below.refl _ W) nq) HP.out.size)
        generalize W.drewN nq = W1 at *
        clear q0 q1 q3
        have c1 : W1.cell? ⟨mb, 1, none⟩ = some (.int .i64 (n : Int)) := by rw [HN.out]; exact HP1.out.cell 1 (by decide)
        have f1 := frz_row HP1.out.box 1
        go_upto_region 2 with (fail)
        have HQ := hid (HP1.out.adv HKD.out)
        rw [← HN.out] at HQ
        have HF2 := hid (HF1.out.trans HQ.out.2)
        generalize W1.setCell ⟨mb, 1, none⟩ (.int .i64 ((n : Int) + 1)) = W2 at *
        clear c1 f1
        have HQ1 := hid HQ.out.1
        go_wp2_with fail
        refine (mmark_any HQ1.out ⟨#[91]⟩).mono ?_
        rintro e Y3 ⟨rfl, l⟩
        have HM3 := hid (HQ1.out.low l)
        have HG3 := hid (HF2.out.trans (Fmm.of l HQ1.out.size))
        have HL3 := hid l
        rw [HMK.out]
        clear l
        go_wp2_with fail
        refine (mtake_any HM3.out ⟨#[46]⟩).mono ?_
        rintro e Y4 hh
        rw [show (⟨#[46]⟩ : ByteArray).toList = [46] from ByteArray.toList_eq _] at hh
        rw [HR1.out] at hh
        obtain ⟨rfl, h8, h9⟩ := hh
        have HM4 := hid h8
        have HG4 := hid (HG3.out.trans h9)
        clear h8 h9
        go_wp2_with fail
        refine (mword_any HM4.out ⟨#[110, 97, 109, 101]⟩).mono ?_
        rintro e Y5 ⟨rfl, l⟩
        have HM5 := hid (HM4.out.low l)
        have HG5 := hid (HG4.out.trans (Fmm.of l HM4.out.size))
        have HL5 := hid l
        rw [HW0.out]
        clear l
        go_wp2_with fail
        refine (mword_any HM5.out ⟨#[107, 101, 121, 115]⟩).mono ?_
        rintro e Y6 ⟨rfl, l⟩
        have HM6 := hid (HM5.out.low l)
        have HG6 := hid (HG5.out.trans (Fmm.of l HM5.out.size))
        have HL6 := hid l
        rw [HW1.out]
        clear l
        go_wp2_with fail
        refine (mword_any HM6.out ⟨#[116, 97, 105, 110, 116, 115]⟩).mono ?_
        rintro e Y7 ⟨rfl, l⟩
        have HM7 := hid (HM6.out.low l)
        have HG7 := hid (HG6.out.trans (Fmm.of l HM6.out.size))
        have HL7 := hid l
        rw [HW2.out]
        clear l
        go_wp2_with fail
        refine (mword_any HM7.out ⟨#[99, 97, 112]⟩).mono ?_
        rintro e Y8 ⟨rfl, l⟩
        have HM8 := hid (HM7.out.low l)
        have HG8 := hid (HG7.out.trans (Fmm.of l HM7.out.size))
        have HL8 := hid l
        rw [HW3.out]
        clear l
        have hb9 : (s1.nx : Int) + 1 ≤ 4098 := by have h8 := HM8.out.nx; have h9 := HM8.out.tl; omega
        have c1 : Y8.cell? ⟨mb, 1, none⟩ = some (.int .i64 (s1.nx : Int)) := HM8.out.cell 1 (by decide)
        have f1 := frz_row HM8.out.box 1
        go_upto_region 28 with (fail)
        have HQ9 := hid (HM8.out.adv HKD2.out)
        have HM9 := hid HQ9.out.1
        have HG9 := hid (HG8.out.trans HQ9.out.2)
        generalize Y8.setCell ⟨mb, 1, none⟩ (.int .i64 ((s1.nx : Int) + 1)) = Y9 at *
        clear c1 f1 hb9
        go_wp2_with fail
        refine (mres_any HM9.out side (t.a : Int) hf1 (by have := HLN.out; omega) (by have := HLN.out; omega)).mono ?_
        rintro e Y10 ⟨rfl, h8, h9⟩
        have HE := hid h8
        have HG10 := hid (HG9.out.trans h9)
        clear h8 h9
        go_wp2_with fail
        exact ⟨rfl, .tuple #[], by first | rfl | kernel_rfl, rfl, HE.out, HG10.out⟩
       ·have n3 := hx
        clear hx
        have HFO := hid (show fieldO (tk T s1.nx) = 0 by unfold fieldO; rw [if_pos hk, if_neg n0, if_neg n1, if_neg n2, if_neg n3])
        have HW0 := hid (show (decide ((tk T s1.nx).kind = 3) && decide ((tk T s1.nx).text.toList = (⟨#[110, 97, 109, 101]⟩ : ByteArray).toList)) = false by rw [show (⟨#[110, 97, 109, 101]⟩ : ByteArray).toList = [110, 97, 109, 101] from ByteArray.toList_eq _]; simp [hk, n0])
        have HW1 := hid (show (decide ((tk T s1.nx).kind = 3) && decide ((tk T s1.nx).text.toList = (⟨#[107, 101, 121, 115]⟩ : ByteArray).toList)) = false by rw [show (⟨#[107, 101, 121, 115]⟩ : ByteArray).toList = [107, 101, 121, 115] from ByteArray.toList_eq _]; simp [hk, n1])
        have HW2 := hid (show (decide ((tk T s1.nx).kind = 3) && decide ((tk T s1.nx).text.toList = (⟨#[116, 97, 105, 110, 116, 115]⟩ : ByteArray).toList)) = false by rw [show (⟨#[116, 97, 105, 110, 116, 115]⟩ : ByteArray).toList = [116, 97, 105, 110, 116, 115] from ByteArray.toList_eq _]; simp [hk, n2])
        have HW3 := hid (show (decide ((tk T s1.nx).kind = 3) && decide ((tk T s1.nx).text.toList = (⟨#[99, 97, 112]⟩ : ByteArray).toList)) = false by rw [show (⟨#[99, 97, 112]⟩ : ByteArray).toList = [99, 97, 112] from ByteArray.toList_eq _]; simp [hk, n3])
        clear hk n0 n1 n2 n3
        unfold fieldP
        rw [HFO.out, if_pos rfl, fcd_rf, bnd_bad]
        go_enter Tryz.func62, Tryz.ntmps62
        go_wp2_with fail
        go_quiet (fail)
        have HP1 := hid (HP.out.low (below_drewN (Below.refl _ W) nq))
        have HF1 := hid (Fmm.of (below_drewN (Below.refl _ W) nq) HP.out.size)
        generalize W.drewN nq = W1 at *
        clear q0 q1 q3
        have c1 : W1.cell? ⟨mb, 1, none⟩ = some (.int .i64 (n : Int)) := by rw [HN.out]; exact HP1.out.cell 1 (by decide)
        have f1 := frz_row HP1.out.box 1
        go_upto_region 2 with (fail)
        have HQ := hid (HP1.out.adv HKD.out)
        rw [← HN.out] at HQ
        have HF2 := hid (HF1.out.trans HQ.out.2)
        generalize W1.setCell ⟨mb, 1, none⟩ (.int .i64 ((n : Int) + 1)) = W2 at *
        clear c1 f1
        have HQ1 := hid HQ.out.1
        go_wp2_with fail
        refine (mmark_any HQ1.out ⟨#[91]⟩).mono ?_
        rintro e Y3 ⟨rfl, l⟩
        have HM3 := hid (HQ1.out.low l)
        have HG3 := hid (HF2.out.trans (Fmm.of l HQ1.out.size))
        have HL3 := hid l
        rw [HMK.out]
        clear l
        go_wp2_with fail
        refine (mtake_any HM3.out ⟨#[46]⟩).mono ?_
        rintro e Y4 hh
        rw [show (⟨#[46]⟩ : ByteArray).toList = [46] from ByteArray.toList_eq _] at hh
        rw [HR1.out] at hh
        obtain ⟨rfl, h8, h9⟩ := hh
        have HM4 := hid h8
        have HG4 := hid (HG3.out.trans h9)
        clear h8 h9
        go_wp2_with fail
        refine (mword_any HM4.out ⟨#[110, 97, 109, 101]⟩).mono ?_
        rintro e Y5 ⟨rfl, l⟩
        have HM5 := hid (HM4.out.low l)
        have HG5 := hid (HG4.out.trans (Fmm.of l HM4.out.size))
        have HL5 := hid l
        rw [HW0.out]
        clear l
        go_wp2_with fail
        refine (mword_any HM5.out ⟨#[107, 101, 121, 115]⟩).mono ?_
        rintro e Y6 ⟨rfl, l⟩
        have HM6 := hid (HM5.out.low l)
        have HG6 := hid (HG5.out.trans (Fmm.of l HM5.out.size))
        have HL6 := hid l
        rw [HW1.out]
        clear l
        go_wp2_with fail
        refine (mword_any HM6.out ⟨#[116, 97, 105, 110, 116, 115]⟩).mono ?_
        rintro e Y7 ⟨rfl, l⟩
        have HM7 := hid (HM6.out.low l)
        have HG7 := hid (HG6.out.trans (Fmm.of l HM6.out.size))
        have HL7 := hid l
        rw [HW2.out]
        clear l
        go_wp2_with fail
        refine (mword_any HM7.out ⟨#[99, 97, 112]⟩).mono ?_
        rintro e Y8 ⟨rfl, l⟩
        have HM8 := hid (HM7.out.low l)
        have HG8 := hid (HG7.out.trans (Fmm.of l HM7.out.size))
        have HL8 := hid l
        rw [HW3.out]
        clear l
        go_wp2_with fail
        refine (mfail_any HM8.out 120).mono ?_
        rintro e Y9 ⟨rfl, h2, h3⟩
        have HM9 := hid h2
        have HG9 := hid (HG8.out.trans h3)
        clear h2 h3
        go_wp2_with fail
        exact ⟨rfl, .tuple #[], by first | rfl | kernel_rfl, rfl, ⟨_, _, _, _, _, HM9.out⟩, HG9.out⟩
   ·have HFO := hid (show fieldO (tk T s1.nx) = 0 by unfold fieldO; rw [if_neg hk])
    have HW0 := hid (show (decide ((tk T s1.nx).kind = 3) && decide ((tk T s1.nx).text.toList = (⟨#[110, 97, 109, 101]⟩ : ByteArray).toList)) = false by rw [show (⟨#[110, 97, 109, 101]⟩ : ByteArray).toList = [110, 97, 109, 101] from ByteArray.toList_eq _]; simp [hk])
    have HW1 := hid (show (decide ((tk T s1.nx).kind = 3) && decide ((tk T s1.nx).text.toList = (⟨#[107, 101, 121, 115]⟩ : ByteArray).toList)) = false by rw [show (⟨#[107, 101, 121, 115]⟩ : ByteArray).toList = [107, 101, 121, 115] from ByteArray.toList_eq _]; simp [hk])
    have HW2 := hid (show (decide ((tk T s1.nx).kind = 3) && decide ((tk T s1.nx).text.toList = (⟨#[116, 97, 105, 110, 116, 115]⟩ : ByteArray).toList)) = false by rw [show (⟨#[116, 97, 105, 110, 116, 115]⟩ : ByteArray).toList = [116, 97, 105, 110, 116, 115] from ByteArray.toList_eq _]; simp [hk])
    have HW3 := hid (show (decide ((tk T s1.nx).kind = 3) && decide ((tk T s1.nx).text.toList = (⟨#[99, 97, 112]⟩ : ByteArray).toList)) = false by rw [show (⟨#[99, 97, 112]⟩ : ByteArray).toList = [99, 97, 112] from ByteArray.toList_eq _]; simp [hk])
    clear hk
    unfold fieldP
    rw [HFO.out, if_pos rfl, fcd_rf, bnd_bad]
    go_enter Tryz.func62, Tryz.ntmps62
    go_wp2_with fail
    go_quiet (fail)
    have HP1 := hid (HP.out.low (below_drewN (Below.refl _ W) nq))
    have HF1 := hid (Fmm.of (below_drewN (Below.refl _ W) nq) HP.out.size)
    generalize W.drewN nq = W1 at *
    clear q0 q1 q3
    have c1 : W1.cell? ⟨mb, 1, none⟩ = some (.int .i64 (n : Int)) := by rw [HN.out]; exact HP1.out.cell 1 (by decide)
    have f1 := frz_row HP1.out.box 1
    go_upto_region 2 with (fail)
    have HQ := hid (HP1.out.adv HKD.out)
    rw [← HN.out] at HQ
    have HF2 := hid (HF1.out.trans HQ.out.2)
    generalize W1.setCell ⟨mb, 1, none⟩ (.int .i64 ((n : Int) + 1)) = W2 at *
    clear c1 f1
    have HQ1 := hid HQ.out.1
    go_wp2_with fail
    refine (mmark_any HQ1.out ⟨#[91]⟩).mono ?_
    rintro e Y3 ⟨rfl, l⟩
    have HM3 := hid (HQ1.out.low l)
    have HG3 := hid (HF2.out.trans (Fmm.of l HQ1.out.size))
    have HL3 := hid l
    rw [HMK.out]
    clear l
    go_wp2_with fail
    refine (mtake_any HM3.out ⟨#[46]⟩).mono ?_
    rintro e Y4 hh
    rw [show (⟨#[46]⟩ : ByteArray).toList = [46] from ByteArray.toList_eq _] at hh
    rw [HR1.out] at hh
    obtain ⟨rfl, h8, h9⟩ := hh
    have HM4 := hid h8
    have HG4 := hid (HG3.out.trans h9)
    clear h8 h9
    go_wp2_with fail
    refine (mword_any HM4.out ⟨#[110, 97, 109, 101]⟩).mono ?_
    rintro e Y5 ⟨rfl, l⟩
    have HM5 := hid (HM4.out.low l)
    have HG5 := hid (HG4.out.trans (Fmm.of l HM4.out.size))
    have HL5 := hid l
    rw [HW0.out]
    clear l
    go_wp2_with fail
    refine (mword_any HM5.out ⟨#[107, 101, 121, 115]⟩).mono ?_
    rintro e Y6 ⟨rfl, l⟩
    have HM6 := hid (HM5.out.low l)
    have HG6 := hid (HG5.out.trans (Fmm.of l HM5.out.size))
    have HL6 := hid l
    rw [HW1.out]
    clear l
    go_wp2_with fail
    refine (mword_any HM6.out ⟨#[116, 97, 105, 110, 116, 115]⟩).mono ?_
    rintro e Y7 ⟨rfl, l⟩
    have HM7 := hid (HM6.out.low l)
    have HG7 := hid (HG6.out.trans (Fmm.of l HM6.out.size))
    have HL7 := hid l
    rw [HW2.out]
    clear l
    go_wp2_with fail
    refine (mword_any HM7.out ⟨#[99, 97, 112]⟩).mono ?_
    rintro e Y8 ⟨rfl, l⟩
    have HM8 := hid (HM7.out.low l)
    have HG8 := hid (HG7.out.trans (Fmm.of l HM7.out.size))
    have HL8 := hid l
    rw [HW3.out]
    clear l
    go_wp2_with fail
    refine (mfail_any HM8.out 120).mono ?_
    rintro e Y9 ⟨rfl, h2, h3⟩
    have HM9 := hid h2
    have HG9 := hid (HG8.out.trans h3)
    clear h2 h3
    go_wp2_with fail
    exact ⟨rfl, .tuple #[], by first | rfl | kernel_rfl, rfl, ⟨_, _, _, _, _, HM9.out⟩, HG9.out⟩
end Go.Proofs.YtcldglilhhhdoaaGreatDoor.L
