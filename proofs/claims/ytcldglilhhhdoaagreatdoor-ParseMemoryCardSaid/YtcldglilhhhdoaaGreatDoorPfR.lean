import Derived.Test.YtcldglilhhhdoaaGreatDoorPfO
import Derived.Test.YtcldglilhhhdoaaGreatDoorPfP
import Derived.Test.YtcldglilhhhdoaaGreatDoorPfQ
namespace Go.Proofs.YtcldglilhhhdoaaGreatDoor.L
open Go.RowKit
set_option linter.unusedVariables false
set_option linter.unusedSimpArgs false
theorem MM.sht {mb B : Nat} {tv : Value} {T : List Tok} {W : World} {s : PS} {ws : List Wn} {fr : List Int} {fl : Array Value} {wv v o f : Value} {ks : Nat → Value} (h : MM mb B tv T W s ws fr fl wv v o f ks) (hn : 1 ≤ s.ns) : MM mb B tv T (W.setCell ⟨mb, 6, none⟩ (.int .i64 ((s.ns : Int) - 1))) (shutP s) ws fr fl wv v o f ks ∧ Fmm B W (W.setCell ⟨mb, 6, none⟩ (.int .i64 ((s.ns : Int) - 1))) := by
 refine ⟨h.chg ?_ (fun k _ hk => heap_setCell_other _ _ _ _ hk) rfl rfl h.nx (by show s.ns - 1 ≤ 32; have := h.ns; omega) h.fl19, Fmm.chg h rfl rfl rfl (by rw [World.size_setCell]; exact Nat.le_refl _) (fun k _ hk => heap_setCell_other _ _ _ _ hk)⟩
 rw [heap_setCell_same _ _ _ _ _ _ h.box, show ((s.ns : Int) - 1) = (((shutP s).ns : Nat) : Int) by show _ = ((s.ns - 1 : Nat) : Int); omega]
 cases fl
 simp [mc, shutP]
set_option maxHeartbeats 16000000 in
set_option maxRecDepth 100000 in
theorem mstep_any {mb B : Nat} {tv : Value} {T : List Tok} {W : World} {s : PS} {ws : List Wn} {fr : List Int} {fl : Array Value} {wv v o f : Value} {ks : Nat → Value} (h : MM mb B tv T W s ws fr fl wv v o f ks) (w : Wn) (hb : w.base ≤ fr.length) (hn : (w.w = 8 ∨ w.w = 9) → 1 ≤ s.ns) (hf1 : fr.length ≤ 90000) (hp1 : s.ps.length ≤ 90000) (ho1 : s.os.length ≤ 90000) (hl : ws.length ≤ 900) : Calls Tryz.prog 28 #[.pointer (some ⟨mb, 0, none⟩), .agg #[.int .i64 w.w, .int .i64 w.kd, .int .i64 w.pos, .string w.text, .int .i64 w.num, .int .i64 (w.base : Int)]] W fun e W' => e = .returned (.tuple #[]) ∧ Pst mb B tv T ws fl (stepM T w s fr) W' ∧ Fmm B W W' := by
 obtain ⟨N, hN⟩ : ∃ N, N = fr.length := ⟨_, rfl⟩
 have HNN := hid hN
 obtain ⟨fa, fc, hf⟩ := own_form h.free
 rw [← hN] at hf
 have HFE := hid hf
 have hNm : N ≤ maxLen := by rw [hN]; unfold maxLen; omega
 have HP := hid h
 clear h hf hN
 obtain ⟨a0, a1, a2, a3, a4, a5⟩ := w
 dsimp only at hb hn ⊢
 unfold stepM
 dsimp only
 by_cases hw : a0 = 1
 ·subst hw
  rw [if_pos rfl]
  clear hn
  rw [← HNN.out]
  go_enter Tryz.func28, Tryz.ntmps28
  go_upto_region 1 with fail
  have HB0 := hid (belowA W (.cells #[.int .i64 1, .int .i64 a1, .int .i64 a2, .string a3, .int .i64 a4, .int .i64 (a5 : Int)] 74))
  have HX0 := hid (heap_alloc_new W (.cells #[.int .i64 1, .int .i64 a1, .int .i64 a2, .string a3, .int .i64 a4, .int .i64 (a5 : Int)] 74))
  have HM1 := hid (HP.out.low HB0.out)
  have HG1 := hid (Fmm.of HB0.out HP.out.size)
  generalize W.alloc (.cells #[.int .i64 1, .int .i64 a1, .int .i64 a2, .string a3, .int .i64 a4, .int .i64 (a5 : Int)] 74) = Y1 at *
  generalize W.heap.size = bp at *
  have ⟨y0, y1, y2, y3, y4, y5⟩ := bx6 HX0.out
  have c5 : Y1.cell? ⟨mb, 5, none⟩ = some (.slice fa N fc) := (HM1.out.cell 5 (by decide)).trans (by rw [HFE.out]; rfl)
  go_wp2_with fail
  refine (mpush_any HM1.out ⟨2, 5, -1, ⟨#[]⟩, 0, N⟩ (by (try simp only [List.length_cons]); omega)).mono ?_
  rintro e Y2 ⟨rfl, ⟨wv2, h8⟩, h9⟩
  have HM2 := hid h8
  have HG2 := hid (HG1.out.trans h9)
  clear h8 h9
  clear c5
  go_wp2_with fail
  refine (mpush_any HM2.out (awt 3) (by (try simp only [List.length_cons]); omega)).mono ?_
  rintro e Y3 ⟨rfl, ⟨wv3, h8⟩, h9⟩
  have HM3 := hid h8
  have HG3 := hid (HG2.out.trans h9)
  clear h8 h9
  go_wp2_with fail
  exact ⟨rfl, .tuple #[], by first | rfl | kernel_rfl, rfl, ⟨_, _, _, _, _, HM3.out⟩, HG3.out⟩
 ·rw [if_neg hw]
  have e1 : (a0 == 1) = false := by simp [hw]
  have n1 := hw
  clear hw
  by_cases hw : a0 = 3
  ·subst hw
   rw [if_pos rfl]
   clear hn
   rw [← HNN.out]
   go_enter Tryz.func28, Tryz.ntmps28
   go_upto_region 1 with fail
   have HB0 := hid (belowA W (.cells #[.int .i64 3, .int .i64 a1, .int .i64 a2, .string a3, .int .i64 a4, .int .i64 (a5 : Int)] 74))
   have HX0 := hid (heap_alloc_new W (.cells #[.int .i64 3, .int .i64 a1, .int .i64 a2, .string a3, .int .i64 a4, .int .i64 (a5 : Int)] 74))
   have HM1 := hid (HP.out.low HB0.out)
   have HG1 := hid (Fmm.of HB0.out HP.out.size)
   generalize W.alloc (.cells #[.int .i64 3, .int .i64 a1, .int .i64 a2, .string a3, .int .i64 a4, .int .i64 (a5 : Int)] 74) = Y1 at *
   generalize W.heap.size = bp at *
   have ⟨y0, y1, y2, y3, y4, y5⟩ := bx6 HX0.out
   have c5 : Y1.cell? ⟨mb, 5, none⟩ = some (.slice fa N fc) := (HM1.out.cell 5 (by decide)).trans (by rw [HFE.out]; rfl)
   go_wp2_with fail
   refine (mpush_any HM1.out ⟨4, 4, -1, ⟨#[]⟩, 0, N⟩ (by (try simp only [List.length_cons]); omega)).mono ?_
   rintro e Y2 ⟨rfl, ⟨wv2, h8⟩, h9⟩
   have HM2 := hid h8
   have HG2 := hid (HG1.out.trans h9)
   clear h8 h9
   clear c5
   go_wp2_with fail
   refine (mpush_any HM2.out (awt 5) (by (try simp only [List.length_cons]); omega)).mono ?_
   rintro e Y3 ⟨rfl, ⟨wv3, h8⟩, h9⟩
   have HM3 := hid h8
   have HG3 := hid (HG2.out.trans h9)
   clear h8 h9
   go_wp2_with fail
   exact ⟨rfl, .tuple #[], by first | rfl | kernel_rfl, rfl, ⟨_, _, _, _, _, HM3.out⟩, HG3.out⟩
  ·rw [if_neg hw]
   have e3 : (a0 == 3) = false := by simp [hw]
   have n3 := hw
   clear hw
   by_cases hw : a0 = 2
   ·subst hw
    rw [if_pos rfl]
    clear hn
    go_enter Tryz.func28, Tryz.ntmps28
    go_upto_region 1 with fail
    have HB0 := hid (belowA W (.cells #[.int .i64 2, .int .i64 a1, .int .i64 a2, .string a3, .int .i64 a4, .int .i64 (a5 : Int)] 74))
    have HX0 := hid (heap_alloc_new W (.cells #[.int .i64 2, .int .i64 a1, .int .i64 a2, .string a3, .int .i64 a4, .int .i64 (a5 : Int)] 74))
    have HM1 := hid (HP.out.low HB0.out)
    have HG1 := hid (Fmm.of HB0.out HP.out.size)
    generalize W.alloc (.cells #[.int .i64 2, .int .i64 a1, .int .i64 a2, .string a3, .int .i64 a4, .int .i64 (a5 : Int)] 74) = Y1 at *
    generalize W.heap.size = bp at *
    have ⟨y0, y1, y2, y3, y4, y5⟩ := bx6 HX0.out
    go_wp2_with fail
    refine (mlist_any HM1.out ⟨2, a1, a2, a3, a4, a5⟩ ⟨#[124, 124]⟩ 3 hb (by omega) (by omega) (by omega) (by omega)).mono ?_
    rintro e Y2 ⟨rfl, h8, h9⟩
    have HE := hid h8
    have HG2 := hid (HG1.out.trans h9)
    clear h8 h9
    rw [show (⟨#[124, 124]⟩ : ByteArray).toList = [124, 124] from ByteArray.toList_eq _] at HE
    go_wp2_with fail
    exact ⟨rfl, .tuple #[], by first | rfl | kernel_rfl, rfl, HE.out, HG2.out⟩
   ·rw [if_neg hw]
    have e2 : (a0 == 2) = false := by simp [hw]
    have n2 := hw
    clear hw
    by_cases hw : a0 = 4
    ·subst hw
     rw [if_pos rfl]
     clear hn
     go_enter Tryz.func28, Tryz.ntmps28
     go_upto_region 1 with fail
     have HB0 := hid (belowA W (.cells #[.int .i64 4, .int .i64 a1, .int .i64 a2, .string a3, .int .i64 a4, .int .i64 (a5 : Int)] 74))
     have HX0 := hid (heap_alloc_new W (.cells #[.int .i64 4, .int .i64 a1, .int .i64 a2, .string a3, .int .i64 a4, .int .i64 (a5 : Int)] 74))
     have HM1 := hid (HP.out.low HB0.out)
     have HG1 := hid (Fmm.of HB0.out HP.out.size)
     generalize W.alloc (.cells #[.int .i64 4, .int .i64 a1, .int .i64 a2, .string a3, .int .i64 a4, .int .i64 (a5 : Int)] 74) = Y1 at *
     generalize W.heap.size = bp at *
     have ⟨y0, y1, y2, y3, y4, y5⟩ := bx6 HX0.out
     go_wp2_with fail
     refine (mlist_any HM1.out ⟨4, a1, a2, a3, a4, a5⟩ ⟨#[38, 38]⟩ 5 hb (by omega) (by omega) (by omega) (by omega)).mono ?_
     rintro e Y2 ⟨rfl, h8, h9⟩
     have HE := hid h8
     have HG2 := hid (HG1.out.trans h9)
     clear h8 h9
     rw [show (⟨#[38, 38]⟩ : ByteArray).toList = [38, 38] from ByteArray.toList_eq _] at HE
     go_wp2_with fail
     exact ⟨rfl, .tuple #[], by first | rfl | kernel_rfl, rfl, HE.out, HG2.out⟩
    ·rw [if_neg hw]
     have e4 : (a0 == 4) = false := by simp [hw]
     have n4 := hw
     clear hw
     by_cases hw : a0 = 5
     ·subst hw
      rw [if_pos rfl]
      clear hn
      go_enter Tryz.func28, Tryz.ntmps28
      go_upto_region 1 with fail
      have HB0 := hid (belowA W (.cells #[.int .i64 5, .int .i64 a1, .int .i64 a2, .string a3, .int .i64 a4, .int .i64 (a5 : Int)] 74))
      have HX0 := hid (heap_alloc_new W (.cells #[.int .i64 5, .int .i64 a1, .int .i64 a2, .string a3, .int .i64 a4, .int .i64 (a5 : Int)] 74))
      have HM1 := hid (HP.out.low HB0.out)
      have HG1 := hid (Fmm.of HB0.out HP.out.size)
      generalize W.alloc (.cells #[.int .i64 5, .int .i64 a1, .int .i64 a2, .string a3, .int .i64 a4, .int .i64 (a5 : Int)] 74) = Y1 at *
      generalize W.heap.size = bp at *
      have ⟨y0, y1, y2, y3, y4, y5⟩ := bx6 HX0.out
      go_wp2_with fail
      refine (munit_any HM1.out hf1 hp1 ho1 hl).mono ?_
      rintro e Y2 ⟨rfl, h8, h9⟩
      have HE := hid h8
      have HG2 := hid (HG1.out.trans h9)
      clear h8 h9
      go_wp2_with fail
      exact ⟨rfl, .tuple #[], by first | rfl | kernel_rfl, rfl, HE.out, HG2.out⟩
     ·rw [if_neg hw]
      have e5 : (a0 == 5) = false := by simp [hw]
      have n5 := hw
      clear hw
      by_cases hw : a0 = 6
      ·subst hw
       rw [if_pos rfl]
       clear hn
       go_enter Tryz.func28, Tryz.ntmps28
       go_upto_region 1 with fail
       have HB0 := hid (belowA W (.cells #[.int .i64 6, .int .i64 a1, .int .i64 a2, .string a3, .int .i64 a4, .int .i64 (a5 : Int)] 74))
       have HX0 := hid (heap_alloc_new W (.cells #[.int .i64 6, .int .i64 a1, .int .i64 a2, .string a3, .int .i64 a4, .int .i64 (a5 : Int)] 74))
       have HM1 := hid (HP.out.low HB0.out)
       have HG1 := hid (Fmm.of HB0.out HP.out.size)
       generalize W.alloc (.cells #[.int .i64 6, .int .i64 a1, .int .i64 a2, .string a3, .int .i64 a4, .int .i64 (a5 : Int)] 74) = Y1 at *
       generalize W.heap.size = bp at *
       have ⟨y0, y1, y2, y3, y4, y5⟩ := bx6 HX0.out
       go_wp2_with fail
       refine (mterm_any HM1.out hf1 hp1 ho1 hl).mono ?_
       rintro e Y2 ⟨rfl, h8, h9⟩
       have HE := hid h8
       have HG2 := hid (HG1.out.trans h9)
       clear h8 h9
       go_wp2_with fail
       exact ⟨rfl, .tuple #[], by first | rfl | kernel_rfl, rfl, HE.out, HG2.out⟩
      ·rw [if_neg hw]
       have e6 : (a0 == 6) = false := by simp [hw]
       have n6 := hw
       clear hw
       by_cases hw : a0 = 7
       ·subst hw
        rw [if_pos rfl]
        clear hn
        go_enter Tryz.func28, Tryz.ntmps28
        go_upto_region 1 with fail
        have HB0 := hid (belowA W (.cells #[.int .i64 7, .int .i64 a1, .int .i64 a2, .string a3, .int .i64 a4, .int .i64 (a5 : Int)] 74))
        have HX0 := hid (heap_alloc_new W (.cells #[.int .i64 7, .int .i64 a1, .int .i64 a2, .string a3, .int .i64 a4, .int .i64 (a5 : Int)] 74))
        have HM1 := hid (HP.out.low HB0.out)
        have HG1 := hid (Fmm.of HB0.out HP.out.size)
        generalize W.alloc (.cells #[.int .i64 7, .int .i64 a1, .int .i64 a2, .string a3, .int .i64 a4, .int .i64 (a5 : Int)] 74) = Y1 at *
        generalize W.heap.size = bp at *
        have ⟨y0, y1, y2, y3, y4, y5⟩ := bx6 HX0.out
        go_wp2_with fail
        refine (mrel_any HM1.out a5 hl).mono ?_
        rintro e Y2 ⟨rfl, h8, h9⟩
        have HE := hid h8
        have HG2 := hid (HG1.out.trans h9)
        clear h8 h9
        go_wp2_with fail
        exact ⟨rfl, .tuple #[], by first | rfl | kernel_rfl, rfl, HE.out, HG2.out⟩
       ·rw [if_neg hw]
        have e7 : (a0 == 7) = false := by simp [hw]
        have n7 := hw
        clear hw
        by_cases hw : a0 = 8
        ·subst hw
         rw [if_pos rfl]
         have HNS := hid (hn (by decide))
         clear hn
         cases h1 : markP T s [41] with
         | error q =>
          obtain ⟨c, x⟩ := q
          have HR1 := hid h1
          clear h1
          go_enter Tryz.func28, Tryz.ntmps28
          go_upto_region 1 with fail
          have HB0 := hid (belowA W (.cells #[.int .i64 8, .int .i64 a1, .int .i64 a2, .string a3, .int .i64 a4, .int .i64 (a5 : Int)] 74))
          have HX0 := hid (heap_alloc_new W (.cells #[.int .i64 8, .int .i64 a1, .int .i64 a2, .string a3, .int .i64 a4, .int .i64 (a5 : Int)] 74))
          have HM1 := hid (HP.out.low HB0.out)
          have HG1 := hid (Fmm.of HB0.out HP.out.size)
          generalize W.alloc (.cells #[.int .i64 8, .int .i64 a1, .int .i64 a2, .string a3, .int .i64 a4, .int .i64 (a5 : Int)] 74) = Y1 at *
          generalize W.heap.size = bp at *
          have ⟨y0, y1, y2, y3, y4, y5⟩ := bx6 HX0.out
          go_wp2_with fail
          refine (mtake_any HM1.out ⟨#[41]⟩).mono ?_
          rintro e Y2 hh
          rw [show (⟨#[41]⟩ : ByteArray).toList = [41] from ByteArray.toList_eq _] at hh
          rw [HR1.out] at hh
          obtain ⟨rfl, h8, h9⟩ := hh
          have HM2 := hid h8
          have HG2 := hid (HG1.out.trans h9)
          clear h8 h9
          go_wp2_with fail
          obtain ⟨s9, h9⟩ := HM2.out
          exact ⟨rfl, .tuple #[], by first | rfl | kernel_rfl, rfl, ⟨_, _, _, _, _, _, _, _, h9⟩, HG2.out⟩
         | ok q =>
          obtain ⟨u1, s1⟩ := q
          have HR1 := hid h1
          have HNS := hid (show 1 ≤ s1.ns by rw [mark_ok h1]; exact HNS.out)
          clear h1
          dsimp only [bnd]
          go_enter Tryz.func28, Tryz.ntmps28
          go_upto_region 1 with fail
          have HB0 := hid (belowA W (.cells #[.int .i64 8, .int .i64 a1, .int .i64 a2, .string a3, .int .i64 a4, .int .i64 (a5 : Int)] 74))
          have HX0 := hid (heap_alloc_new W (.cells #[.int .i64 8, .int .i64 a1, .int .i64 a2, .string a3, .int .i64 a4, .int .i64 (a5 : Int)] 74))
          have HM1 := hid (HP.out.low HB0.out)
          have HG1 := hid (Fmm.of HB0.out HP.out.size)
          generalize W.alloc (.cells #[.int .i64 8, .int .i64 a1, .int .i64 a2, .string a3, .int .i64 a4, .int .i64 (a5 : Int)] 74) = Y1 at *
          generalize W.heap.size = bp at *
          have ⟨y0, y1, y2, y3, y4, y5⟩ := bx6 HX0.out
          go_wp2_with fail
          refine (mtake_any HM1.out ⟨#[41]⟩).mono ?_
          rintro e Y2 hh
          rw [show (⟨#[41]⟩ : ByteArray).toList = [41] from ByteArray.toList_eq _] at hh
          rw [HR1.out] at hh
          obtain ⟨rfl, h8, h9⟩ := hh
          have HM2 := hid h8
          have HG2 := hid (HG1.out.trans h9)
          clear h8 h9
          clear y0 y1 y2 y3 y4 y5
          have hb9 : (s1.ns : Int) ≤ 32 := by have h8 := HM2.out.ns; omega
          have hb8 : (1 : Int) ≤ (s1.ns : Int) := by have h8 := HNS.out; omega
          have c1 : Y2.cell? ⟨mb, 6, none⟩ = some (.int .i64 (s1.ns : Int)) := HM2.out.cell 6 (by decide)
          have f1 := frz_row HM2.out.box 6
          go_wp2_with fail
          have HQ3 := hid (HM2.out.sht HNS.out)
          have HM3 := hid HQ3.out.1
          have HG3 := hid (HG2.out.trans HQ3.out.2)
          exact ⟨rfl, .tuple #[], by first | rfl | kernel_rfl, rfl, ⟨_, _, _, _, _, HM3.out⟩, HG3.out⟩
        ·rw [if_neg hw]
         have e8 : (a0 == 8) = false := by simp [hw]
         have n8 := hw
         clear hw
         by_cases hw : a0 = 9
         ·subst hw
          rw [if_pos rfl]
          have HNS := hid (hn (by decide))
          clear hn
          have HNE := hid (show W.heap.size ≠ mb from fun e => (by have := lt_blk HP.out.box; omega))
          go_enter Tryz.func28, Tryz.ntmps28
          go_upto_region 1 with fail
          have HB0 := hid (belowA W (.cells #[.int .i64 9, .int .i64 a1, .int .i64 a2, .string a3, .int .i64 a4, .int .i64 (a5 : Int)] 74))
          have HX0 := hid (heap_alloc_new W (.cells #[.int .i64 9, .int .i64 a1, .int .i64 a2, .string a3, .int .i64 a4, .int .i64 (a5 : Int)] 74))
          have HM1 := hid (HP.out.low HB0.out)
          have HG1 := hid (Fmm.of HB0.out HP.out.size)
          generalize W.alloc (.cells #[.int .i64 9, .int .i64 a1, .int .i64 a2, .string a3, .int .i64 a4, .int .i64 (a5 : Int)] 74) = Y1 at *
          generalize W.heap.size = bp at *
          have ⟨y0, y1, y2, y3, y4, y5⟩ := bx6 HX0.out
          have hb9 : (s.ns : Int) ≤ 32 := by have h8 := HM1.out.ns; omega
          have hb8 : (1 : Int) ≤ (s.ns : Int) := by have h8 := HNS.out; omega
          have c1 : Y1.cell? ⟨mb, 6, none⟩ = some (.int .i64 (s.ns : Int)) := HM1.out.cell 6 (by decide)
          have f1 := frz_row HM1.out.box 6
          go_upto_region 24 with (fail)
          have HQ2 := hid (HM1.out.sht HNS.out)
          have HM2 := hid HQ2.out.1
          have HG2 := hid (HG1.out.trans HQ2.out.2)
          have HX2 := hid ((set_oth HM1.out.box 6 (.int .i64 ((s.ns : Int) - 1)) HNE.out).trans HX0.out)
          generalize Y1.setCell ⟨mb, 6, none⟩ (.int .i64 ((s.ns : Int) - 1)) = Y2 at *
          clear c1 f1 y0 y1 y2 y3 y4 y5
          have ⟨y0, y1, y2, y3, y4, y5⟩ := bx6 HX2.out
          go_wp2_with fail
          refine (mlay_any HM2.out 3 0 a2 ⟨#[]⟩ a5 hb (by omega) (by show s.ps.length ≤ _; omega) (by show s.os.length ≤ _; omega)).mono ?_
          rintro e Y3 ⟨rfl, ⟨v9, o9, f9, k9, h8⟩, h9⟩
          have HE := hid h8
          have HG3 := hid (HG2.out.trans h9)
          clear h8 h9
          go_wp2_with fail
          exact ⟨rfl, .tuple #[], by first | rfl | kernel_rfl, rfl, ⟨_, _, _, _, _, HE.out⟩, HG3.out⟩
         ·rw [if_neg hw]
          have e9 : (a0 == 9) = false := by simp [hw]
          have n9 := hw
          clear hw
          by_cases hw : a0 = 10 ∨ a0 = 11
          ·rw [if_pos hw]
           clear hn n1 n3 n2 n4 n5 n6 n7 n8 n9
           rcases hw with hw | hw
           ·subst hw
            go_enter Tryz.func28, Tryz.ntmps28
            go_upto_region 1 with fail
            have HB0 := hid (belowA W (.cells #[.int .i64 10, .int .i64 a1, .int .i64 a2, .string a3, .int .i64 a4, .int .i64 (a5 : Int)] 74))
            have HX0 := hid (heap_alloc_new W (.cells #[.int .i64 10, .int .i64 a1, .int .i64 a2, .string a3, .int .i64 a4, .int .i64 (a5 : Int)] 74))
            have HM1 := hid (HP.out.low HB0.out)
            have HG1 := hid (Fmm.of HB0.out HP.out.size)
            generalize W.alloc (.cells #[.int .i64 10, .int .i64 a1, .int .i64 a2, .string a3, .int .i64 a4, .int .i64 (a5 : Int)] 74) = Y1 at *
            generalize W.heap.size = bp at *
            have ⟨y0, y1, y2, y3, y4, y5⟩ := bx6 HX0.out
            go_wp2_with fail
            refine (mlay_any HM1.out a1 a4 a2 a3 a5 hb (by omega) (by show s.ps.length ≤ _; omega) (by show s.os.length ≤ _; omega)).mono ?_
            rintro e Y2 ⟨rfl, ⟨v9, o9, f9, k9, h8⟩, h9⟩
            have HE := hid h8
            have HG2 := hid (HG1.out.trans h9)
            clear h8 h9
            go_wp2_with fail
            exact ⟨rfl, .tuple #[], by first | rfl | kernel_rfl, rfl, ⟨_, _, _, _, _, HE.out⟩, HG2.out⟩
           ·subst hw
            go_enter Tryz.func28, Tryz.ntmps28
            go_upto_region 1 with fail
            have HB0 := hid (belowA W (.cells #[.int .i64 11, .int .i64 a1, .int .i64 a2, .string a3, .int .i64 a4, .int .i64 (a5 : Int)] 74))
            have HX0 := hid (heap_alloc_new W (.cells #[.int .i64 11, .int .i64 a1, .int .i64 a2, .string a3, .int .i64 a4, .int .i64 (a5 : Int)] 74))
            have HM1 := hid (HP.out.low HB0.out)
            have HG1 := hid (Fmm.of HB0.out HP.out.size)
            generalize W.alloc (.cells #[.int .i64 11, .int .i64 a1, .int .i64 a2, .string a3, .int .i64 a4, .int .i64 (a5 : Int)] 74) = Y1 at *
            generalize W.heap.size = bp at *
            have ⟨y0, y1, y2, y3, y4, y5⟩ := bx6 HX0.out
            go_wp2_with fail
            refine (mlay_any HM1.out a1 a4 a2 a3 a5 hb (by omega) (by show s.ps.length ≤ _; omega) (by show s.os.length ≤ _; omega)).mono ?_
            rintro e Y2 ⟨rfl, ⟨v9, o9, f9, k9, h8⟩, h9⟩
            have HE := hid h8
            have HG2 := hid (HG1.out.trans h9)
            clear h8 h9
            go_wp2_with fail
            exact ⟨rfl, .tuple #[], by first | rfl | kernel_rfl, rfl, ⟨_, _, _, _, _, HE.out⟩, HG2.out⟩
          ·rw [if_neg hw]
           have e10 : (a0 == 10) = false := by simp; omega
           have e11 : (a0 == 11) = false := by simp; omega
           by_cases hv : a0 = 12
           ·subst hv
            rw [if_pos rfl]
            clear hn hw n1 n3 n2 n4 n5 n6 n7 n8 n9
            by_cases hk : (tk T s.nx).kind = 0
            ·rw [if_pos hk]
             go_enter Tryz.func28, Tryz.ntmps28
             go_upto_region 1 with fail
             have HB0 := hid (belowA W (.cells #[.int .i64 12, .int .i64 a1, .int .i64 a2, .string a3, .int .i64 a4, .int .i64 (a5 : Int)] 74))
             have HX0 := hid (heap_alloc_new W (.cells #[.int .i64 12, .int .i64 a1, .int .i64 a2, .string a3, .int .i64 a4, .int .i64 (a5 : Int)] 74))
             have HM1 := hid (HP.out.low HB0.out)
             have HG1 := hid (Fmm.of HB0.out HP.out.size)
             generalize W.alloc (.cells #[.int .i64 12, .int .i64 a1, .int .i64 a2, .string a3, .int .i64 a4, .int .i64 (a5 : Int)] 74) = Y1 at *
             generalize W.heap.size = bp at *
             have ⟨y0, y1, y2, y3, y4, y5⟩ := bx6 HX0.out
             obtain ⟨g, cap, hgc, hgl, hc⟩ := HM1.out.tokc
             have hnx := HM1.out.nx
             obtain ⟨t, ht⟩ : ∃ t, t = tk T s.nx := ⟨_, rfl⟩
             have q0 : Y1.cell? ⟨mb, 0, none⟩ = some (.slice (some ⟨g, 0, none⟩) T.length cap) := (HM1.out.cell 0 (by decide)).trans (by rw [hgc]; rfl)
             have q1 : Y1.cell? ⟨mb, 1, none⟩ = some (.int .i64 (s.nx : Int)) := HM1.out.cell 1 (by decide)
             have q3 : Y1.cell? ⟨g, s.nx * 5, none⟩ = some (.int .i64 (t.kind : Int)) := by rw [ht]; exact hc s.nx 0 hnx (by decide)
             have g1 : (s.nx : Int) < (T.length : Int) := by omega
             have g0 : (0 : Int) ≤ (s.nx : Int) := by omega
             have e0 : ((t.kind : Int) != 0) = false := by rw [ht, hk]; rfl
             have HHT := hid ht
             clear ht hk hc hgc
             go_wp2_with fail
             go_quiet (fail)
             have HM2 := hid (HM1.out.low (below_drewN (Below.refl _ Y1) nq))
             have HG2 := hid (HG1.out.trans (Fmm.of (below_drewN (Below.refl _ Y1) nq) HM1.out.size))
             generalize Y1.drewN nq = Y2 at *
             go_wp2_with fail
             exact ⟨rfl, .tuple #[], by first | rfl | kernel_rfl, rfl, ⟨_, _, _, _, _, HM2.out⟩, HG2.out⟩
            ·rw [if_neg hk, fcd_rf]
             go_enter Tryz.func28, Tryz.ntmps28
             go_upto_region 1 with fail
             have HB0 := hid (belowA W (.cells #[.int .i64 12, .int .i64 a1, .int .i64 a2, .string a3, .int .i64 a4, .int .i64 (a5 : Int)] 74))
             have HX0 := hid (heap_alloc_new W (.cells #[.int .i64 12, .int .i64 a1, .int .i64 a2, .string a3, .int .i64 a4, .int .i64 (a5 : Int)] 74))
             have HM1 := hid (HP.out.low HB0.out)
             have HG1 := hid (Fmm.of HB0.out HP.out.size)
             generalize W.alloc (.cells #[.int .i64 12, .int .i64 a1, .int .i64 a2, .string a3, .int .i64 a4, .int .i64 (a5 : Int)] 74) = Y1 at *
             generalize W.heap.size = bp at *
             have ⟨y0, y1, y2, y3, y4, y5⟩ := bx6 HX0.out
             obtain ⟨g, cap, hgc, hgl, hc⟩ := HM1.out.tokc
             have hnx := HM1.out.nx
             obtain ⟨t, ht⟩ : ∃ t, t = tk T s.nx := ⟨_, rfl⟩
             have q0 : Y1.cell? ⟨mb, 0, none⟩ = some (.slice (some ⟨g, 0, none⟩) T.length cap) := (HM1.out.cell 0 (by decide)).trans (by rw [hgc]; rfl)
             have q1 : Y1.cell? ⟨mb, 1, none⟩ = some (.int .i64 (s.nx : Int)) := HM1.out.cell 1 (by decide)
             have q3 : Y1.cell? ⟨g, s.nx * 5, none⟩ = some (.int .i64 (t.kind : Int)) := by rw [ht]; exact hc s.nx 0 hnx (by decide)
             have g1 : (s.nx : Int) < (T.length : Int) := by omega
             have g0 : (0 : Int) ≤ (s.nx : Int) := by omega
             have e0 : ((t.kind : Int) != 0) = true := by rw [ht]; simp; omega
             have HHT := hid ht
             clear ht hk hc hgc
             go_wp2_with fail
             go_quiet (fail)
             have HM2 := hid (HM1.out.low (below_drewN (Below.refl _ Y1) nq))
             have HG2 := hid (HG1.out.trans (Fmm.of (below_drewN (Below.refl _ Y1) nq) HM1.out.size))
             generalize Y1.drewN nq = Y2 at *
             go_wp2_with fail
             refine (mfail_any HM2.out 120).mono ?_
             rintro e Y3 ⟨rfl, h2, h3⟩
             have HM3 := hid h2
             have HG3 := hid (HG2.out.trans h3)
             clear h2 h3
             go_wp2_with fail
             exact ⟨rfl, .tuple #[], by first | rfl | kernel_rfl, rfl, ⟨_, _, _, _, _, _, _, _, HM3.out⟩, HG3.out⟩
           ·rw [if_neg hv]
            have e12 : (a0 == 12) = false := by simp [hv]
            clear hn hw hv n1 n3 n2 n4 n5 n6 n7 n8 n9
            go_enter Tryz.func28, Tryz.ntmps28
            go_upto_region 1 with fail
            have HB0 := hid (belowA W (.cells #[.int .i64 a0, .int .i64 a1, .int .i64 a2, .string a3, .int .i64 a4, .int .i64 (a5 : Int)] 74))
            have HX0 := hid (heap_alloc_new W (.cells #[.int .i64 a0, .int .i64 a1, .int .i64 a2, .string a3, .int .i64 a4, .int .i64 (a5 : Int)] 74))
            have HM1 := hid (HP.out.low HB0.out)
            have HG1 := hid (Fmm.of HB0.out HP.out.size)
            generalize W.alloc (.cells #[.int .i64 a0, .int .i64 a1, .int .i64 a2, .string a3, .int .i64 a4, .int .i64 (a5 : Int)] 74) = Y1 at *
            generalize W.heap.size = bp at *
            have ⟨y0, y1, y2, y3, y4, y5⟩ := bx6 HX0.out
            go_wp2_with fail
            exact ⟨rfl, .tuple #[], by first | rfl | kernel_rfl, rfl, ⟨_, _, _, _, _, HM1.out⟩, HG1.out⟩
end Go.Proofs.YtcldglilhhhdoaaGreatDoor.L
