import Derived.Test.YtodamoblnlcodaaDoorLv3
import Derived.Test.YtodamoblnlcodaaDoorLw2
import Derived.Test.YtodamoblnlcodaaDoorRd2
import Derived.Test.YtodamoblnlcodaaDoorDno
import Derived.Test.YtodamoblnlcodaaDoorWak
namespace Go.Proofs.YtodamoblnlcodaaDoor.L
open Go.RowKit Go.Shelf
set_option linter.unusedVariables false
attribute [local go_sem] Oper.semAt_some
theorem came_part {w : World} {base g N cap : Nat} {l x : List Lb} (h : Own w base (.slice (some ⟨g, 0, none⟩) N cap) (l ++ x)) (L : Nat) (hL : L = l.length) : Came w (.slice (some ⟨g, 0, none⟩) L cap) l := by
  have hp := own_part h L hL
  subst hL
  obtain ⟨a', c', e, hr⟩ := hp
  injection e with e1 _ e3
  refine Or.inr ⟨_, cap, rfl, ?_, ?_⟩
  · rcases h.2 with ⟨e, _⟩ | ⟨g', cap', cur, e, _, _, hc, hm, _⟩
    · cases e
    · injection e with _ _ e4
      rw [List.length_append] at hc
      omega
  · rcases hr with h0 | ⟨b, off, ea, hb, hc⟩
    · exact Or.inl h0
    · rw [ea] at e1
      injection e1 with e1
      exact Or.inr ⟨b, off, e1, hb, hc⟩
theorem rdiff_all (v1 v2 : Value) (a b : List Lb) (w : World) (h1 : Items w v1 a) (h2 : Items w v2 b) (g1 : Good a) (g2 : Good b) :
    Calls Tryd.prog 6 #[v1, v2] w fun e w' => ∃ v', e = .returned v' ∧ ItemsD w' v' (dfA a b) ∧ Below w.heap.size w w' := by
  by_cases h : (checkN a).2 = 0 ∧ (checkN b).2 = 0
  · unfold dfA
    rw [if_pos h]
    exact rdiff_ok v1 v2 a b w h1 h2 g1 g2 (check_iff h.1) (check_iff h.2)
  · refine (rdiff_no v1 v2 a b w h1 h2 g1 g2 h).mono ?_
    rintro e w' ⟨rfl, hb⟩
    unfold dfA
    rw [if_neg h]
    exact ⟨_, rfl, ⟨none, 0, rfl, Or.inl rfl⟩, hb⟩
theorem itemsD_form {W : World} {v : Value} {L : List Df} (h : ItemsD W v L) : ∃ a cap, v = .slice a L.length cap := by
  obtain ⟨a, c, e, _⟩ := h
  exact ⟨a, c, e⟩
/-- What Diff answers, of any lists. -/
theorem diff_all (v1 v2 : Value) (l1 l2 : List Lb) (w : World) (h1 : Came w v1 l1) (h2 : Came w v2 l2) (g1 : Good l1) (g2 : Good l2) :
    ∃ LA LC, dfA l1 l2 = df LA LC ∧ Calls Tryd.prog 8 #[v1, v2] w (DiffPost w LA LC) := by
  by_cases h : (checkN l1).2 = 0 ∧ (checkN l2).2 = 0
  · exact ⟨l1, l2, by unfold dfA; rw [if_pos h], diff_ok v1 v2 l1 l2 w h1 h2 g1 g2 (check_iff h.1) (check_iff h.2)⟩
  · exact ⟨[], [], by unfold dfA; rw [if_neg h, df_self], diff_no v1 v2 l1 l2 w h1 h2 g1 g2 h⟩
def a1L : List Lb := [(⟨#[97]⟩, ⟨#[49]⟩)]
theorem a1_ok : OkL a1L := ⟨by decide, by unfold a1L Up; simp, by decide +kernel⟩
theorem a1_good : Good a1L := ⟨⟨by decide, by decide⟩, by unfold maxLen; decide +kernel⟩
theorem a1_len : (dfA a1L []).length = 1 := by
  have : dfA a1L [] = df a1L [] := by unfold dfA; rw [check_ok a1_ok, check_ok ok_nil]; rfl
  rw [this]
  unfold a1L
  simp [df]
/-- What the law has laid when it has asked for its walk. -/
structure Pr (w WA W : World) (b7 b12 B n0 g1 c1 g2 c2 : Nat) (E : Int) (wv x1 x2 : Value) (l1 l2 LA LC : List Lb) : Prop where
  low : Below w.heap.size w WA
  stp : Boxed WA w.heap.size 3 (.int .i64 E)
  res : Boxed WA (w.heap.size + 1) 4 (.bool false)
  want : Boxed WA b7 24 wv
  lst : ItemsD WA wv (dfA l1 l2)
  up : Below WA.heap.size WA W
  o1 : Own W WA.heap.size (.slice (some ⟨g1, 0, none⟩) (l1.length + 80) c1) (l1 ++ spr 80)
  o2 : Own W WA.heap.size (.slice (some ⟨g2, 0, none⟩) (l2.length + 80) c2) (l2 ++ spr 80)
  hg1 : g1 < B
  hg2 : g2 < B
  ne : g1 ≠ g2
  seq : Boxed W b12 31 (diffV B)
  c1 : W.cell? ⟨B, 0, none⟩ = some x1
  c2 : W.cell? ⟨B + 1, 0, none⟩ = some x2
  s1 : Sl B n0 W x1 LA
  s2 : Sl B n0 W x2 LC
  hB : B + 1 < n0
  hn : n0 ≤ b12
  eq : dfA l1 l2 = df LA LC
theorem own_blk {w : World} {base g N cap : Nat} {l : List Lb} (h : Own w base (.slice (some ⟨g, 0, none⟩) N cap) l) : base ≤ g ∧ g < w.heap.size := h.lt g rfl
theorem own_cap {w : World} {base g L cap : Nat} {l : List Lb} (h : Own w base (.slice (some ⟨g, 0, none⟩) (L + 80) cap) (l ++ spr 80)) (hL : L = l.length) : L + 80 ≤ cap := by
  rcases h.2 with ⟨e, _⟩ | ⟨g', cp', cur, e, _, _, hc, _⟩
  · cases e
  · injection e with _ e2 e3
    rw [List.length_append, spr_len] at hc
    omega
theorem sf_0 : (Option.getD Tryd.f3.body Code.skip) = .seq (hdC (Option.getD Tryd.f3.body Code.skip)) (rtC (Option.getD Tryd.f3.body Code.skip)) := by kernel_rfl
theorem sf_1 : (rtC (Option.getD Tryd.f3.body Code.skip)) = .seq (hdC (rtC (Option.getD Tryd.f3.body Code.skip))) (rtC (rtC (Option.getD Tryd.f3.body Code.skip))) := by kernel_rfl
theorem sf_2 : (rtC (rtC (Option.getD Tryd.f3.body Code.skip))) = .seq (hdC (rtC (rtC (Option.getD Tryd.f3.body Code.skip)))) (rtC (rtC (rtC (Option.getD Tryd.f3.body Code.skip)))) := by kernel_rfl
theorem sf_3 : (rtC (rtC (rtC (Option.getD Tryd.f3.body Code.skip)))) = .seq (hdC (rtC (rtC (rtC (Option.getD Tryd.f3.body Code.skip))))) (rtC (rtC (rtC (rtC (Option.getD Tryd.f3.body Code.skip))))) := by kernel_rfl
theorem sf_4 : (rtC (rtC (rtC (rtC (Option.getD Tryd.f3.body Code.skip))))) = .seq (hdC (rtC (rtC (rtC (rtC (Option.getD Tryd.f3.body Code.skip)))))) (rtC (rtC (rtC (rtC (rtC (Option.getD Tryd.f3.body Code.skip)))))) := by kernel_rfl
theorem sf_5 : (rtC (rtC (rtC (rtC (rtC (Option.getD Tryd.f3.body Code.skip)))))) = .seq (hdC (rtC (rtC (rtC (rtC (rtC (Option.getD Tryd.f3.body Code.skip))))))) (rtC (rtC (rtC (rtC (rtC (rtC (Option.getD Tryd.f3.body Code.skip))))))) := by kernel_rfl
theorem sf_6 : (rtC (rtC (rtC (rtC (rtC (rtC (Option.getD Tryd.f3.body Code.skip))))))) = .seq (hdC (rtC (rtC (rtC (rtC (rtC (rtC (Option.getD Tryd.f3.body Code.skip)))))))) (rtC (rtC (rtC (rtC (rtC (rtC (rtC (Option.getD Tryd.f3.body Code.skip)))))))) := by kernel_rfl
set_option maxHeartbeats 16000000 in
set_option maxRecDepth 100000 in
theorem seg_0 (R : Exit → Act → World → Prop) (v1 v2 : Value) (l1 l2 : List Lb) (L1 L2 : Nat) (hL1 : L1 = l1.length) (hL2 : L2 = l2.length) (E : Int) (w : World) (hE : -9223372036854775808 ≤ E ∧ E ≤ 9223372036854775807) (m1 : Came w v1 l1) (m2 : Came w v2 l2) (gd1 : Good l1) (gd2 : Good l2)
    (nx : ∀ (a' : Act) (WA W' : World) (b7 b12 B n0 g1 c1 g2 c2 : Nat) (wv x1 x2 : Value) (LA LC : List Lb), (∃ u' : Nat → Value, a' = { tmps := #[v1, v2, u' 2, u' 3, u' 4, .pointer (some ⟨w.heap.size, 0, none⟩), .pointer (some ⟨(w.heap.size + 1), 0, none⟩), .pointer (some ⟨b7, 0, none⟩), u' 8, .slice (some ⟨g1, 0, none⟩) L1 c1, u' 10, .slice (some ⟨g2, 0, none⟩) L2 c2, .pointer (some ⟨b12, 0, none⟩), u' 13, u' 14, u' 15, u' 16, u' 17, u' 18, u' 19, u' 20, u' 21, u' 22, u' 23, u' 24, u' 25, u' 26, u' 27, u' 28, u' 29, u' 30, u' 31, u' 32, u' 33, u' 34, u' 35, u' 36, u' 37, u' 38, u' 39, u' 40, u' 41, u' 42, u' 43, u' 44, u' 45, u' 46, u' 47, u' 48, u' 49, u' 50, u' 51, u' 52, u' 53, u' 54, u' 55, u' 56, u' 57, u' 58, u' 59, u' 60, u' 61, u' 62, u' 63, u' 64, u' 65, u' 66, u' 67, u' 68, u' 69, u' 70, u' 71, u' 72, u' 73, u' 74, u' 75, u' 76, u' 77, u' 78, u' 79, u' 80, u' 81, u' 82, u' 83, u' 84, u' 85, u' 86, u' 87, u' 88, u' 89, u' 90, u' 91, u' 92, u' 93, u' 94, u' 95, u' 96, u' 97, u' 98, u' 99, u' 100, u' 101, u' 102, u' 103, u' 104, u' 105, u' 106, u' 107, u' 108, u' 109, u' 110, u' 111, u' 112, u' 113, u' 114, u' 115, u' 116, u' 117, u' 118, u' 119, u' 120, u' 121, u' 122, u' 123, u' 124, u' 125, u' 126, u' 127, u' 128, u' 129, u' 130, u' 131, u' 132, u' 133, u' 134, u' 135, u' 136, u' 137, u' 138, u' 139, u' 140, u' 141, u' 142, u' 143, u' 144, u' 145, u' 146, u' 147, u' 148, u' 149, u' 150, u' 151, u' 152, u' 153, u' 154, u' 155, u' 156, u' 157, u' 158, u' 159, u' 160, u' 161, u' 162, u' 163, u' 164, u' 165, u' 166], defers := [] } ∧ True) → Pr w WA W' b7 b12 B n0 g1 c1 g2 c2 E wv x1 x2 l1 l2 LA LC → (rtC (rtC (rtC (rtC (rtC (rtC (rtC (Option.getD Tryd.f3.body Code.skip)))))))).wpIn Fence.wide 4 Tryd.prog R a' W') :
    (Option.getD Tryd.f3.body Code.skip).wpIn Fence.wide 4 Tryd.prog R { tmps := #[v1, v2, .int .i64 E, undef, undef, undef, undef, undef, undef, undef, undef, undef, undef, undef, undef, undef, undef, undef, undef, undef, undef, undef, undef, undef, undef, undef, undef, undef, undef, undef, undef, undef, undef, undef, undef, undef, undef, undef, undef, undef, undef, undef, undef, undef, undef, undef, undef, undef, undef, undef, undef, undef, undef, undef, undef, undef, undef, undef, undef, undef, undef, undef, undef, undef, undef, undef, undef, undef, undef, undef, undef, undef, undef, undef, undef, undef, undef, undef, undef, undef, undef, undef, undef, undef, undef, undef, undef, undef, undef, undef, undef, undef, undef, undef, undef, undef, undef, undef, undef, undef, undef, undef, undef, undef, undef, undef, undef, undef, undef, undef, undef, undef, undef, undef, undef, undef, undef, undef, undef, undef, undef, undef, undef, undef, undef, undef, undef, undef, undef, undef, undef, undef, undef, undef, undef, undef, undef, undef, undef, undef, undef, undef, undef, undef, undef, undef, undef, undef, undef, undef, undef, undef, undef, undef, undef, undef, undef, undef, undef, undef, undef, undef, undef, undef, undef, undef, undef], defers := [] } w := by
  have M1 := hid m1
  have M2 := hid m2
  have G1 := hid gd1
  have G2 := hid gd2
  have HL1 := hid hL1
  have HL2 := hid hL2
  have NX := hid nx
  have hl1 := gd1.1.2
  have hl2 := gd2.1.2
  rw [← hL1] at hl1
  rw [← hL2] at hl2
  clear m1 m2 gd1 gd2 nx hL1 hL2
  have WK := hid (fun W b (h1 : Came W (.slice (some ⟨b, 0, none⟩) 1 1) a1L) => walk_all (.slice (some ⟨b, 0, none⟩) 1 1) (.slice none 0 0) a1L [] W h1 (Or.inl ⟨rfl, rfl⟩) a1_good good_nil)
  have AW := hid (fun W => wakes_any W)
  have RD := hid (fun W (hb : Below w.heap.size w W) => rdiff_all v1 v2 l1 l2 W (M1.out.low hb).items (M2.out.low hb).items G1.out G2.out)
  have RM1 := hid (fun W (hb : Below w.heap.size w W) => roomy_any v1 l1 W (M1.out.low hb) G1.out)
  have RM2 := hid (fun W (hb : Below w.heap.size w W) => roomy_any v2 l2 W (M2.out.low hb) G2.out)
  rw [← HL1.out] at RM1
  rw [← HL2.out] at RM2
  obtain ⟨av1, cv1, hv1⟩ := came_form' M1.out
  obtain ⟨av2, cv2, hv2⟩ := came_form' M2.out
  rw [← HL1.out] at hv1
  rw [← HL2.out] at hv2
  have HV1 := hid hv1
  have HV2 := hid hv2
  clear hv1 hv2
  rw [sf_0, sf_1, sf_2, sf_3, sf_4, sf_5, sf_6]
  generalize hT : (rtC (rtC (rtC (rtC (rtC (rtC (rtC (Option.getD Tryd.f3.body Code.skip)))))))) = TL at *
  clear hT
  simp only [hdC, rtC, Option.getD, Tryd.f3]
  refine (wpIn_wide (n := 4)).2 ?_
  have b0 := belowA w (.cells #[.int .i64 E] 3)
  have b1 := belowA (w.alloc (.cells #[.int .i64 E] 3)) (.cells #[.bool false] 4)
  have B1 := hid (b0.trans (b1.mono (by simp)))
  have X5 := hid (boxed_low (Boxed.new w 3 (.int .i64 E)) b1)
  have X6 := hid (show Boxed ((w.alloc (.cells #[.int .i64 E] 3)).alloc (.cells #[.bool false] 4)) (w.heap.size + 1) 4 (.bool false) by have := Boxed.new (w.alloc (.cells #[.int .i64 E] 3)) 4 (.bool false); simpa using this)
  clear b0 b1
  go_wp2_with fail
  generalize (w.alloc (.cells #[.int .i64 E] 3)).alloc (.cells #[.bool false] 4) = w1 at *
  refine (AW.out w1).mono ?_
  rintro e w2 ⟨rfl, hb⟩
  have B2 := hid (B1.out.trans (hb.mono B1.out.size))
  have Y5 := hid (boxed_low X5.out hb)
  have Y6 := hid (boxed_low X6.out hb)
  clear hb X5 X6 B1
  go_wp2_with fail
  have A0 := belowA w2 (.cells #[.string ⟨#[97]⟩, .string ⟨#[49]⟩] 27)
  have CA : Came (w2.alloc (.cells #[.string ⟨#[97]⟩, .string ⟨#[49]⟩] 27)) (.slice (some ⟨w2.heap.size, 0, none⟩) 1 1) a1L := own_came (l := a1L) (base := w2.heap.size) (World.ownsRow_lit w2 #[.string ⟨#[97]⟩, .string ⟨#[49]⟩] 1 (Nat.le_refl _) (by unfold maxLen; decide) rfl)
  refine (WK.out _ _ CA).mono ?_
  rintro e w3 ⟨vd, rfl, ho, hb⟩
  obtain ⟨da, dc, hvd⟩ := itemsD_form (own_itemsD ho)
  rw [a1_len] at hvd
  subst hvd
  have b23 := A0.trans (hb.mono A0.size)
  have B3 := hid (B2.out.trans (b23.mono B2.out.size))
  have Z5 := hid (boxed_low Y5.out b23)
  have Z6 := hid (boxed_low Y6.out b23)
  clear hb ho A0 CA b23 Y5 Y6 B2 WK AW
  go_wp2_with fail
  refine (RD.out w3 B3.out).mono ?_
  rintro e w4 ⟨wv, rfl, hi, hb⟩
  obtain ⟨wa, wc, hwv⟩ := itemsD_form hi
  have b4 := hb.trans ((belowA w4 (.cells #[wv] 24)).mono hb.size)
  have B4 := hid (B3.out.trans (b4.mono B3.out.size))
  have U5 := hid (boxed_low Z5.out b4)
  have U6 := hid (boxed_low Z6.out b4)
  have U7 := hid (Boxed.new w4 24 wv)
  have UI := hid (hi.low (belowA w4 (.cells #[wv] 24)))
  clear hb hi b4 Z5 Z6 B3 RD
  subst hwv
  go_wp2_with fail
  generalize hWA : w4.alloc (.cells #[.slice wa (dfA l1 l2).length wc] 24) = WA at *
  have l7 : w4.heap.size < WA.heap.size := by rw [← hWA]; simp
  clear hWA
  refine (RM1.out WA B4.out).mono ?_
  rintro e w5 ⟨g1, c1, rfl, o1, hb⟩
  have HO1 := hid o1
  have hcap1 := own_cap o1 HL1.out
  have N5 := hid hb
  clear hb o1 RM1
  go_wp2_with fail
  refine (RM2.out w5 (B4.out.trans (N5.out.mono B4.out.size))).mono ?_
  rintro e w6 ⟨g2, c2, rfl, o2, hb⟩
  have HO2 := hid o2
  have hcap2 := own_cap o2 HL2.out
  have HO1' := hid (own_low HO1.out hb)
  have N6 := hid (N5.out.trans (hb.mono N5.out.size))
  have HNE := hid (show g1 ≠ g2 by have := (own_blk HO1.out).2; have := (own_blk o2).1; omega)
  clear hb o2 RM2
  obtain ⟨LA, LC, hdf, hcall⟩ := diff_all (.slice (some ⟨g1, 0, none⟩) L1 c1) (.slice (some ⟨g2, 0, none⟩) L2 c2) l1 l2 w6 (came_part HO1'.out L1 HL1.out) (came_part HO2.out L2 HL2.out) G1.out G2.out
  have HDF := hid hdf
  have HC := hid hcall
  clear hdf hcall
  go_wp2_with fail
  refine HC.out.mono ?_
  rintro e w7 ⟨x1, x2, rfl, hb, k1, k2, cm1, cm2, hz, f1, f2⟩
  have al := belowA w7 (.cells #[diffV w6.heap.size] 31)
  have RS := run_store_fn Tryd.prog
  have QF := run_eql_func_nil
  have b67 := hb.trans (al.mono hb.size)
  have HSQ := hid (Boxed.new w7 31 (diffV w6.heap.size))
  have HK1 := hid ((al.cell (p := ⟨w6.heap.size, 0, none⟩) (Nat.lt_of_succ_lt hz)).trans k1)
  have HK2 := hid ((al.cell (p := ⟨w6.heap.size + 1, 0, none⟩) hz).trans k2)
  have HS1 := hid ((sl_of cm1 w6.heap.size w7.heap.size (Nat.le_refl _) (fun b off n c e hl => by have := f1 b off n c e hl; omega)).low (Mid.of al (Nat.le_refl _)))
  have HS2 := hid ((sl_of cm2 w6.heap.size w7.heap.size (Nat.le_refl _) (fun b off n c e hl => by have := f2 b off n c e hl; omega)).low (Mid.of al (Nat.le_refl _)))
  have HZ := hid hz
  have V1 := hid (own_low HO1'.out b67)
  have V2 := hid (own_low HO2.out b67)
  have N7 := hid (N6.out.trans (b67.mono N6.out.size))
  have HG1 := hid (own_blk HO1'.out).2
  have HG2 := hid (own_blk HO2.out).2
  unfold diffV at HSQ HK1 HK2 HS1 HS2 V1 V2 N7
  clear hb k1 k2 cm1 cm2 hz f1 f2 al b67 HO1' HO2 HC HO1
  go_wp2_with fail
  generalize hW7 : w7.alloc (.cells #[.func (.func 19) #[] #[.pointer (some ⟨w6.heap.size, 0, none⟩), .pointer (some ⟨w6.heap.size + 1, 0, none⟩)]] 31) = W7 at *
  clear hW7
  have BX := B4.out.trans (N7.out.mono B4.out.size)
  have c12 := HSQ.out.cell
  have l12 := HSQ.out.lt
  have UT1 := hid (untouched_any WA.heap.size g1 c1 L1 v1 l1 W7 V1.out HL1.out (M1.out.low BX).items (by omega))
  have UT2 := hid (fun W (hb : Below W7.heap.size W7 W) => untouched_any w5.heap.size g2 c2 L2 v2 l2 W (own_low V2.out hb) HL2.out ((M2.out.low BX).low hb).items (by omega))
  clear BX
  go_wp2_with fail
  refine UT1.out.mono ?_
  rintro e w8 ⟨rfl, hb⟩
  have D8 := hid hb
  clear hb
  go_wp2_with fail
  refine (UT2.out w8 D8.out).mono ?_
  rintro e w9 ⟨rfl, hb⟩
  have D9 := hid (D8.out.trans (hb.mono D8.out.size))
  clear hb UT1 UT2 D8
  go_wp2_with fail
  refine (wpIn_wide (n := 4)).1 ?_
  have d9 := D9.out
  have mid := Mid.of (m := w6.heap.size) (n₀ := w7.heap.size) d9 (by omega)
  refine NX.out _ WA w9 w4.heap.size w7.heap.size w6.heap.size w7.heap.size g1 c1 g2 c2 _ x1 x2 LA LC (ex_u rfl trivial) ⟨B4.out, U5.out, U6.out, U7.out, UI.out, N7.out.trans (d9.mono N7.out.size), ?_, ?_, HG1.out, HG2.out, HNE.out, boxed_low HSQ.out d9, (d9.cell (p := ⟨w6.heap.size, 0, none⟩) (by have := HZ.out; show w6.heap.size < _; omega)).trans HK1.out, (d9.cell (p := ⟨w6.heap.size + 1, 0, none⟩) (by have := HZ.out; show w6.heap.size + 1 < _; omega)).trans HK2.out, HS1.out.low mid, HS2.out.low mid, HZ.out, Nat.le_refl _, HDF.out⟩
  · rw [← HL1.out]
    exact own_low V1.out d9
  · rw [← HL2.out]
    exact row_mono (own_low V2.out d9) N5.out.size
end Go.Proofs.YtodamoblnlcodaaDoor.L
