import Derived.Test.YtimmjikpcekffaaGreatDoorMgAW
import Derived.Test.YtimmjikpcekffaaGreatDoorMgBB
namespace Go.Proofs.YtimmjikpcekffaaGreatDoor.L
open Go.RowKit Go.Extern.Stop Go.Stop Go.Extern
set_option linter.unusedVariables false
/-- All types and the first fault of a tree that layer 13 takes. -/
def ovS (T : List Pt) (sc : Int) : (Nat → Int × Int) × Option (Nat × Int) := ov T T.length (fun _ => (0, 0)) (T.length - 1) sc
theorem res_ok {T : List Pt} (h : Res T 0 0) : 1 ≤ T.length ∧ T.length ≤ 1000 ∧ Ok0 T ∧ ¬ Lst T ∧ NoDeep T := by
  rcases h with ⟨_, h, _⟩ | ⟨_, h, _⟩ | ⟨h1, h2, h⟩
  · omega
  · omega
  · rcases h with ⟨_, h⟩ | ⟨_, _, h, _⟩ | ⟨h3, h4, ⟨_, h⟩ | ⟨h5, _⟩⟩
    · omega
    · omega
    · omega
    · exact ⟨h1, h2, h3, h4, h5⟩
/-- What typesOf answers. -/
def TyA (T : List Pt) (sc : Int) (B : Nat) (W : World) (v ev : Value) : Prop :=
  ((sc ≠ 2 ∧ sc ≠ 3) ∧ v = .slice none 0 0 ∧ ∃ M, ev = fv M ∧ Flt W M 149 (-1)) ∨
  ((sc = 2 ∨ sc = 3) ∧ ((v = .slice none 0 0 ∧ ev ≠ .nilIface ∧ VaR T W ev) ∨
    (Res T 0 0 ∧ ((∃ gt, v = .slice (some ⟨gt, 0, none⟩) T.length T.length ∧ ev = .nilIface ∧ (ovS T sc).2 = none ∧ TyO W B gt T.length (ovS T sc).1) ∨
      (∃ gt c a, v = .slice none 0 0 ∧ (ovS T sc).2 = some (c, a) ∧ ErC W gt c a ev)))))
/-- The walk's box and its types, as typesOf lays them. -/
def Mk (base : Nat) (w1 W : World) (L wb gt : Nat) (x : Value) : Prop := W.heap[wb]? = some (.cells #[x, .slice (some ⟨gt, 0, none⟩) L L] 125 (0, 0)) ∧ TyO W base gt L (fun _ => (0, 0)) ∧ Below w1.heap.size w1 W ∧ w1.heap.size ≤ wb ∧ wb ≠ gt
theorem mk_a (base : Nat) (w1 : World) (L : Nat) (x : Value) (hL : L ≤ 1000) (hb : base ≤ w1.heap.size) : Mk base w1 ((w1.alloc (.cells #[x, .slice (some ⟨w1.heap.size + 1, 0, none⟩) L L] 125)).alloc (.cells (madeCells #[.int .i64 0, .int .i64 0] (L * 2)) 175)).drew L w1.heap.size (w1.heap.size + 1) x := by
  have h1 := belowA w1 (.cells #[x, .slice (some ⟨w1.heap.size + 1, 0, none⟩) L L] 125)
  have h2 := heap_alloc_new w1 (.cells #[x, .slice (some ⟨w1.heap.size + 1, 0, none⟩) L L] 125)
  have hs : (w1.alloc (.cells #[x, .slice (some ⟨w1.heap.size + 1, 0, none⟩) L L] 125)).heap.size = w1.heap.size + 1 := by simp
  generalize w1.alloc (.cells #[x, .slice (some ⟨w1.heap.size + 1, 0, none⟩) L L] 125) = X at *
  have h3 := belowA X (.cells (madeCells #[.int .i64 0, .int .i64 0] (L * 2)) 175)
  have h4 := tyo_made X L base hL (by omega)
  rw [hs] at h4
  exact ⟨(h3.block _ (lt_blk h2)).trans h2, h4.low (Below.refl _ _).drew, (bchS h1 h3).drew, Nat.le_refl _, by omega⟩
theorem mk_b (base : Nat) (w1 : World) (L : Nat) (x : Value) (hL : L ≤ 1000) (hb : base ≤ w1.heap.size) : Mk base w1 ((w1.alloc (.cells (madeCells #[.int .i64 0, .int .i64 0] (L * 2)) 175)).alloc (.cells #[x, .slice (some ⟨w1.heap.size, 0, none⟩) L L] 125)).drew L (w1.heap.size + 1) w1.heap.size x := by
  have h1 := belowA w1 (.cells (madeCells #[.int .i64 0, .int .i64 0] (L * 2)) 175)
  have h4 := tyo_made w1 L base hL hb
  have hs : (w1.alloc (.cells (madeCells #[.int .i64 0, .int .i64 0] (L * 2)) 175)).heap.size = w1.heap.size + 1 := by simp
  generalize w1.alloc (.cells (madeCells #[.int .i64 0, .int .i64 0] (L * 2)) 175) = X at *
  have h3 := belowA X (.cells #[x, .slice (some ⟨w1.heap.size, 0, none⟩) L L] 125)
  have h2 := heap_alloc_new X (.cells #[x, .slice (some ⟨w1.heap.size, 0, none⟩) L L] 125)
  rw [hs] at h2
  exact ⟨h2, h4.low h3.drew, (bchS h1 h3).drew, by omega, by omega⟩
theorem TyO.mono {W : World} {base base' gt n : Nat} {ty : Nat → Int × Int} (h : TyO W base gt n ty) (hb : base' ≤ base) : TyO W base' gt n ty := by
  obtain ⟨xs, ⟨h1, h2⟩, hx⟩ := h
  refine ⟨xs, ⟨h1, ?_⟩, hx⟩
  rcases h2 with h2 | ⟨g, cap, cur, hv, hg, hh, r⟩
  · exact .inl h2
  · exact .inr ⟨g, cap, cur, hv, Nat.le_trans hb hg, hh, r⟩
set_option maxHeartbeats 8000000 in
set_option maxRecDepth 100000 in
theorem typesof_no (a : Option Addr) (T : List Pt) (cap : Nat) (sc : Int) (hs : sc ≠ 2 ∧ sc ≠ 3) (w : World) (hT : PL w a T) (hG : GdT T) (hg : Gv w) :
    Calls Tryz.prog 36 #[.agg #[.slice a T.length cap], .int .i64 sc] w fun e w' => ∃ v ev, e = .returned (.tuple #[v, ev]) ∧ Below w.heap.size w w' ∧ TyA T sc w.heap.size w' v ev := by
  have HB0 := hid (belowA w (.cells #[.slice a T.length cap] 35))
  have HX0 := hid (heap_alloc_new w (.cells #[.slice a T.length cap] 35))
  have HVA := hid (svalid_any a T cap _ (hT.low HB0.out) hG (hg.low HB0.out))
  have HSF := hid (fun W => sfault_any 149 (-1) W)
  have HTX := hid (hT.low HB0.out)
  have HLN := hid hG.1
  obtain ⟨L, hL⟩ : ∃ L, L = T.length := ⟨_, rfl⟩
  have HL := hid hL
  rw [← hL] at HB0 HX0 HVA HTX ⊢
  clear hT hg hL
  go_enter Tryz.func36, Tryz.ntmps36
  go_upto_region 1 with (fail)
  generalize w.alloc (.cells #[.slice a L cap] 35) = X at *
  have x0 := cell_of_one HX0.out
  have HS := hid hs
  have h2 : (sc != 2) = true := by simp [hs.1]
  have h3 : (sc != 3) = true := by simp [hs.2]
  have h4 : sc ≠ 2 := hs.1
  have h5 : sc ≠ 3 := hs.2
  clear hs
  go_wp2_with (go_at_call 66; refine (HSF.out _).mono ?_; rintro e w1 ⟨rfl, f1, l1⟩; have F1 := hid f1; have L1 := hid l1; clear f1 l1)
  (try simp only [Exit.inBlock, Exit.then])
  refine bodyPost_ret (results_tmp2 rfl _ _ _) rfl ⟨_, _, rfl, HB0.out.trans (L1.out.mono HB0.out.size), ?_⟩
  exact .inl ⟨HS.out, rfl, _, rfl, F1.out⟩
set_option maxHeartbeats 8000000 in
set_option maxRecDepth 100000 in
theorem typesof_2 (a : Option Addr) (T : List Pt) (cap : Nat) (w : World) (hT : PL w a T) (hG : GdT T) (hg : Gv w) :
    Calls Tryz.prog 36 #[.agg #[.slice a T.length cap], .int .i64 2] w fun e w' => ∃ v ev, e = .returned (.tuple #[v, ev]) ∧ Below w.heap.size w w' ∧ TyA T 2 w.heap.size w' v ev := by
  have HB0 := hid (belowA w (.cells #[.slice a T.length cap] 35))
  have HX0 := hid (heap_alloc_new w (.cells #[.slice a T.length cap] 35))
  have HVA := hid (svalid_any a T cap _ (hT.low HB0.out) hG (hg.low HB0.out))
  have HSF := hid (fun W => sfault_any 149 (-1) W)
  have HTX := hid (hT.low HB0.out)
  have HLN := hid hG.1
  obtain ⟨L, hL⟩ : ∃ L, L = T.length := ⟨_, rfl⟩
  have HL := hid hL
  rw [← hL] at HB0 HX0 HVA HTX ⊢
  clear hT hg hL
  go_enter Tryz.func36, Tryz.ntmps36
  go_upto_region 1 with (fail)
  generalize w.alloc (.cells #[.slice a L cap] 35) = X at *
  have x0 := cell_of_one HX0.out
  go_upto_region 4 with (go_at_call 67; refine HVA.out.mono ?_; rintro e w1 ⟨ev, rfl, l1, hr⟩; have L1 := hid l1; have HR := hid hr; clear l1 hr)
  have HB1 := hid (HB0.out.trans (L1.out.mono HB0.out.size))
  rcases HR.out with ⟨rfl, hr⟩ | ⟨M, N, c, i, rfl, hrest⟩
  · have HO := hid (res_ok hr)
    have HRS := hid hr
    have hl1 : 1 ≤ L := by rw [HL.out]; exact HO.out.1
    have hl2 : L ≤ 1000 := by rw [HL.out]; exact HO.out.2.1
    have HX1 := hid ((L1.out.block _ (lt_blk HX0.out)).trans HX0.out)
    have y0 := cell_of_one HX1.out
    clear x0 hr
    go_upto_region 6 with (fail)
    have HMK := make_types L hl2
    have HTO := hid (fun W hb => tyo_made W L w.heap.size hl2 hb)
    have z1 : ∀ o, (w1.alloc o).cell? ⟨w.heap.size, 0, none⟩ = some (.slice a L cap) := fun o => ((belowA w1 o).cell (p := ⟨w.heap.size, 0, none⟩) (lt_blk HX1.out)).trans y0
    have z2 : ∀ o o', ((w1.alloc o).alloc o').cell? ⟨w.heap.size, 0, none⟩ = some (.slice a L cap) := fun o o' => ((belowA (w1.alloc o) o').cell (p := ⟨w.heap.size, 0, none⟩) (Nat.lt_of_lt_of_le (lt_blk HX1.out) (belowA w1 o).size)).trans (z1 o)
    refine Code.wp_mono (Q := fun ex ac W => ex = Exit.normal ∧ ∃ wb gt, Mk w1.heap.size w1 W L wb gt (.slice a L cap) ∧ ac = { tmps := #[.agg #[.slice a L cap], .int .i64 2, .pointer (some ⟨w.heap.size, 0, none⟩), undef, .slice none 0 0, .nilIface, .nilIface, .pointer (some ⟨wb, 0, none⟩), undef, .int .i64 2, .bool false, .bool false, undef, undef, .bool false, undef, .agg #[.slice a L cap], .nilIface, .nilIface, .bool false, undef, .pointer (some ⟨w.heap.size, 0, none⟩), .slice a L cap, .pointer (some ⟨w.heap.size, 0, none⟩), .slice a L cap, .int .i64 (L : Int), .slice (some ⟨gt, 0, none⟩) L L, .agg #[.slice a L cap, .slice (some ⟨gt, 0, none⟩) L L], undef, undef, undef, undef, undef, undef, undef, undef, undef, undef, undef, undef], defers := [] }) ?_ ?_
    rotate_left
    · go_region
      all_goals first
        | exact ⟨rfl, _, _, mk_a _ w1 L _ hl2 (Nat.le_refl _), rfl⟩
        | exact ⟨rfl, _, _, mk_b _ w1 L _ hl2 (Nat.le_refl _), rfl⟩
    rintro _ _ W ⟨rfl, wb, gt, hM, rfl⟩
    obtain ⟨hm1, hm2, hm3, hm4, hm5⟩ := hM
    have HM1 := hid hm1
    have HM3 := hid hm3
    have HOV := over_any a T cap gt w1 (HTX.out.low L1.out) (gds_of HO.out.2.2.1 HO.out.2.1) L (L - 1) 2 W (fun _ => (0, 0)) (by rw [← HL.out]; omega) (by omega) hm3 (by rw [← HL.out]; exact hm2)
    rw [← HL.out] at HOV
    have HOV2 := hid HOV
    have hcast : ((L - 1 : Nat) : Int) = (L : Int) - 1 := by omega
    rw [hcast] at HOV2
    have ⟨m0, m1⟩ := cellsW hm1
    have m2 := cell_of_one ((hm3.block _ (lt_blk HX1.out)).trans HX1.out)
    have HGT := hid hm2.lt
    clear hm1 hm2 hm3 HOV z1 z2 y0 HMK
    simp only [Exit.then]
    go_upto_region 8 with (go_at_call 68; refine HOV2.out.mono ?_; rintro e w2 ⟨ev, rfl, he, hty, hbt⟩; have HE := hid he; have HTY := hid hty; have HBT := hid hbt; clear he hty hbt)
    have HOVE := hid (show ovS T 2 = ov T L (fun _ => (0, 0)) (L - 1) 2 by rw [ovS, HL.out])
    have HBL := hid (but_new (HB1.out.trans (HM3.out.mono HB1.out.size)) HBT.out (Nat.le_trans HB1.out.size HGT.out.2))
    have ⟨d0, d1⟩ := cellsW ((HBT.out.block _ (lt_blk HM1.out) hm5).trans HM1.out)
    clear m0 m1 m2
    rcases HE.out with ⟨ho, rfl⟩ | ⟨c, a1, ho, he⟩
    · have HN := hid ho
      clear ho
      go_wp2_with fail
      (try simp only [Exit.inBlock, Exit.then])
      refine bodyPost_ret (results_tmp2 rfl _ _ _) rfl ⟨_, _, rfl, HBL.out, ?_⟩
      refine .inr ⟨by omega, .inr ⟨HRS.out, .inl ⟨gt, by rw [← HL.out]; rfl, rfl, by rw [HOVE.out]; exact HN.out, ?_⟩⟩⟩
      rw [HOVE.out, ← HL.out]
      exact HTY.out.mono HB1.out.size
    · have HN := hid ho
      have HER := hid he
      obtain ⟨u, xv, rfl⟩ := he.ne
      clear ho he
      go_wp2_with fail
      (try simp only [Exit.inBlock, Exit.then])
      refine bodyPost_ret (results_tmp2 rfl _ _ _) rfl ⟨_, _, rfl, HBL.out, ?_⟩
      exact .inr ⟨by omega, .inr ⟨HRS.out, .inr ⟨gt, c, a1, rfl, by rw [HOVE.out]; exact HN.out, HER.out⟩⟩⟩
  · have HRS := hid hrest
    have HNE := hid (show fv M ≠ .nilIface by simp [fv])
    clear hrest x0
    simp only [fv]
    go_wp2_with fail
    (try simp only [Exit.inBlock, Exit.then])
    refine bodyPost_ret (results_tmp2 rfl _ _ _) rfl ⟨_, _, rfl, HB1.out, ?_⟩
    exact .inr ⟨by omega, .inl ⟨rfl, HNE.out, .inr ⟨M, N, c, i, rfl, HRS.out⟩⟩⟩
set_option maxHeartbeats 8000000 in
set_option maxRecDepth 100000 in
theorem typesof_3 (a : Option Addr) (T : List Pt) (cap : Nat) (w : World) (hT : PL w a T) (hG : GdT T) (hg : Gv w) :
    Calls Tryz.prog 36 #[.agg #[.slice a T.length cap], .int .i64 3] w fun e w' => ∃ v ev, e = .returned (.tuple #[v, ev]) ∧ Below w.heap.size w w' ∧ TyA T 3 w.heap.size w' v ev := by
  have HB0 := hid (belowA w (.cells #[.slice a T.length cap] 35))
  have HX0 := hid (heap_alloc_new w (.cells #[.slice a T.length cap] 35))
  have HVA := hid (svalid_any a T cap _ (hT.low HB0.out) hG (hg.low HB0.out))
  have HSF := hid (fun W => sfault_any 149 (-1) W)
  have HTX := hid (hT.low HB0.out)
  have HLN := hid hG.1
  obtain ⟨L, hL⟩ : ∃ L, L = T.length := ⟨_, rfl⟩
  have HL := hid hL
  rw [← hL] at HB0 HX0 HVA HTX ⊢
  clear hT hg hL
  go_enter Tryz.func36, Tryz.ntmps36
  go_upto_region 1 with (fail)
  generalize w.alloc (.cells #[.slice a L cap] 35) = X at *
  have x0 := cell_of_one HX0.out
  go_upto_region 4 with (go_at_call 67; refine HVA.out.mono ?_; rintro e w1 ⟨ev, rfl, l1, hr⟩; have L1 := hid l1; have HR := hid hr; clear l1 hr)
  have HB1 := hid (HB0.out.trans (L1.out.mono HB0.out.size))
  rcases HR.out with ⟨rfl, hr⟩ | ⟨M, N, c, i, rfl, hrest⟩
  · have HO := hid (res_ok hr)
    have HRS := hid hr
    have hl1 : 1 ≤ L := by rw [HL.out]; exact HO.out.1
    have hl2 : L ≤ 1000 := by rw [HL.out]; exact HO.out.2.1
    have HX1 := hid ((L1.out.block _ (lt_blk HX0.out)).trans HX0.out)
    have y0 := cell_of_one HX1.out
    clear x0 hr
    go_upto_region 6 with (fail)
    have HMK := make_types L hl2
    have HTO := hid (fun W hb => tyo_made W L w.heap.size hl2 hb)
    have z1 : ∀ o, (w1.alloc o).cell? ⟨w.heap.size, 0, none⟩ = some (.slice a L cap) := fun o => ((belowA w1 o).cell (p := ⟨w.heap.size, 0, none⟩) (lt_blk HX1.out)).trans y0
    have z2 : ∀ o o', ((w1.alloc o).alloc o').cell? ⟨w.heap.size, 0, none⟩ = some (.slice a L cap) := fun o o' => ((belowA (w1.alloc o) o').cell (p := ⟨w.heap.size, 0, none⟩) (Nat.lt_of_lt_of_le (lt_blk HX1.out) (belowA w1 o).size)).trans (z1 o)
    refine Code.wp_mono (Q := fun ex ac W => ex = Exit.normal ∧ ∃ wb gt, Mk w1.heap.size w1 W L wb gt (.slice a L cap) ∧ ac = { tmps := #[.agg #[.slice a L cap], .int .i64 3, .pointer (some ⟨w.heap.size, 0, none⟩), undef, .slice none 0 0, .nilIface, .nilIface, .pointer (some ⟨wb, 0, none⟩), undef, .int .i64 3, .bool true, .bool true, .int .i64 3, .bool false, .bool false, undef, .agg #[.slice a L cap], .nilIface, .nilIface, .bool false, undef, .pointer (some ⟨w.heap.size, 0, none⟩), .slice a L cap, .pointer (some ⟨w.heap.size, 0, none⟩), .slice a L cap, .int .i64 (L : Int), .slice (some ⟨gt, 0, none⟩) L L, .agg #[.slice a L cap, .slice (some ⟨gt, 0, none⟩) L L], undef, undef, undef, undef, undef, undef, undef, undef, undef, undef, undef, undef], defers := [] }) ?_ ?_
    rotate_left
    · go_region
      all_goals first
        | exact ⟨rfl, _, _, mk_a _ w1 L _ hl2 (Nat.le_refl _), rfl⟩
        | exact ⟨rfl, _, _, mk_b _ w1 L _ hl2 (Nat.le_refl _), rfl⟩
    rintro _ _ W ⟨rfl, wb, gt, hM, rfl⟩
    obtain ⟨hm1, hm2, hm3, hm4, hm5⟩ := hM
    have HM1 := hid hm1
    have HM3 := hid hm3
    have HOV := over_any a T cap gt w1 (HTX.out.low L1.out) (gds_of HO.out.2.2.1 HO.out.2.1) L (L - 1) 3 W (fun _ => (0, 0)) (by rw [← HL.out]; omega) (by omega) hm3 (by rw [← HL.out]; exact hm2)
    rw [← HL.out] at HOV
    have HOV2 := hid HOV
    have hcast : ((L - 1 : Nat) : Int) = (L : Int) - 1 := by omega
    rw [hcast] at HOV2
    have ⟨m0, m1⟩ := cellsW hm1
    have m2 := cell_of_one ((hm3.block _ (lt_blk HX1.out)).trans HX1.out)
    have HGT := hid hm2.lt
    clear hm1 hm2 hm3 HOV z1 z2 y0 HMK
    simp only [Exit.then]
    go_upto_region 8 with (go_at_call 68; refine HOV2.out.mono ?_; rintro e w2 ⟨ev, rfl, he, hty, hbt⟩; have HE := hid he; have HTY := hid hty; have HBT := hid hbt; clear he hty hbt)
    have HOVE := hid (show ovS T 3 = ov T L (fun _ => (0, 0)) (L - 1) 3 by rw [ovS, HL.out])
    have HBL := hid (but_new (HB1.out.trans (HM3.out.mono HB1.out.size)) HBT.out (Nat.le_trans HB1.out.size HGT.out.2))
    have ⟨d0, d1⟩ := cellsW ((HBT.out.block _ (lt_blk HM1.out) hm5).trans HM1.out)
    clear m0 m1 m2
    rcases HE.out with ⟨ho, rfl⟩ | ⟨c, a1, ho, he⟩
    · have HN := hid ho
      clear ho
      go_wp2_with fail
      (try simp only [Exit.inBlock, Exit.then])
      refine bodyPost_ret (results_tmp2 rfl _ _ _) rfl ⟨_, _, rfl, HBL.out, ?_⟩
      refine .inr ⟨by omega, .inr ⟨HRS.out, .inl ⟨gt, by rw [← HL.out]; rfl, rfl, by rw [HOVE.out]; exact HN.out, ?_⟩⟩⟩
      rw [HOVE.out, ← HL.out]
      exact HTY.out.mono HB1.out.size
    · have HN := hid ho
      have HER := hid he
      obtain ⟨u, xv, rfl⟩ := he.ne
      clear ho he
      go_wp2_with fail
      (try simp only [Exit.inBlock, Exit.then])
      refine bodyPost_ret (results_tmp2 rfl _ _ _) rfl ⟨_, _, rfl, HBL.out, ?_⟩
      exact .inr ⟨by omega, .inr ⟨HRS.out, .inr ⟨gt, c, a1, rfl, by rw [HOVE.out]; exact HN.out, HER.out⟩⟩⟩
  · have HRS := hid hrest
    have HNE := hid (show fv M ≠ .nilIface by simp [fv])
    clear hrest x0
    simp only [fv]
    go_wp2_with fail
    (try simp only [Exit.inBlock, Exit.then])
    refine bodyPost_ret (results_tmp2 rfl _ _ _) rfl ⟨_, _, rfl, HB1.out, ?_⟩
    exact .inr ⟨by omega, .inl ⟨rfl, HNE.out, .inr ⟨M, N, c, i, rfl, HRS.out⟩⟩⟩
theorem typesof_any (a : Option Addr) (T : List Pt) (cap : Nat) (sc : Int) (w : World) (hT : PL w a T) (hG : GdT T) (hg : Gv w) :
    Calls Tryz.prog 36 #[.agg #[.slice a T.length cap], .int .i64 sc] w fun e w' => ∃ v ev, e = .returned (.tuple #[v, ev]) ∧ Below w.heap.size w w' ∧ TyA T sc w.heap.size w' v ev := by
  by_cases h2 : sc = 2
  · subst h2; exact typesof_2 a T cap w hT hG hg
  by_cases h3 : sc = 3
  · subst h3; exact typesof_3 a T cap w hT hG hg
  exact typesof_no a T cap sc ⟨h2, h3⟩ w hT hG hg
end Go.Proofs.YtimmjikpcekffaaGreatDoor.L
