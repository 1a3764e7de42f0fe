import Derived.Test.YtcldglilhhhdoaaGreatDoorPfG
namespace Go.Proofs.YtcldglilhhhdoaaGreatDoor.L
open Go.RowKit
set_option linter.unusedVariables false
set_option linter.unusedSimpArgs false
set_option maxHeartbeats 16000000 in
set_option maxRecDepth 100000 in
theorem mleaf_any {mb B : Nat} {tv : Value} {T : List Tok} {W : World} {s : PS} {ws : List Wn} {fr : List Int} {fl : Array Value} {wv v o f : Value} {ks : Nat → Value} (h : MM mb B tv T W s ws fr fl wv v o f ks) (kd nu pos : Int) (tx : ByteArray) (hf1 : fr.length ≤ 100000) (hp1 : s.ps.length ≤ 100000) (ho1 : s.os.length ≤ 100000) : Calls Tryz.prog 58 #[.pointer (some ⟨mb, 0, none⟩), .agg #[.int .i64 kd, .string tx, .int .i64 nu, .slice none 0 0], .int .i64 pos] W fun e W' => e = .returned (.tuple #[]) ∧ (∃ v' o' f' ks', MM mb B tv T W' { s with ps := s.ps ++ [⟨kd, tx, nu, []⟩], os := s.os ++ [pos] } ws (fr ++ [(s.ps.length : Int)]) fl wv v' o' f' ks') ∧ Fmm B W W' := by
  obtain ⟨N, hN⟩ : ∃ N, N = fr.length := ⟨_, rfl⟩
  have HNN := hid hN
  rw [← hN] at hf1
  obtain ⟨fa, fc, hf⟩ := own_form h.free
  rw [← hN] at hf
  have HFE := hid hf
  have HB0 := hid (belowA W (.cells #[.int .i64 kd, .string tx, .int .i64 nu, .slice none 0 0] 46))
  have HX0 := hid (heap_alloc_new W (.cells #[.int .i64 kd, .string tx, .int .i64 nu, .slice none 0 0] 46))
  have HP := hid (h.low HB0.out)
  have HF0 := hid (Fmm.of HB0.out h.size)
  have hNm : N ≤ maxLen := by unfold maxLen; omega
  clear h hN hf
  go_enter Tryz.func58, Tryz.ntmps58
  go_upto_region 1 with (fail)
  generalize W.alloc (.cells #[.int .i64 kd, .string tx, .int .i64 nu, .slice none 0 0] 46) = X at *
  generalize W.heap.size = bp at *
  have HF0 := hid (HF0.out.trans (Fmm.of (show Below X.heap.size X X.drew from (Below.refl _ _).drew) HP.out.size))
  have HMZ := hid (HP.out.low (show Below X.heap.size X X.drew from (Below.refl _ _).drew))
  have HXZ := hid (show X.drew.heap[bp]? = _ from HX0.out)
  refine wp_region_held_drew (S := (fun _ => True)) (by kernel_rfl) trivial (fun hHeld => ?_)
  generalize X.drew = Z0 at *
  refine wpAnyH_take (i := 0) (v := ?_) rfl (by kernel_rfl) (by kernel_rfl) (by kernel_rfl) (fun _ _ _ h => h) (Or.inl ⟨by rfl, ?_⟩) (by assumption) ?_
  rotate_left
  · (intro w hSw; (try dsimp only at hSw); go_simp; try with_reducible rfl)
  try simp only [Act.put, List.setIfInBounds_toArray, List.set_cons_zero, List.set_cons_succ]
  refine wpAnyH_take (i := 2) (v := ?_) rfl (by kernel_rfl) (by kernel_rfl) (by kernel_rfl) (fun _ _ _ h => h) (Or.inl ⟨by rfl, ?_⟩) (by assumption) ?_
  rotate_left
  · (intro w hSw; (try dsimp only at hSw); go_simp; try with_reducible rfl)
  try simp only [Act.put, List.setIfInBounds_toArray, List.set_cons_zero, List.set_cons_succ]
  refine wpAnyH_take (i := 3) (v := ?_) rfl (by kernel_rfl) (by kernel_rfl) (by kernel_rfl) (fun _ _ _ h => h) (Or.inl ⟨by rfl, ?_⟩) (by assumption) ?_
  rotate_left
  · (intro w hSw; (try dsimp only at hSw); go_simp; try with_reducible rfl)
  try simp only [Act.put, List.setIfInBounds_toArray, List.set_cons_zero, List.set_cons_succ]
  refine wpAnyH_take (i := 4) (v := ?_) rfl (by kernel_rfl) (by kernel_rfl) (by kernel_rfl) (fun _ _ _ h => h) (Or.inl ⟨by rfl, ?_⟩) (by assumption) ?_
  rotate_left
  · (intro w hSw; (try dsimp only at hSw); go_simp; try with_reducible rfl)
  try simp only [Act.put, List.setIfInBounds_toArray, List.set_cons_zero, List.set_cons_succ]
  refine wpAnyH_take (i := 5) (v := ?_) rfl (by kernel_rfl) (by kernel_rfl) (by kernel_rfl) (fun _ _ _ h => h) (Or.inl ⟨by rfl, ?_⟩) (by assumption) ?_
  rotate_left
  · (intro w hSw; (try dsimp only at hSw); go_simp; try with_reducible rfl)
  try simp only [Act.put, List.setIfInBounds_toArray, List.set_cons_zero, List.set_cons_succ]
  refine wpAnyH_ready (rs := [1, 6]) (by kernel_rfl) (by simp) ?_
  refine AllReadyH.cons rfl (fun K hK => ?_) ?_
  · have ⟨x0, x1, x2, x3⟩ := cells4 HXZ.out
    go_simp
    clear x0 x1 x2 x3
    refine hK.out _ _ trivial (fun hHeld => ?_)
    clear hK K hHeld
    try simp only [Act.put, List.setIfInBounds_toArray, List.set_cons_zero, List.set_cons_succ]
    have hHeld := trivial
    refine wpAnyH_ready (rs := [6]) (by kernel_rfl) (by simp) ?_
    refine AllReadyH.cons rfl (fun K hK => ?_) AllReadyH.nil
    have c5 : Z0.cell? ⟨mb, 5, none⟩ = some (.slice fa N fc) := (HMZ.out.cell 5 (by decide)).trans (by rw [HFE.out]; rfl)
    go_simp
    clear c5
    refine hK.out _ _ trivial (fun hHeld => ?_)
    clear hK K hHeld
    try simp only [Act.put, List.setIfInBounds_toArray, List.set_cons_zero, List.set_cons_succ]
    have hHeld := trivial
    refine wpAnyH_take (i := 7) (v := ?_) rfl (by kernel_rfl) (by kernel_rfl) (by kernel_rfl) (fun _ _ _ h => h) (Or.inl ⟨by rfl, ?_⟩) (by assumption) ?_
    rotate_left
    · (intro w hSw; (try dsimp only at hSw); go_simp; try with_reducible rfl)
    try simp only [Act.put, List.setIfInBounds_toArray, List.set_cons_zero, List.set_cons_succ]
    refine wpAnyH_ready (rs := [8]) (by kernel_rfl) (by simp) ?_
    refine AllReadyH.cons rfl (fun K hK => ?_) AllReadyH.nil
    go_simp
    refine (mlay_any HMZ.out kd nu pos tx N (by rw [HNN.out]; exact Nat.le_refl _) (by rw [← HNN.out]; exact hf1) hp1 ho1).mono ?_
    rintro e Y ⟨rfl, h2, h3⟩
    have HE := hid h2
    have HF := hid (HF0.out.trans h3)
    clear h2 h3
    refine hK.out _ _ trivial (fun hHeld => ?_)
    clear hK K hHeld
    try simp only [Act.put, List.setIfInBounds_toArray, List.set_cons_zero, List.set_cons_succ]
    refine wpAnyH_done (by kernel_rfl) ?_ _
    rw [HNN.out, List.drop_length, List.take_length] at HE
    go_wp2_with fail
    exact ⟨rfl, .tuple #[], by first | rfl | kernel_rfl, rfl, HE.out, HF.out⟩
  refine AllReadyH.cons rfl (fun K hK => ?_) AllReadyH.nil
  have c5 : Z0.cell? ⟨mb, 5, none⟩ = some (.slice fa N fc) := (HMZ.out.cell 5 (by decide)).trans (by rw [HFE.out]; rfl)
  go_simp
  clear c5
  refine hK.out _ _ trivial (fun hHeld => ?_)
  clear hK K hHeld
  try simp only [Act.put, List.setIfInBounds_toArray, List.set_cons_zero, List.set_cons_succ]
  have hHeld := trivial
  refine wpAnyH_take (i := 7) (v := ?_) rfl (by kernel_rfl) (by kernel_rfl) (by kernel_rfl) (fun _ _ _ h => h) (Or.inl ⟨by rfl, ?_⟩) (by assumption) ?_
  rotate_left
  · (intro w hSw; (try dsimp only at hSw); go_simp; try with_reducible rfl)
  try simp only [Act.put, List.setIfInBounds_toArray, List.set_cons_zero, List.set_cons_succ]
  refine wpAnyH_ready (rs := [1]) (by kernel_rfl) (by simp) ?_
  refine AllReadyH.cons rfl (fun K hK => ?_) AllReadyH.nil
  have ⟨x0, x1, x2, x3⟩ := cells4 HXZ.out
  go_simp
  clear x0 x1 x2 x3
  refine hK.out _ _ trivial (fun hHeld => ?_)
  clear hK K hHeld
  try simp only [Act.put, List.setIfInBounds_toArray, List.set_cons_zero, List.set_cons_succ]
  have hHeld := trivial
  refine wpAnyH_ready (rs := [8]) (by kernel_rfl) (by simp) ?_
  refine AllReadyH.cons rfl (fun K hK => ?_) AllReadyH.nil
  go_simp
  refine (mlay_any HMZ.out kd nu pos tx N (by rw [HNN.out]; exact Nat.le_refl _) (by rw [← HNN.out]; exact hf1) hp1 ho1).mono ?_
  rintro e Y ⟨rfl, h2, h3⟩
  have HE := hid h2
  have HF := hid (HF0.out.trans h3)
  clear h2 h3
  refine hK.out _ _ trivial (fun hHeld => ?_)
  clear hK K hHeld
  try simp only [Act.put, List.setIfInBounds_toArray, List.set_cons_zero, List.set_cons_succ]
  refine wpAnyH_done (by kernel_rfl) ?_ _
  rw [HNN.out, List.drop_length, List.take_length] at HE
  go_wp2_with fail
  exact ⟨rfl, .tuple #[], by first | rfl | kernel_rfl, rfl, HE.out, HF.out⟩
end Go.Proofs.YtcldglilhhhdoaaGreatDoor.L
namespace Go.Proofs.YtcldglilhhhdoaaGreatDoor.L
open Go.RowKit
set_option linter.unusedVariables false
set_option linter.unusedSimpArgs false
/-- What a leaf of the machine gives. -/
def Plf (mb B : Nat) (tv : Value) (T : List Tok) (ws : List Wn) (fr : List Int) (fl : Array Value) (wv : Value) (r : PRes Int) (W' : World) : Prop :=
  match r with
  | .ok (k, s') => ∃ v' o' f' ks', MM mb B tv T W' s' ws (fr ++ [k]) fl wv v' o' f' ks'
  | .error (c, x) => ∃ s' v' o' f' ks', MM mb B tv T W' s' ws fr (f19 c x) wv v' o' f' ks'
set_option maxHeartbeats 16000000 in
set_option maxRecDepth 100000 in
theorem mtol_any {mb B : Nat} {tv : Value} {T : List Tok} {W : World} {s : PS} {ws : List Wn} {fr : List Int} {fl : Array Value} {wv v o f : Value} {ks : Nat → Value} (h : MM mb B tv T W s ws fr fl wv v o f ks) (hk : (tk T s.nx).kind ≠ 0) (hf1 : fr.length ≤ 100000) (hp1 : s.ps.length ≤ 100000) (ho1 : s.os.length ≤ 100000) : Calls Tryz.prog 60 #[.pointer (some ⟨mb, 0, none⟩)] W fun e W' => e = .returned (.tuple #[]) ∧ Plf mb B tv T ws fr fl wv (tolP T s) W' ∧ Fmm B W W' := by
  obtain ⟨g, cap, rfl, hgl, hc⟩ := h.tokc
  have hnx := h.nx
  have htl := h.tl
  have HP := hid h
  have HC := hid (fun r (hr : r < 5) => hc s.nx r hnx hr)
  have HGL := hid hgl
  have HC0 := hid (h.cell 0 (by decide))
  have HC1 := hid (h.cell 1 (by decide))
  have HML := hid (lt_blk h.box)
  clear hc h hgl
  obtain ⟨t, ht⟩ : ∃ t, t = tk T s.nx := ⟨_, rfl⟩
  have HT := hid ht
  rw [← ht] at HC
  obtain ⟨L, hL⟩ : ∃ L, L = T.length := ⟨_, rfl⟩
  have HLT := hid hL
  rw [← hL] at HC0 hnx htl
  obtain ⟨n, hn⟩ : ∃ n, n = s.nx := ⟨_, rfl⟩
  have HN := hid hn
  rw [← hn] at HC HC1 hnx
  clear hL hn
  have g1 : (n : Int) < (L : Int) := by omega
  have g0 : (0 : Int) ≤ (n : Int) := by omega
  have MS := hid (show ∀ Y, Below W.heap.size W Y → (fun Y => (Y.cell? ⟨mb, 0, none⟩ = some (.slice (some ⟨g, 0, none⟩) L cap) ∧ Y.cell? ⟨mb, 1, none⟩ = some (.int .i64 (n : Int))) ∧ Y.cell? ⟨g, n * 5, none⟩ = some (.int .i64 (t.kind : Int)) ∧ Y.cell? ⟨g, n * 5 + 1, none⟩ = some (.string t.text) ∧ Y.cell? ⟨g, n * 5 + 2, none⟩ = some (.int .i64 t.num) ∧ Y.cell? ⟨g, n * 5 + 3, none⟩ = some (.int .i64 (t.a : Int)) ∧ Y.cell? ⟨g, n * 5 + 4, none⟩ = some (.int .i64 (t.e : Int))) Y from fun Y hb => ⟨⟨(hb.cell (p := ⟨mb, 0, none⟩) HML.out).trans HC0.out, (hb.cell (p := ⟨mb, 1, none⟩) HML.out).trans HC1.out⟩, (hb.cell (p := ⟨g, n * 5, none⟩) HGL.out).trans (HC.out 0 (by decide)), (hb.cell (p := ⟨g, n * 5 + 1, none⟩) HGL.out).trans (HC.out 1 (by decide)), (hb.cell (p := ⟨g, n * 5 + 2, none⟩) HGL.out).trans (HC.out 2 (by decide)), (hb.cell (p := ⟨g, n * 5 + 3, none⟩) HGL.out).trans (HC.out 3 (by decide)), (hb.cell (p := ⟨g, n * 5 + 4, none⟩) HGL.out).trans (HC.out 4 (by decide))⟩)
  have HKD := hid hk
  have HLN := hid (And.intro hp1 ho1)
  clear ht hk
  have hnl : (n : Int) + 1 ≤ 4098 := by omega
  have q0 : W.cell? ⟨mb, 0, none⟩ = some (.slice (some ⟨g, 0, none⟩) L cap) := HC0.out
  have q1 : W.cell? ⟨mb, 1, none⟩ = some (.int .i64 (n : Int)) := HC1.out
  have q3 : W.cell? ⟨g, n * 5 + 3, none⟩ = some (.int .i64 (t.a : Int)) := HC.out 3 (by decide)
  clear MS
  unfold tolP namedP
  rw [← HT.out]
  cases h1 : markP T (Go.Proofs.YtcldglilhhhdoaaGreatDoor.L.adv s) [40] with
  | error q =>
    obtain ⟨c, x⟩ := q
    have HR1 := hid h1
    clear h1
    go_enter Tryz.func60, Tryz.ntmps60
    go_wp2_with fail
    go_quiet (fail)
    have HP1 := hid (HP.out.low (below_drewN (Below.refl _ W) nq))
    have HF1 := hid (Fmm.of (below_drewN (Below.refl _ W) nq) HP.out.size)
    generalize W.drewN nq = W1 at *
    clear q0 q1 q3
    have c1 : W1.cell? ⟨mb, 1, none⟩ = some (.int .i64 (n : Int)) := by rw [HN.out]; exact HP1.out.cell 1 (by decide)
    have f1 := frz_row HP1.out.box 1
    go_upto_region 2 with (fail)
    have HQ := hid (HP1.out.adv HKD.out)
    rw [← HN.out] at HQ
    have HF2 := hid (HF1.out.trans HQ.out.2)
    generalize W1.setCell ⟨mb, 1, none⟩ (.int .i64 ((n : Int) + 1)) = W2 at *
    clear c1 f1
    go_wp2_with fail
    refine (mtake_any HQ.out.1 ⟨#[40]⟩).mono ?_
    rintro e Y3 hh
    try rw [ml40] at hh
    try rw [ml41] at hh
    rw [HR1.out] at hh
    obtain ⟨rfl, h8, h9⟩ := hh
    have HM3 := hid h8
    have HG3 := hid (HF2.out.trans h9)
    clear h8 h9
    go_wp2_with fail
    obtain ⟨s9, h9⟩ := HM3.out
    exact ⟨rfl, .tuple #[], by first | rfl | kernel_rfl, rfl, ⟨_, _, _, _, _, h9⟩, HG3.out⟩
  | ok q =>
    obtain ⟨u1, s1⟩ := q
    have HR1 := hid h1
    have n1 := gn_mark h1
    clear h1
    dsimp only [bnd]
    cases h2 : textP T s1 with
    | error q =>
      obtain ⟨c, x⟩ := q
      have HR2 := hid h2
      clear h2
      go_enter Tryz.func60, Tryz.ntmps60
      go_wp2_with fail
      go_quiet (fail)
      have HP1 := hid (HP.out.low (below_drewN (Below.refl _ W) nq))
      have HF1 := hid (Fmm.of (below_drewN (Below.refl _ W) nq) HP.out.size)
      generalize W.drewN nq = W1 at *
      clear q0 q1 q3
      have c1 : W1.cell? ⟨mb, 1, none⟩ = some (.int .i64 (n : Int)) := by rw [HN.out]; exact HP1.out.cell 1 (by decide)
      have f1 := frz_row HP1.out.box 1
      go_upto_region 2 with (fail)
      have HQ := hid (HP1.out.adv HKD.out)
      rw [← HN.out] at HQ
      have HF2 := hid (HF1.out.trans HQ.out.2)
      generalize W1.setCell ⟨mb, 1, none⟩ (.int .i64 ((n : Int) + 1)) = W2 at *
      clear c1 f1
      go_wp2_with fail
      refine (mtake_any HQ.out.1 ⟨#[40]⟩).mono ?_
      rintro e Y3 hh
      try rw [ml40] at hh
      try rw [ml41] at hh
      rw [HR1.out] at hh
      obtain ⟨rfl, h8, h9⟩ := hh
      have HM3 := hid h8
      have HG3 := hid (HF2.out.trans h9)
      clear h8 h9
      go_wp2_with fail
      refine (mtext_any HM3.out).mono ?_
      rintro e Y4 hh
      try rw [ml40] at hh
      try rw [ml41] at hh
      rw [HR2.out] at hh
      obtain ⟨rfl, h8, h9⟩ := hh
      have HM4 := hid h8
      have HG4 := hid (HG3.out.trans h9)
      clear h8 h9
      go_wp2_with fail
      obtain ⟨s9, h9⟩ := HM4.out
      exact ⟨rfl, .tuple #[], by first | rfl | kernel_rfl, rfl, ⟨_, _, _, _, _, h9⟩, HG4.out⟩
    | ok q =>
      obtain ⟨tx, s2⟩ := q
      have HR2 := hid h2
      clear h2
      dsimp only [bnd]
      cases h3 : markP T s2 [41] with
      | error q =>
        obtain ⟨c, x⟩ := q
        have HR3 := hid h3
        clear h3
        go_enter Tryz.func60, Tryz.ntmps60
        go_wp2_with fail
        go_quiet (fail)
        have HP1 := hid (HP.out.low (below_drewN (Below.refl _ W) nq))
        have HF1 := hid (Fmm.of (below_drewN (Below.refl _ W) nq) HP.out.size)
        generalize W.drewN nq = W1 at *
        clear q0 q1 q3
        have c1 : W1.cell? ⟨mb, 1, none⟩ = some (.int .i64 (n : Int)) := by rw [HN.out]; exact HP1.out.cell 1 (by decide)
        have f1 := frz_row HP1.out.box 1
        go_upto_region 2 with (fail)
        have HQ := hid (HP1.out.adv HKD.out)
        rw [← HN.out] at HQ
        have HF2 := hid (HF1.out.trans HQ.out.2)
        generalize W1.setCell ⟨mb, 1, none⟩ (.int .i64 ((n : Int) + 1)) = W2 at *
        clear c1 f1
        go_wp2_with fail
        refine (mtake_any HQ.out.1 ⟨#[40]⟩).mono ?_
        rintro e Y3 hh
        try rw [ml40] at hh
        try rw [ml41] at hh
        rw [HR1.out] at hh
        obtain ⟨rfl, h8, h9⟩ := hh
        have HM3 := hid h8
        have HG3 := hid (HF2.out.trans h9)
        clear h8 h9
        go_wp2_with fail
        refine (mtext_any HM3.out).mono ?_
        rintro e Y4 hh
        try rw [ml40] at hh
        try rw [ml41] at hh
        rw [HR2.out] at hh
        obtain ⟨rfl, h8, h9⟩ := hh
        have HM4 := hid h8
        have HG4 := hid (HG3.out.trans h9)
        clear h8 h9
        go_wp2_with fail
        refine (mtake_any HM4.out ⟨#[41]⟩).mono ?_
        rintro e Y5 hh
        try rw [ml40] at hh
        try rw [ml41] at hh
        rw [HR3.out] at hh
        obtain ⟨rfl, h8, h9⟩ := hh
        have HM5 := hid h8
        have HG5 := hid (HG4.out.trans h9)
        clear h8 h9
        go_wp2_with fail
        obtain ⟨s9, h9⟩ := HM5.out
        exact ⟨rfl, .tuple #[], by first | rfl | kernel_rfl, rfl, ⟨_, _, _, _, _, h9⟩, HG5.out⟩
      | ok q =>
        obtain ⟨u3, s3⟩ := q
        have HR3 := hid h3
        have HLN := hid (show s3.ps.length ≤ 100000 ∧ s3.os.length ≤ 100000 by rw [mark_ok h3, text_ok HR2.out, mark_ok HR1.out]; exact HLN.out)
        clear h3
        go_enter Tryz.func60, Tryz.ntmps60
        go_wp2_with fail
        go_quiet (fail)
        have HP1 := hid (HP.out.low (below_drewN (Below.refl _ W) nq))
        have HF1 := hid (Fmm.of (below_drewN (Below.refl _ W) nq) HP.out.size)
        generalize W.drewN nq = W1 at *
        clear q0 q1 q3
        have c1 : W1.cell? ⟨mb, 1, none⟩ = some (.int .i64 (n : Int)) := by rw [HN.out]; exact HP1.out.cell 1 (by decide)
        have f1 := frz_row HP1.out.box 1
        go_upto_region 2 with (fail)
        have HQ := hid (HP1.out.adv HKD.out)
        rw [← HN.out] at HQ
        have HF2 := hid (HF1.out.trans HQ.out.2)
        generalize W1.setCell ⟨mb, 1, none⟩ (.int .i64 ((n : Int) + 1)) = W2 at *
        clear c1 f1
        go_wp2_with fail
        refine (mtake_any HQ.out.1 ⟨#[40]⟩).mono ?_
        rintro e Y3 hh
        try rw [ml40] at hh
        try rw [ml41] at hh
        rw [HR1.out] at hh
        obtain ⟨rfl, h8, h9⟩ := hh
        have HM3 := hid h8
        have HG3 := hid (HF2.out.trans h9)
        clear h8 h9
        go_wp2_with fail
        refine (mtext_any HM3.out).mono ?_
        rintro e Y4 hh
        try rw [ml40] at hh
        try rw [ml41] at hh
        rw [HR2.out] at hh
        obtain ⟨rfl, h8, h9⟩ := hh
        have HM4 := hid h8
        have HG4 := hid (HG3.out.trans h9)
        clear h8 h9
        go_wp2_with fail
        refine (mtake_any HM4.out ⟨#[41]⟩).mono ?_
        rintro e Y5 hh
        try rw [ml40] at hh
        try rw [ml41] at hh
        rw [HR3.out] at hh
        obtain ⟨rfl, h8, h9⟩ := hh
        have HM5 := hid h8
        have HG5 := hid (HG4.out.trans h9)
        clear h8 h9
        go_wp2_with fail
        refine (mleaf_any HM5.out 10 0 (t.a : Int) tx hf1 (by have := HLN.out; omega) (by have := HLN.out; omega)).mono ?_
        rintro e Y6 ⟨rfl, h8, h9⟩
        have HE := hid h8
        have HG6 := hid (HG5.out.trans h9)
        clear h8 h9
        go_wp2_with fail
        exact ⟨rfl, .tuple #[], by first | rfl | kernel_rfl, rfl, HE.out, HG6.out⟩
end Go.Proofs.YtcldglilhhhdoaaGreatDoor.L
namespace Go.Proofs.YtcldglilhhhdoaaGreatDoor.L
open Go.RowKit
set_option linter.unusedVariables false
set_option linter.unusedSimpArgs false
set_option maxHeartbeats 16000000 in
set_option maxRecDepth 100000 in
theorem mres_any {mb B : Nat} {tv : Value} {T : List Tok} {W : World} {s : PS} {ws : List Wn} {fr : List Int} {fl : Array Value} {wv v o f : Value} {ks : Nat → Value} (h : MM mb B tv T W s ws fr fl wv v o f ks) (side pos : Int) (hf1 : fr.length ≤ 100000) (hp1 : s.ps.length ≤ 100000) (ho1 : s.os.length ≤ 100000) : Calls Tryz.prog 83 #[.pointer (some ⟨mb, 0, none⟩), .int .i64 side, .int .i64 pos] W fun e W' => e = .returned (.tuple #[]) ∧ Plf mb B tv T ws fr fl wv (bnd (namedP T s) fun t s3 => putP s3 ⟨18, t, side, []⟩ pos) W' ∧ Fmm B W W' := by
  have HP := hid h
  have HLN := hid (And.intro hp1 ho1)
  clear h
  unfold namedP
  cases h1 : markP T s [40] with
  | error q =>
    obtain ⟨c, x⟩ := q
    have HR1 := hid h1
    clear h1
    go_enter Tryz.func83, Tryz.ntmps83
    go_wp2_with fail
    refine (mtake_any HP.out ⟨#[40]⟩).mono ?_
    rintro e Y3 hh
    try rw [ml40] at hh
    try rw [ml41] at hh
    rw [HR1.out] at hh
    obtain ⟨rfl, h8, h9⟩ := hh
    have HM3 := hid h8
    have HG3 := hid h9
    clear h8 h9
    go_wp2_with fail
    obtain ⟨s9, h9⟩ := HM3.out
    exact ⟨rfl, .tuple #[], by first | rfl | kernel_rfl, rfl, ⟨_, _, _, _, _, h9⟩, HG3.out⟩
  | ok q =>
    obtain ⟨u1, s1⟩ := q
    have HR1 := hid h1
    clear h1
    dsimp only [bnd]
    cases h2 : textP T s1 with
    | error q =>
      obtain ⟨c, x⟩ := q
      have HR2 := hid h2
      clear h2
      go_enter Tryz.func83, Tryz.ntmps83
      go_wp2_with fail
      refine (mtake_any HP.out ⟨#[40]⟩).mono ?_
      rintro e Y3 hh
      try rw [ml40] at hh
      try rw [ml41] at hh
      rw [HR1.out] at hh
      obtain ⟨rfl, h8, h9⟩ := hh
      have HM3 := hid h8
      have HG3 := hid h9
      clear h8 h9
      go_wp2_with fail
      refine (mtext_any HM3.out).mono ?_
      rintro e Y4 hh
      try rw [ml40] at hh
      try rw [ml41] at hh
      rw [HR2.out] at hh
      obtain ⟨rfl, h8, h9⟩ := hh
      have HM4 := hid h8
      have HG4 := hid (HG3.out.trans h9)
      clear h8 h9
      go_wp2_with fail
      obtain ⟨s9, h9⟩ := HM4.out
      exact ⟨rfl, .tuple #[], by first | rfl | kernel_rfl, rfl, ⟨_, _, _, _, _, h9⟩, HG4.out⟩
    | ok q =>
      obtain ⟨tx, s2⟩ := q
      have HR2 := hid h2
      clear h2
      dsimp only [bnd]
      cases h3 : markP T s2 [41] with
      | error q =>
        obtain ⟨c, x⟩ := q
        have HR3 := hid h3
        clear h3
        go_enter Tryz.func83, Tryz.ntmps83
        go_wp2_with fail
        refine (mtake_any HP.out ⟨#[40]⟩).mono ?_
        rintro e Y3 hh
        try rw [ml40] at hh
        try rw [ml41] at hh
        rw [HR1.out] at hh
        obtain ⟨rfl, h8, h9⟩ := hh
        have HM3 := hid h8
        have HG3 := hid h9
        clear h8 h9
        go_wp2_with fail
        refine (mtext_any HM3.out).mono ?_
        rintro e Y4 hh
        try rw [ml40] at hh
        try rw [ml41] at hh
        rw [HR2.out] at hh
        obtain ⟨rfl, h8, h9⟩ := hh
        have HM4 := hid h8
        have HG4 := hid (HG3.out.trans h9)
        clear h8 h9
        go_wp2_with fail
        refine (mtake_any HM4.out ⟨#[41]⟩).mono ?_
        rintro e Y5 hh
        try rw [ml40] at hh
        try rw [ml41] at hh
        rw [HR3.out] at hh
        obtain ⟨rfl, h8, h9⟩ := hh
        have HM5 := hid h8
        have HG5 := hid (HG4.out.trans h9)
        clear h8 h9
        go_wp2_with fail
        obtain ⟨s9, h9⟩ := HM5.out
        exact ⟨rfl, .tuple #[], by first | rfl | kernel_rfl, rfl, ⟨_, _, _, _, _, h9⟩, HG5.out⟩
      | ok q =>
        obtain ⟨u3, s3⟩ := q
        have HR3 := hid h3
        have HLN := hid (show s3.ps.length ≤ 100000 ∧ s3.os.length ≤ 100000 by rw [mark_ok h3, text_ok HR2.out, mark_ok HR1.out]; exact HLN.out)
        clear h3
        go_enter Tryz.func83, Tryz.ntmps83
        go_wp2_with fail
        refine (mtake_any HP.out ⟨#[40]⟩).mono ?_
        rintro e Y3 hh
        try rw [ml40] at hh
        try rw [ml41] at hh
        rw [HR1.out] at hh
        obtain ⟨rfl, h8, h9⟩ := hh
        have HM3 := hid h8
        have HG3 := hid h9
        clear h8 h9
        go_wp2_with fail
        refine (mtext_any HM3.out).mono ?_
        rintro e Y4 hh
        try rw [ml40] at hh
        try rw [ml41] at hh
        rw [HR2.out] at hh
        obtain ⟨rfl, h8, h9⟩ := hh
        have HM4 := hid h8
        have HG4 := hid (HG3.out.trans h9)
        clear h8 h9
        go_wp2_with fail
        refine (mtake_any HM4.out ⟨#[41]⟩).mono ?_
        rintro e Y5 hh
        try rw [ml40] at hh
        try rw [ml41] at hh
        rw [HR3.out] at hh
        obtain ⟨rfl, h8, h9⟩ := hh
        have HM5 := hid h8
        have HG5 := hid (HG4.out.trans h9)
        clear h8 h9
        go_wp2_with fail
        refine (mleaf_any HM5.out 18 side pos tx hf1 (by have := HLN.out; omega) (by have := HLN.out; omega)).mono ?_
        rintro e Y6 ⟨rfl, h8, h9⟩
        have HE := hid h8
        have HG6 := hid (HG5.out.trans h9)
        clear h8 h9
        go_wp2_with fail
        exact ⟨rfl, .tuple #[], by first | rfl | kernel_rfl, rfl, HE.out, HG6.out⟩
end Go.Proofs.YtcldglilhhhdoaaGreatDoor.L
