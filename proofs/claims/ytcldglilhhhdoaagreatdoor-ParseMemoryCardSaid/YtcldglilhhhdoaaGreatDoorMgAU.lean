import Derived.Test.YtcldglilhhhdoaaGreatDoorMgAT
namespace Go.Proofs.YtcldglilhhhdoaaGreatDoor.L
open Go.RowKit
set_option linter.unusedVariables false
set_option linter.unusedSimpArgs false
/-- What a leaf of the machine gives. -/
def Plf (mb B : Nat) (tv : Value) (T : List Tok) (ws : List Wn) (fr : List Int) (fl : Array Value) (wv : Value) (r : PRes Int) (W' : World) : Prop :=
 match r with
 | .ok (k, s') => ∃ v' o' f' ks', MM mb B tv T W' s' ws (fr ++ [k]) fl wv v' o' f' ks'
 | .error (c, x) => ∃ s' v' o' f' ks', MM mb B tv T W' s' ws fr (f19 c x) wv v' o' f' ks'
set_option maxHeartbeats 16000000 in
set_option maxRecDepth 100000 in
theorem mtol_any {mb B : Nat} {tv : Value} {T : List Tok} {W : World} {s : PS} {ws : List Wn} {fr : List Int} {fl : Array Value} {wv v o f : Value} {ks : Nat → Value} (h : MM mb B tv T W s ws fr fl wv v o f ks) (hk : (tk T s.nx).kind ≠ 0) (hf1 : fr.length ≤ 100000) (hp1 : s.ps.length ≤ 100000) (ho1 : s.os.length ≤ 100000) : Calls Tryz.prog 60 #[.pointer (some ⟨mb, 0, none⟩)] W fun e W' => e = .returned (.tuple #[]) ∧ Plf mb B tv T ws fr fl wv (tolP T s) W' ∧ Fmm B W W' := by
 obtain ⟨g, cap, rfl, hgl, hc⟩ := h.tokc
 have hnx := h.nx
 have htl := h.tl
 have HP := hid h
 have HC := hid (fun r (hr : r < 5) => hc s.nx r hnx hr)
 have HGL := hid hgl
 have HC0 := hid (h.cell 0 (by decide))
 have HC1 := hid (h.cell 1 (by decide))
 have HML := hid (lt_blk h.box)
 clear hc h hgl
 obtain ⟨t, ht⟩ : ∃ t, t = tk T s.nx := ⟨_, rfl⟩
 have HT := hid ht
 rw [← ht] at HC
 obtain ⟨L, hL⟩ : ∃ L, L = T.length := ⟨_, rfl⟩
 have HLT := hid hL
 rw [← hL] at HC0 hnx htl
 obtain ⟨n, hn⟩ : ∃ n, n = s.nx := ⟨_, rfl⟩
 have HN := hid hn
 rw [← hn] at HC HC1 hnx
 clear hL hn
 have g1 : (n : Int) < (L : Int) := by omega
 have g0 : (0 : Int) ≤ (n : Int) := by omega
 have MS := hid (show ∀ Y, Below W.heap.size W Y → (fun Y => (Y.cell? ⟨mb, 0, none⟩ = some (.slice (some ⟨g, 0, none⟩) L cap) ∧ Y.cell? ⟨mb, 1, none⟩ = some (.int .i64 (n : Int))) ∧ Y.cell? ⟨g, n * 5, none⟩ = some (.int .i64 (t.kind : Int)) ∧ Y.cell? ⟨g, n * 5 + 1, none⟩ = some (.string t.text) ∧ Y.cell? ⟨g, n * 5 + 2, none⟩ = some (.int .i64 t.num) ∧ Y.cell? ⟨g, n * 5 + 3, none⟩ = some (.int .i64 (t.a : Int)) ∧ Y.cell? ⟨g, n * 5 + 4, none⟩ = some (.int .i64 (t.e : Int))) Y from fun Y hb => ⟨⟨(hb.cell (p := ⟨mb, 0, none⟩) HML.out).trans HC0.out, (hb.cell (p := ⟨mb, 1, none⟩) HML.out).trans HC1.out⟩, (hb.cell (p := ⟨g, n * 5, none⟩) HGL.out).trans (HC.out 0 (by decide)), (hb.cell (p := ⟨g, n * 5 + 1, none⟩) HGL.out).trans (HC.out 1 (by decide)), (hb.cell (p := ⟨g, n * 5 + 2, none⟩) HGL.out).trans (HC.out 2 (by decide)), (hb.cell (p := ⟨g, n * 5 + 3, none⟩) HGL.out).trans (HC.out 3 (by decide)), (hb.cell (p := ⟨g, n * 5 + 4, none⟩) HGL.out).trans (HC.out 4 (by decide))⟩)
 have HKD := hid hk
 have HLN := hid (And.intro hp1 ho1)
 clear ht hk
 have hnl : (n : Int) + 1 ≤ 4098 := by omega
 have q0 : W.cell? ⟨mb, 0, none⟩ = some (.slice (some ⟨g, 0, none⟩) L cap) := HC0.out
 have q1 : W.cell? ⟨mb, 1, none⟩ = some (.int .i64 (n : Int)) := HC1.out
 have q3 : W.cell? ⟨g, n * 5 + 3, none⟩ = some (.int .i64 (t.a : Int)) := HC.out 3 (by decide)
 clear MS
 unfold tolP namedP
 rw [← HT.out]
 cases h1 : markP T (Go.Proofs.YtcldglilhhhdoaaGreatDoor.L.adv s) [40] with
 | error q =>
  obtain ⟨c, x⟩ := q
  have HR1 := hid h1
  clear h1
  go_enter Tryz.func60, Tryz.ntmps60
  go_wp2_with fail
  go_quiet (fail)
  have HP1 := hid (HP.out.low (below_drewN (Below.refl _ W) nq))
  have HF1 := hid (Fmm.of (below_drewN (Below.refl _ W) nq) HP.out.size)
  generalize W.drewN nq = W1 at *
  clear q0 q1 q3
  have c1 : W1.cell? ⟨mb, 1, none⟩ = some (.int .i64 (n : Int)) := by rw [HN.out]; exact HP1.out.cell 1 (by decide)
  have f1 := frz_row HP1.out.box 1
  go_upto_region 2 with (fail)
  have HQ := hid (HP1.out.adv HKD.out)
  rw [← HN.out] at HQ
  have HF2 := hid (HF1.out.trans HQ.out.2)
  generalize W1.setCell ⟨mb, 1, none⟩ (.int .i64 ((n : Int) + 1)) = W2 at *
  clear c1 f1
  go_wp2_with fail
  refine (mtake_any HQ.out.1 ⟨#[40]⟩).mono ?_
  rintro e Y3 hh
  try rw [ml40] at hh
  try rw [ml41] at hh
  rw [HR1.out] at hh
  obtain ⟨rfl, h8, h9⟩ := hh
  have HM3 := hid h8
  have HG3 := hid (HF2.out.trans h9)
  clear h8 h9
  go_wp2_with fail
  obtain ⟨s9, h9⟩ := HM3.out
  exact ⟨rfl, .tuple #[], by first | rfl | kernel_rfl, rfl, ⟨_, _, _, _, _, h9⟩, HG3.out⟩
 | ok q =>
  obtain ⟨u1, s1⟩ := q
  have HR1 := hid h1
  have n1 := gn_mark h1
  clear h1
  dsimp only [bnd]
  cases h2 : textP T s1 with
  | error q =>
   obtain ⟨c, x⟩ := q
   have HR2 := hid h2
   clear h2
   go_enter Tryz.func60, Tryz.ntmps60
   go_wp2_with fail
   go_quiet (fail)
   have HP1 := hid (HP.out.low (below_drewN (Below.refl _ W) nq))
   have HF1 := hid (Fmm.of (below_drewN (Below.refl _ W) nq) HP.out.size)
   generalize W.drewN nq = W1 at *
   clear q0 q1 q3
   have c1 : W1.cell? ⟨mb, 1, none⟩ = some (.int .i64 (n : Int)) := by rw [HN.out]; exact HP1.out.cell 1 (by decide)
   have f1 := frz_row HP1.out.box 1
   go_upto_region 2 with (fail)
   have HQ := hid (HP1.out.adv HKD.out)
   rw [← HN.out] at HQ
   have HF2 := hid (HF1.out.trans HQ.out.2)
   generalize W1.setCell ⟨mb, 1, none⟩ (.int .i64 ((n : Int) + 1)) = W2 at *
   clear c1 f1
   go_wp2_with fail
   refine (mtake_any HQ.out.1 ⟨#[40]⟩).mono ?_
   rintro e Y3 hh
   try rw [ml40] at hh
   try rw [ml41] at hh
   rw [HR1.out] at hh
   obtain ⟨rfl, h8, h9⟩ := hh
   have HM3 := hid h8
   have HG3 := hid (HF2.out.trans h9)
   clear h8 h9
   go_wp2_with fail
   refine (mtext_any HM3.out).mono ?_
   rintro e Y4 hh
   try rw [ml40] at hh
   try rw [ml41] at hh
   rw [HR2.out] at hh
   obtain ⟨rfl, h8, h9⟩ := hh
   have HM4 := hid h8
   have HG4 := hid (HG3.out.trans h9)
   clear h8 h9
   go_wp2_with fail
   obtain ⟨s9, h9⟩ := HM4.out
   exact ⟨rfl, .tuple #[], by first | rfl | kernel_rfl, rfl, ⟨_, _, _, _, _, h9⟩, HG4.out⟩
  | ok q =>
   obtain ⟨tx, s2⟩ := q
   have HR2 := hid h2
   clear h2
   dsimp only [bnd]
   cases h3 : markP T s2 [41] with
   | error q =>
    obtain ⟨c, x⟩ := q
    have HR3 := hid h3
    clear h3
    go_enter Tryz.func60, Tryz.ntmps60
    go_wp2_with fail
    go_quiet (fail)
    have HP1 := hid (HP.out.low (below_drewN (Below.refl _ W) nq))
    have HF1 := hid (Fmm.of (below_drewN (Below.refl _ W) nq) HP.out.size)
    generalize W.drewN nq = W1 at *
    clear q0 q1 q3
    have c1 : W1.cell? ⟨mb, 1, none⟩ = some (.int .i64 (n : Int)) := by rw [HN.out]; exact HP1.out.cell 1 (by decide)
    have f1 := frz_row HP1.out.box 1
    go_upto_region 2 with (fail)
    have HQ := hid (HP1.out.adv HKD.out)
    rw [← HN.out] at HQ
    have HF2 := hid (HF1.out.trans HQ.out.2)
    generalize W1.setCell ⟨mb, 1, none⟩ (.int .i64 ((n : Int) + 1)) = W2 at *
    clear c1 f1
    go_wp2_with fail
    refine (mtake_any HQ.out.1 ⟨#[40]⟩).mono ?_
    rintro e Y3 hh
    try rw [ml40] at hh
    try rw [ml41] at hh
    rw [HR1.out] at hh
    obtain ⟨rfl, h8, h9⟩ := hh
    have HM3 := hid h8
    have HG3 := hid (HF2.out.trans h9)
    clear h8 h9
    go_wp2_with fail
    refine (mtext_any HM3.out).mono ?_
    rintro e Y4 hh
    try rw [ml40] at hh
    try rw [ml41] at hh
    rw [HR2.out] at hh
    obtain ⟨rfl, h8, h9⟩ := hh
    have HM4 := hid h8
    have HG4 := hid (HG3.out.trans h9)
    clear h8 h9
    go_wp2_with fail
    refine (mtake_any HM4.out ⟨#[41]⟩).mono ?_
    rintro e Y5 hh
    try rw [ml40] at hh
    try rw [ml41] at hh
    rw [HR3.out] at hh
    obtain ⟨rfl, h8, h9⟩ := hh
    have HM5 := hid h8
    have HG5 := hid (HG4.out.trans h9)
    clear h8 h9
    go_wp2_with fail
    obtain ⟨s9, h9⟩ := HM5.out
    exact ⟨rfl, .tuple #[], by first | rfl | kernel_rfl, rfl, ⟨_, _, _, _, _, h9⟩, HG5.out⟩
   | ok q =>
    obtain ⟨u3, s3⟩ := q
    have HR3 := hid h3
    have HLN := hid (show s3.ps.length ≤ 100000 ∧ s3.os.length ≤ 100000 by rw [mark_ok h3, text_ok HR2.out, mark_ok HR1.out]; exact HLN.out)
    clear h3
    go_enter Tryz.func60, Tryz.ntmps60
    go_wp2_with fail
    go_quiet (fail)
    have HP1 := hid (HP.out.low (below_drewN (Below.refl _ W) nq))
    have HF1 := hid (Fmm.of (below_drewN (Below.refl _ W) nq) HP.out.size)
    generalize W.drewN nq = W1 at *
    clear q0 q1 q3
    have c1 : W1.cell? ⟨mb, 1, none⟩ = some (.int .i64 (n : Int)) := by rw [HN.out]; exact HP1.out.cell 1 (by decide)
    have f1 := frz_row HP1.out.box 1
    go_upto_region 2 with (fail)
    have HQ := hid (HP1.out.adv HKD.out)
    rw [← HN.out] at HQ
    have HF2 := hid (HF1.out.trans HQ.out.2)
    generalize W1.setCell ⟨mb, 1, none⟩ (.int .i64 ((n : Int) + 1)) = W2 at *
    clear c1 f1
    go_wp2_with fail
    refine (mtake_any HQ.out.1 ⟨#[40]⟩).mono ?_
    rintro e Y3 hh
    try rw [ml40] at hh
    try rw [ml41] at hh
    rw [HR1.out] at hh
    obtain ⟨rfl, h8, h9⟩ := hh
    have HM3 := hid h8
    have HG3 := hid (HF2.out.trans h9)
    clear h8 h9
    go_wp2_with fail
    refine (mtext_any HM3.out).mono ?_
    rintro e Y4 hh
    try rw [ml40] at hh
    try rw [ml41] at hh
    rw [HR2.out] at hh
    obtain ⟨rfl, h8, h9⟩ := hh
    have HM4 := hid h8
    have HG4 := hid (HG3.out.trans h9)
    clear h8 h9
    go_wp2_with fail
    refine (mtake_any HM4.out ⟨#[41]⟩).mono ?_
    rintro e Y5 hh
    try rw [ml40] at hh
    try rw [ml41] at hh
    rw [HR3.out] at hh
    obtain ⟨rfl, h8, h9⟩ := hh
    have HM5 := hid h8
    have HG5 := hid (HG4.out.trans h9)
    clear h8 h9
    go_wp2_with fail
    refine (mleaf_any HM5.out 10 0 (t.a : Int) tx hf1 (by have := HLN.out; omega) (by have := HLN.out; omega)).mono ?_
    rintro e Y6 ⟨rfl, h8, h9⟩
    have HE := hid h8
    have HG6 := hid (HG5.out.trans h9)
    clear h8 h9
    go_wp2_with fail
    exact ⟨rfl, .tuple #[], by first | rfl | kernel_rfl, rfl, HE.out, HG6.out⟩
end Go.Proofs.YtcldglilhhhdoaaGreatDoor.L
namespace Go.Proofs.YtcldglilhhhdoaaGreatDoor.L
open Go.RowKit
set_option linter.unusedVariables false
set_option linter.unusedSimpArgs false
set_option maxHeartbeats 16000000 in
set_option maxRecDepth 100000 in
theorem mres_any {mb B : Nat} {tv : Value} {T : List Tok} {W : World} {s : PS} {ws : List Wn} {fr : List Int} {fl : Array Value} {wv v o f : Value} {ks : Nat → Value} (h : MM mb B tv T W s ws fr fl wv v o f ks) (side pos : Int) (hf1 : fr.length ≤ 100000) (hp1 : s.ps.length ≤ 100000) (ho1 : s.os.length ≤ 100000) : Calls Tryz.prog 83 #[.pointer (some ⟨mb, 0, none⟩), .int .i64 side, .int .i64 pos] W fun e W' => e = .returned (.tuple #[]) ∧ Plf mb B tv T ws fr fl wv (bnd (namedP T s) fun t s3 => putP s3 ⟨18, t, side, []⟩ pos) W' ∧ Fmm B W W' := by
 have HP := hid h
 have HLN := hid (And.intro hp1 ho1)
 clear h
 unfold namedP
 cases h1 : markP T s [40] with
 | error q =>
  obtain ⟨c, x⟩ := q
  have HR1 := hid h1
  clear h1
  go_enter Tryz.func83, Tryz.ntmps83
  go_wp2_with fail
  refine (mtake_any HP.out ⟨#[40]⟩).mono ?_
  rintro e Y3 hh
  try rw [ml40] at hh
  try rw [ml41] at hh
  rw [HR1.out] at hh
  obtain ⟨rfl, h8, h9⟩ := hh
  have HM3 := hid h8
  have HG3 := hid h9
  clear h8 h9
  go_wp2_with fail
  obtain ⟨s9, h9⟩ := HM3.out
  exact ⟨rfl, .tuple #[], by first | rfl | kernel_rfl, rfl, ⟨_, _, _, _, _, h9⟩, HG3.out⟩
 | ok q =>
  obtain ⟨u1, s1⟩ := q
  have HR1 := hid h1
  clear h1
  dsimp only [bnd]
  cases h2 : textP T s1 with
  | error q =>
   obtain ⟨c, x⟩ := q
   have HR2 := hid h2
   clear h2
   go_enter Tryz.func83, Tryz.ntmps83
   go_wp2_with fail
   refine (mtake_any HP.out ⟨#[40]⟩).mono ?_
   rintro e Y3 hh
   try rw [ml40] at hh
   try rw [ml41] at hh
   rw [HR1.out] at hh
   obtain ⟨rfl, h8, h9⟩ := hh
   have HM3 := hid h8
   have HG3 := hid h9
   clear h8 h9
   go_wp2_with fail
   refine (mtext_any HM3.out).mono ?_
   rintro e Y4 hh
   try rw [ml40] at hh
   try rw [ml41] at hh
   rw [HR2.out] at hh
   obtain ⟨rfl, h8, h9⟩ := hh
   have HM4 := hid h8
   have HG4 := hid (HG3.out.trans h9)
   clear h8 h9
   go_wp2_with fail
   obtain ⟨s9, h9⟩ := HM4.out
   exact ⟨rfl, .tuple #[], by first | rfl | kernel_rfl, rfl, ⟨_, _, _, _, _, h9⟩, HG4.out⟩
  | ok q =>
   obtain ⟨tx, s2⟩ := q
   have HR2 := hid h2
   clear h2
   dsimp only [bnd]
   cases h3 : markP T s2 [41] with
   | error q =>
    obtain ⟨c, x⟩ := q
    have HR3 := hid h3
    clear h3
    go_enter Tryz.func83, Tryz.ntmps83
    go_wp2_with fail
    refine (mtake_any HP.out ⟨#[40]⟩).mono ?_
    rintro e Y3 hh
    try rw [ml40] at hh
    try rw [ml41] at hh
    rw [HR1.out] at hh
    obtain ⟨rfl, h8, h9⟩ := hh
    have HM3 := hid h8
    have HG3 := hid h9
    clear h8 h9
    go_wp2_with fail
    refine (mtext_any HM3.out).mono ?_
    rintro e Y4 hh
    try rw [ml40] at hh
    try rw [ml41] at hh
    rw [HR2.out] at hh
    obtain ⟨rfl, h8, h9⟩ := hh
    have HM4 := hid h8
    have HG4 := hid (HG3.out.trans h9)
    clear h8 h9
    go_wp2_with fail
    refine (mtake_any HM4.out ⟨#[41]⟩).mono ?_
    rintro e Y5 hh
    try rw [ml40] at hh
    try rw [ml41] at hh
    rw [HR3.out] at hh
    obtain ⟨rfl, h8, h9⟩ := hh
    have HM5 := hid h8
    have HG5 := hid (HG4.out.trans h9)
    clear h8 h9
    go_wp2_with fail
    obtain ⟨s9, h9⟩ := HM5.out
    exact ⟨rfl, .tuple #[], by first | rfl | kernel_rfl, rfl, ⟨_, _, _, _, _, h9⟩, HG5.out⟩
   | ok q =>
    obtain ⟨u3, s3⟩ := q
    have HR3 := hid h3
    have HLN := hid (show s3.ps.length ≤ 100000 ∧ s3.os.length ≤ 100000 by rw [mark_ok h3, text_ok HR2.out, mark_ok HR1.out]; exact HLN.out)
    clear h3
    go_enter Tryz.func83, Tryz.ntmps83
    go_wp2_with fail
    refine (mtake_any HP.out ⟨#[40]⟩).mono ?_
    rintro e Y3 hh
    try rw [ml40] at hh
    try rw [ml41] at hh
    rw [HR1.out] at hh
    obtain ⟨rfl, h8, h9⟩ := hh
    have HM3 := hid h8
    have HG3 := hid h9
    clear h8 h9
    go_wp2_with fail
    refine (mtext_any HM3.out).mono ?_
    rintro e Y4 hh
    try rw [ml40] at hh
    try rw [ml41] at hh
    rw [HR2.out] at hh
    obtain ⟨rfl, h8, h9⟩ := hh
    have HM4 := hid h8
    have HG4 := hid (HG3.out.trans h9)
    clear h8 h9
    go_wp2_with fail
    refine (mtake_any HM4.out ⟨#[41]⟩).mono ?_
    rintro e Y5 hh
    try rw [ml40] at hh
    try rw [ml41] at hh
    rw [HR3.out] at hh
    obtain ⟨rfl, h8, h9⟩ := hh
    have HM5 := hid h8
    have HG5 := hid (HG4.out.trans h9)
    clear h8 h9
    go_wp2_with fail
    refine (mleaf_any HM5.out 18 side pos tx hf1 (by have := HLN.out; omega) (by have := HLN.out; omega)).mono ?_
    rintro e Y6 ⟨rfl, h8, h9⟩
    have HE := hid h8
    have HG6 := hid (HG5.out.trans h9)
    clear h8 h9
    go_wp2_with fail
    exact ⟨rfl, .tuple #[], by first | rfl | kernel_rfl, rfl, HE.out, HG6.out⟩
end Go.Proofs.YtcldglilhhhdoaaGreatDoor.L
namespace Go.Proofs.YtcldglilhhhdoaaGreatDoor.L
open Go.RowKit
set_option linter.unusedVariables false
set_option linter.unusedSimpArgs false
/-- What a step of the machine gives. -/
def Pst (mb B : Nat) (tv : Value) (T : List Tok) (ws : List Wn) (fl : Array Value) (r : MR) (W' : World) : Prop :=
 match r with
 | .ok (q, s') => ∃ wv' v' o' f' ks', MM mb B tv T W' s' (q.1 ++ ws) q.2 fl wv' v' o' f' ks'
 | .error (c, x) => ∃ s' ws' fr' wv' v' o' f' ks', MM mb B tv T W' s' ws' fr' (f19 c x) wv' v' o' f' ks'
theorem pst_lv {mb B : Nat} {tv : Value} {T : List Tok} {ws : List Wn} {fr : List Int} {fl : Array Value} {wv : Value} {r : PRes Int} {W' : World} (h : Plf mb B tv T ws fr fl wv r W') : Pst mb B tv T ws fl (lv fr r) W' := by
 match r, h with
 | .ok (k, s'), h => obtain ⟨v', o', f', ks', h⟩ := h; exact ⟨_, _, _, _, _, h⟩
 | .error (c, x), h => obtain ⟨s', v', o', f', ks', h⟩ := h; exact ⟨_, _, _, _, _, _, _, _, h⟩
set_option maxHeartbeats 16000000 in
set_option maxRecDepth 100000 in
theorem msel_any {mb B : Nat} {tv : Value} {T : List Tok} {W : World} {s : PS} {ws : List Wn} {fr : List Int} {fl : Array Value} {wv v o f : Value} {ks : Nat → Value} (h : MM mb B tv T W s ws fr fl wv v o f ks) (kd : Int) (hk : (tk T s.nx).kind ≠ 0) (hf1 : fr.length ≤ 100000) (hl : ws.length ≤ 1000) : Calls Tryz.prog 59 #[.pointer (some ⟨mb, 0, none⟩), .int .i64 kd] W fun e W' => e = .returned (.tuple #[]) ∧ Pst mb B tv T ws fl (selM T kd s fr) W' ∧ Fmm B W W' := by
 obtain ⟨N, hN⟩ : ∃ N, N = fr.length := ⟨_, rfl⟩
 have HNN := hid hN
 obtain ⟨fa, fc, hf⟩ := own_form h.free
 rw [← hN] at hf
 have HFE := hid hf
 have hNm : N ≤ maxLen := by rw [hN]; unfold maxLen; omega
 obtain ⟨g, cap, rfl, hgl, hc⟩ := h.tokc
 have hnx := h.nx
 have htl := h.tl
 have HP := hid h
 have HC := hid (fun r (hr : r < 5) => hc s.nx r hnx hr)
 have HGL := hid hgl
 have HC0 := hid (h.cell 0 (by decide))
 have HC1 := hid (h.cell 1 (by decide))
 have HML := hid (lt_blk h.box)
 clear hc h hgl
 obtain ⟨t, ht⟩ : ∃ t, t = tk T s.nx := ⟨_, rfl⟩
 have HT := hid ht
 rw [← ht] at HC
 obtain ⟨L, hL⟩ : ∃ L, L = T.length := ⟨_, rfl⟩
 have HLT := hid hL
 rw [← hL] at HC0 hnx htl
 obtain ⟨n, hn⟩ : ∃ n, n = s.nx := ⟨_, rfl⟩
 have HN := hid hn
 rw [← hn] at HC HC1 hnx
 clear hL hn
 have g1 : (n : Int) < (L : Int) := by omega
 have g0 : (0 : Int) ≤ (n : Int) := by omega
 have MS := hid (show ∀ Y, Below W.heap.size W Y → (fun Y => (Y.cell? ⟨mb, 0, none⟩ = some (.slice (some ⟨g, 0, none⟩) L cap) ∧ Y.cell? ⟨mb, 1, none⟩ = some (.int .i64 (n : Int))) ∧ Y.cell? ⟨g, n * 5, none⟩ = some (.int .i64 (t.kind : Int)) ∧ Y.cell? ⟨g, n * 5 + 1, none⟩ = some (.string t.text) ∧ Y.cell? ⟨g, n * 5 + 2, none⟩ = some (.int .i64 t.num) ∧ Y.cell? ⟨g, n * 5 + 3, none⟩ = some (.int .i64 (t.a : Int)) ∧ Y.cell? ⟨g, n * 5 + 4, none⟩ = some (.int .i64 (t.e : Int))) Y from fun Y hb => ⟨⟨(hb.cell (p := ⟨mb, 0, none⟩) HML.out).trans HC0.out, (hb.cell (p := ⟨mb, 1, none⟩) HML.out).trans HC1.out⟩, (hb.cell (p := ⟨g, n * 5, none⟩) HGL.out).trans (HC.out 0 (by decide)), (hb.cell (p := ⟨g, n * 5 + 1, none⟩) HGL.out).trans (HC.out 1 (by decide)), (hb.cell (p := ⟨g, n * 5 + 2, none⟩) HGL.out).trans (HC.out 2 (by decide)), (hb.cell (p := ⟨g, n * 5 + 3, none⟩) HGL.out).trans (HC.out 3 (by decide)), (hb.cell (p := ⟨g, n * 5 + 4, none⟩) HGL.out).trans (HC.out 4 (by decide))⟩)
 have HKD := hid hk
 clear ht hk hf
 have hnl : (n : Int) + 1 ≤ 4098 := by omega
 have q0 : W.cell? ⟨mb, 0, none⟩ = some (.slice (some ⟨g, 0, none⟩) L cap) := HC0.out
 have q1 : W.cell? ⟨mb, 1, none⟩ = some (.int .i64 (n : Int)) := HC1.out
 have q3 : W.cell? ⟨g, n * 5 + 3, none⟩ = some (.int .i64 (t.a : Int)) := HC.out 3 (by decide)
 clear MS
 unfold selM
 rw [← HT.out, ← hN]
 clear hN
 cases h1 : openP T (Go.Proofs.YtcldglilhhhdoaaGreatDoor.L.adv s) [40] with
 | error q =>
  obtain ⟨c, x⟩ := q
  have HR1 := hid h1
  clear h1
  go_enter Tryz.func59, Tryz.ntmps59
  go_wp2_with fail
  go_quiet (fail)
  have HP1 := hid (HP.out.low (below_drewN (Below.refl _ W) nq))
  have HF1 := hid (Fmm.of (below_drewN (Below.refl _ W) nq) HP.out.size)
  generalize W.drewN nq = W1 at *
  clear q0 q1 q3
  have c1 : W1.cell? ⟨mb, 1, none⟩ = some (.int .i64 (n : Int)) := by rw [HN.out]; exact HP1.out.cell 1 (by decide)
  have f1 := frz_row HP1.out.box 1
  go_upto_region 2 with (fail)
  have HQ := hid (HP1.out.adv HKD.out)
  rw [← HN.out] at HQ
  have HF2 := hid (HF1.out.trans HQ.out.2)
  generalize W1.setCell ⟨mb, 1, none⟩ (.int .i64 ((n : Int) + 1)) = W2 at *
  clear c1 f1
  go_wp2_with fail
  refine (mtopen_any HQ.out.1).mono ?_
  rintro e Y3 hh
  try rw [ml40] at hh
  try rw [ml41] at hh
  rw [HR1.out] at hh
  obtain ⟨rfl, h8, h9⟩ := hh
  have HM3 := hid h8
  have HG3 := hid (HF2.out.trans h9)
  clear h8 h9
  go_wp2_with fail
  obtain ⟨s9, h9⟩ := HM3.out
  exact ⟨rfl, .tuple #[], by first | rfl | kernel_rfl, rfl, ⟨_, _, _, _, _, _, _, _, h9⟩, HG3.out⟩
 | ok q =>
  obtain ⟨u1, s1⟩ := q
  have HR1 := hid h1
  clear h1
  dsimp only [bnd]
  cases h2 : textP T s1 with
  | error q =>
   obtain ⟨c, x⟩ := q
   have HR2 := hid h2
   clear h2
   go_enter Tryz.func59, Tryz.ntmps59
   go_wp2_with fail
   go_quiet (fail)
   have HP1 := hid (HP.out.low (below_drewN (Below.refl _ W) nq))
   have HF1 := hid (Fmm.of (below_drewN (Below.refl _ W) nq) HP.out.size)
   generalize W.drewN nq = W1 at *
   clear q0 q1 q3
   have c1 : W1.cell? ⟨mb, 1, none⟩ = some (.int .i64 (n : Int)) := by rw [HN.out]; exact HP1.out.cell 1 (by decide)
   have f1 := frz_row HP1.out.box 1
   go_upto_region 2 with (fail)
   have HQ := hid (HP1.out.adv HKD.out)
   rw [← HN.out] at HQ
   have HF2 := hid (HF1.out.trans HQ.out.2)
   generalize W1.setCell ⟨mb, 1, none⟩ (.int .i64 ((n : Int) + 1)) = W2 at *
   clear c1 f1
   go_wp2_with fail
   refine (mtopen_any HQ.out.1).mono ?_
   rintro e Y3 hh
   try rw [ml40] at hh
   try rw [ml41] at hh
   rw [HR1.out] at hh
   obtain ⟨rfl, h8, h9⟩ := hh
   have HM3 := hid h8
   have HG3 := hid (HF2.out.trans h9)
   clear h8 h9
   go_wp2_with fail
   refine (mtext_any HM3.out).mono ?_
   rintro e Y4 hh
   try rw [ml40] at hh
   try rw [ml41] at hh
   rw [HR2.out] at hh
   obtain ⟨rfl, h8, h9⟩ := hh
   have HM4 := hid h8
   have HG4 := hid (HG3.out.trans h9)
   clear h8 h9
   go_wp2_with fail
   obtain ⟨s9, h9⟩ := HM4.out
   exact ⟨rfl, .tuple #[], by first | rfl | kernel_rfl, rfl, ⟨_, _, _, _, _, _, _, _, h9⟩, HG4.out⟩
  | ok q =>
   obtain ⟨tx, s2⟩ := q
   have HR2 := hid h2
   clear h2
   dsimp only [bnd]
   cases h3 : markP T s2 [44] with
   | error q =>
    obtain ⟨c, x⟩ := q
    have HR3 := hid h3
    clear h3
    go_enter Tryz.func59, Tryz.ntmps59
    go_wp2_with fail
    go_quiet (fail)
    have HP1 := hid (HP.out.low (below_drewN (Below.refl _ W) nq))
    have HF1 := hid (Fmm.of (below_drewN (Below.refl _ W) nq) HP.out.size)
    generalize W.drewN nq = W1 at *
    clear q0 q1 q3
    have c1 : W1.cell? ⟨mb, 1, none⟩ = some (.int .i64 (n : Int)) := by rw [HN.out]; exact HP1.out.cell 1 (by decide)
    have f1 := frz_row HP1.out.box 1
    go_upto_region 2 with (fail)
    have HQ := hid (HP1.out.adv HKD.out)
    rw [← HN.out] at HQ
    have HF2 := hid (HF1.out.trans HQ.out.2)
    generalize W1.setCell ⟨mb, 1, none⟩ (.int .i64 ((n : Int) + 1)) = W2 at *
    clear c1 f1
    go_wp2_with fail
    refine (mtopen_any HQ.out.1).mono ?_
    rintro e Y3 hh
    try rw [ml40] at hh
    try rw [ml41] at hh
    rw [HR1.out] at hh
    obtain ⟨rfl, h8, h9⟩ := hh
    have HM3 := hid h8
    have HG3 := hid (HF2.out.trans h9)
    clear h8 h9
    go_wp2_with fail
    refine (mtext_any HM3.out).mono ?_
    rintro e Y4 hh
    try rw [ml40] at hh
    try rw [ml41] at hh
    rw [HR2.out] at hh
    obtain ⟨rfl, h8, h9⟩ := hh
    have HM4 := hid h8
    have HG4 := hid (HG3.out.trans h9)
    clear h8 h9
    go_wp2_with fail
    refine (mtake_any HM4.out ⟨#[44]⟩).mono ?_
    rintro e Y5 hh
    try rw [ml40] at hh
    rw [ml44] at hh
    rw [HR3.out] at hh
    obtain ⟨rfl, h8, h9⟩ := hh
    have HM5 := hid h8
    have HG5 := hid (HG4.out.trans h9)
    clear h8 h9
    go_wp2_with fail
    obtain ⟨s9, h9⟩ := HM5.out
    exact ⟨rfl, .tuple #[], by first | rfl | kernel_rfl, rfl, ⟨_, _, _, _, _, _, _, _, h9⟩, HG5.out⟩
   | ok q =>
    obtain ⟨u3, s3⟩ := q
    have HR3 := hid h3
    clear h3
    go_enter Tryz.func59, Tryz.ntmps59
    go_wp2_with fail
    go_quiet (fail)
    have HP1 := hid (HP.out.low (below_drewN (Below.refl _ W) nq))
    have HF1 := hid (Fmm.of (below_drewN (Below.refl _ W) nq) HP.out.size)
    generalize W.drewN nq = W1 at *
    clear q0 q1 q3
    have c1 : W1.cell? ⟨mb, 1, none⟩ = some (.int .i64 (n : Int)) := by rw [HN.out]; exact HP1.out.cell 1 (by decide)
    have f1 := frz_row HP1.out.box 1
    go_upto_region 2 with (fail)
    have HQ := hid (HP1.out.adv HKD.out)
    rw [← HN.out] at HQ
    have HF2 := hid (HF1.out.trans HQ.out.2)
    generalize W1.setCell ⟨mb, 1, none⟩ (.int .i64 ((n : Int) + 1)) = W2 at *
    clear c1 f1
    go_wp2_with fail
    refine (mtopen_any HQ.out.1).mono ?_
    rintro e Y3 hh
    try rw [ml40] at hh
    try rw [ml41] at hh
    rw [HR1.out] at hh
    obtain ⟨rfl, h8, h9⟩ := hh
    have HM3 := hid h8
    have HG3 := hid (HF2.out.trans h9)
    clear h8 h9
    go_wp2_with fail
    refine (mtext_any HM3.out).mono ?_
    rintro e Y4 hh
    try rw [ml40] at hh
    try rw [ml41] at hh
    rw [HR2.out] at hh
    obtain ⟨rfl, h8, h9⟩ := hh
    have HM4 := hid h8
    have HG4 := hid (HG3.out.trans h9)
    clear h8 h9
    go_wp2_with fail
    refine (mtake_any HM4.out ⟨#[44]⟩).mono ?_
    rintro e Y5 hh
    try rw [ml40] at hh
    rw [ml44] at hh
    rw [HR3.out] at hh
    obtain ⟨rfl, h8, h9⟩ := hh
    have HM5 := hid h8
    have HG5 := hid (HG4.out.trans h9)
    clear h8 h9
    have c5 : Y5.cell? ⟨mb, 5, none⟩ = some (.slice fa N fc) := (HM5.out.cell 5 (by decide)).trans (by rw [HFE.out]; rfl)
    go_wp2_with fail
    refine (mpush_any HM5.out ⟨10, kd, (t.a : Int), tx, 0, N⟩ (by (try simp only [List.length_cons]); omega)).mono ?_
    rintro e Y6 ⟨rfl, ⟨wv6, h8⟩, h9⟩
    have HM6 := hid h8
    have HG6 := hid (HG5.out.trans h9)
    clear h8 h9
    clear c5
    go_wp2_with fail
    refine (mpush_any HM6.out (awt 8) (by (try simp only [List.length_cons]); omega)).mono ?_
    rintro e Y7 ⟨rfl, ⟨wv7, h8⟩, h9⟩
    have HM7 := hid h8
    have HG7 := hid (HG6.out.trans h9)
    clear h8 h9
    go_wp2_with fail
    refine (mpush_any HM7.out (awt 1) (by (try simp only [List.length_cons]); omega)).mono ?_
    rintro e Y8 ⟨rfl, ⟨wv8, h8⟩, h9⟩
    have HM8 := hid h8
    have HG8 := hid (HG7.out.trans h9)
    clear h8 h9
    go_wp2_with fail
    exact ⟨rfl, .tuple #[], by first | rfl | kernel_rfl, rfl, ⟨_, _, _, _, _, HM8.out⟩, HG8.out⟩
end Go.Proofs.YtcldglilhhhdoaaGreatDoor.L
