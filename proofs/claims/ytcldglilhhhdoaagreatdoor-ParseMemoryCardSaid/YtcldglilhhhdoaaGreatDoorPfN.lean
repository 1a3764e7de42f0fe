import Derived.Test.YtcldglilhhhdoaaGreatDoorMgAU
namespace Go.Proofs.YtcldglilhhhdoaaGreatDoor.L
open Go.RowKit
set_option linter.unusedVariables false
set_option linter.unusedSimpArgs false
/-- What is left of a set at an element. -/
def SetR (T : List Tok) (a : Int) (ks : List Int) (s : PS) : PRes Int :=
 bnd (memP T s ks.length) fun k s1 => bnd (memsP T (4097 - ks.length) (ks ++ [k]) s1) fun ks' s3 => bnd (markP T s3 [125]) fun _ s4 => putP s4 ⟨13, ⟨#[]⟩, 0, ks'⟩ a
theorem set_none {T : List Tok} {s : PS} (h : isM T s [123] = true) (h1 : isM T (adv s) [125] = true) : setP T s = putP (adv (adv s)) ⟨13, ⟨#[]⟩, 0, []⟩ ((tk T s.nx).a : Int) := by
 have h2 : isM T (adv s) [44] ≠ true := fun h2 => by
  unfold isM at h1 h2
  rw [Bool.and_eq_true, decide_eq_true_eq, decide_eq_true_eq] at h1 h2
  rw [h1.2] at h2
  exact absurd h2.2 (by decide)
 unfold setP markP
 rw [if_pos h, bnd_ok, if_pos h1, bnd_ok]
 show bnd (memsP T (4096 + 1) [] (adv s)) _ = _
 unfold memsP
 rw [if_neg h2, bnd_ok, if_pos h1, bnd_ok]
theorem set_first {T : List Tok} {s : PS} (h : isM T s [123] = true) (h1 : isM T (adv s) [125] ≠ true) : setP T s = SetR T ((tk T s.nx).a : Int) [] (adv s) := by
 unfold setP SetR
 rw [show markP T s [123] = .ok ((), adv s) by unfold markP; rw [if_pos h], bnd_ok, if_neg h1]
 show bnd (bnd (memP T (adv s) 0) _) _ = bnd (memP T (adv s) 0) _
 cases memP T (adv s) 0 with
 | error q => rfl
 | ok q => rfl
theorem set_bad {T : List Tok} {a : Int} {ks : List Int} {s : PS} {e : Nat × Int} (h : memP T s ks.length = .error e) : SetR T a ks s = .error e := by
 unfold SetR
 rw [h, bnd_bad]
theorem set_next {T : List Tok} {a : Int} {ks : List Int} {s s1 : PS} {k : Int} (h : memP T s ks.length = .ok (k, s1)) (hm : isM T s1 [44] = true) (hl : ks.length ≤ 64) : SetR T a ks s = SetR T a (ks ++ [k]) (adv s1) := by
 rw [SetR, h, bnd_ok, show 4097 - ks.length = (4096 - ks.length) + 1 by omega]
 unfold memsP
 rw [if_pos hm]
 unfold SetR
 rw [show 4097 - (ks ++ [k]).length = 4096 - ks.length by simp]
 cases memP T (adv s1) (ks ++ [k]).length with
 | error q => rfl
 | ok q => rfl
theorem set_end {T : List Tok} {a : Int} {ks : List Int} {s s1 : PS} {k : Int} (h : memP T s ks.length = .ok (k, s1)) (hm : isM T s1 [44] ≠ true) (hl : ks.length ≤ 64) : SetR T a ks s = bnd (markP T s1 [125]) fun _ s4 => putP s4 ⟨13, ⟨#[]⟩, 0, ks ++ [k]⟩ a := by
 rw [SetR, h, bnd_ok, show 4097 - ks.length = (4096 - ks.length) + 1 by omega]
 unfold memsP
 rw [if_neg hm, bnd_ok]
theorem isel_k {t : Tok} (h : isEl t = true) : t.kind = 1 ∨ t.kind = 2 := by
 unfold isEl at h
 rw [Bool.or_eq_true, decide_eq_true_eq, decide_eq_true_eq] at h
 exact h
/-- What a set gives: beside a fault the free parts may be others. -/
def Pls (mb B : Nat) (tv : Value) (T : List Tok) (ws : List Wn) (fr : List Int) (fl : Array Value) (wv : Value) (r : PRes Int) (W' : World) : Prop :=
 match r with
 | .ok (k, s') => ∃ v' o' f' ks', MM mb B tv T W' s' ws (fr ++ [k]) fl wv v' o' f' ks'
 | .error (c, x) => ∃ s' fr' v' o' f' ks', MM mb B tv T W' s' ws fr' (f19 c x) wv v' o' f' ks'
theorem pst_ls {mb B : Nat} {tv : Value} {T : List Tok} {ws : List Wn} {fr : List Int} {fl : Array Value} {wv : Value} {r : PRes Int} {W' : World} (h : Pls mb B tv T ws fr fl wv r W') : Pst mb B tv T ws fl (lv fr r) W' := by
 match r, h with
 | .ok (k, s'), h => obtain ⟨v', o', f', ks', h⟩ := h; exact ⟨_, _, _, _, _, h⟩
 | .error (c, x), h => obtain ⟨s', fr', v', o', f', ks', h⟩ := h; exact ⟨_, _, _, _, _, _, _, _, h⟩
theorem plf_err {mb B : Nat} {tv : Value} {T : List Tok} {ws : List Wn} {fr fr' : List Int} {fl : Array Value} {wv : Value} {r : PRes Int} {W' : World} {c : Nat} {x : Int} {s' : PS} {v o f : Value} {ks : Nat → Value} (h : r = .error (c, x)) (h2 : MM mb B tv T W' s' ws fr' (f19 c x) wv v o f ks) : Pls mb B tv T ws fr fl wv r W' := by
 rw [h]
 exact ⟨_, _, _, _, _, _, h2⟩
theorem plf_ok {mb B : Nat} {tv : Value} {T : List Tok} {ws : List Wn} {fr : List Int} {fl : Array Value} {wv : Value} {r : PRes Int} {W' : World} {k : Int} {s' : PS} {v o f : Value} {ks : Nat → Value} (h : r = .ok (k, s')) (h2 : MM mb B tv T W' s' ws (fr ++ [k]) fl wv v o f ks) : Pls mb B tv T ws fr fl wv r W' := by
 rw [h]
 exact ⟨_, _, _, _, h2⟩
set_option maxHeartbeats 16000000 in
set_option maxRecDepth 100000 in
theorem mset_any {mb B : Nat} {tv : Value} {T : List Tok} {W : World} {s : PS} {ws : List Wn} {fr : List Int} {fl : Array Value} {wv v o f : Value} {ks : Nat → Value} (h : MM mb B tv T W s ws fr fl wv v o f ks) (hk : isM T s [123] = true) (hf1 : fr.length ≤ 90000) (hp1 : s.ps.length ≤ 90000) (ho1 : s.os.length ≤ 90000) : Calls Tryz.prog 61 #[.pointer (some ⟨mb, 0, none⟩)] W fun e W' => e = .returned (.tuple #[]) ∧ Pls mb B tv T ws fr fl wv (setP T s) W' ∧ Fmm B W W' := by
 obtain ⟨N, hN⟩ : ∃ N, N = fr.length := ⟨_, rfl⟩
 have HNN := hid hN
 obtain ⟨fa, fc, hf⟩ := own_form h.free
 rw [← hN] at hf
 have HFE := hid hf
 have hNm : N ≤ maxLen := by rw [hN]; unfold maxLen; omega
 obtain ⟨g, cap, rfl, hgl, hc⟩ := h.tokc
 have hnx := h.nx
 have htl := h.tl
 have HP := hid h
 have HC := hid (fun r (hr : r < 5) => hc s.nx r hnx hr)
 have HGL := hid hgl
 have HC0 := hid (h.cell 0 (by decide))
 have HC1 := hid (h.cell 1 (by decide))
 have HML := hid (lt_blk h.box)
 clear hc h hgl
 obtain ⟨t, ht⟩ : ∃ t, t = tk T s.nx := ⟨_, rfl⟩
 have HT := hid ht
 rw [← ht] at HC
 obtain ⟨L, hL⟩ : ∃ L, L = T.length := ⟨_, rfl⟩
 have HLT := hid hL
 rw [← hL] at HC0 hnx htl
 obtain ⟨n, hn⟩ : ∃ n, n = s.nx := ⟨_, rfl⟩
 have HN := hid hn
 rw [← hn] at HC HC1 hnx
 clear hL hn
 have g1 : (n : Int) < (L : Int) := by omega
 have g0 : (0 : Int) ≤ (n : Int) := by omega
 have MS := hid (show ∀ Y, Below W.heap.size W Y → (fun Y => (Y.cell? ⟨mb, 0, none⟩ = some (.slice (some ⟨g, 0, none⟩) L cap) ∧ Y.cell? ⟨mb, 1, none⟩ = some (.int .i64 (n : Int))) ∧ Y.cell? ⟨g, n * 5, none⟩ = some (.int .i64 (t.kind : Int)) ∧ Y.cell? ⟨g, n * 5 + 1, none⟩ = some (.string t.text) ∧ Y.cell? ⟨g, n * 5 + 2, none⟩ = some (.int .i64 t.num) ∧ Y.cell? ⟨g, n * 5 + 3, none⟩ = some (.int .i64 (t.a : Int)) ∧ Y.cell? ⟨g, n * 5 + 4, none⟩ = some (.int .i64 (t.e : Int))) Y from fun Y hb => ⟨⟨(hb.cell (p := ⟨mb, 0, none⟩) HML.out).trans HC0.out, (hb.cell (p := ⟨mb, 1, none⟩) HML.out).trans HC1.out⟩, (hb.cell (p := ⟨g, n * 5, none⟩) HGL.out).trans (HC.out 0 (by decide)), (hb.cell (p := ⟨g, n * 5 + 1, none⟩) HGL.out).trans (HC.out 1 (by decide)), (hb.cell (p := ⟨g, n * 5 + 2, none⟩) HGL.out).trans (HC.out 2 (by decide)), (hb.cell (p := ⟨g, n * 5 + 3, none⟩) HGL.out).trans (HC.out 3 (by decide)), (hb.cell (p := ⟨g, n * 5 + 4, none⟩) HGL.out).trans (HC.out 4 (by decide))⟩)
 have HKD := hid (ism_k hk)
 have HIM := hid hk
 have HLN := hid (And.intro hp1 ho1)
 clear ht hk hf hN
 obtain ⟨at0, ha0⟩ : ∃ a0, a0 = (t.a : Int) := ⟨_, rfl⟩
 have HA0 := hid ha0
 have hnl : (n : Int) + 1 ≤ 4098 := by omega
 have q0 : W.cell? ⟨mb, 0, none⟩ = some (.slice (some ⟨g, 0, none⟩) L cap) := HC0.out
 have q1 : W.cell? ⟨mb, 1, none⟩ = some (.int .i64 (n : Int)) := HC1.out
 have q3 : W.cell? ⟨g, n * 5 + 3, none⟩ = some (.int .i64 at0) := by rw [ha0]; exact HC.out 3 (by decide)
 clear MS ha0
 by_cases hm : isM T (Go.Proofs.YtcldglilhhhdoaaGreatDoor.L.adv s) [125] = true
 ·have HMK := hid (show (decide ((tk T (Go.Proofs.YtcldglilhhhdoaaGreatDoor.L.adv s).nx).kind = 4) && decide ((tk T (Go.Proofs.YtcldglilhhhdoaaGreatDoor.L.adv s).nx).text.toList = (⟨#[125]⟩ : ByteArray).toList)) = true by rw [show (⟨#[125]⟩ : ByteArray).toList = [125] from ByteArray.toList_eq _]; exact hm)
  have HKD2 := hid (ism_k hm)
  rw [set_none HIM.out hm]
  clear hm
  rw [← HT.out, ← HA0.out]
  go_enter Tryz.func61, Tryz.ntmps61
  go_wp2_with fail
  go_quiet (fail)
  have HP1 := hid (HP.out.low (below_drewN (Below.refl _ W) nq))
  have HF1 := hid (Fmm.of (below_drewN (Below.refl _ W) nq) HP.out.size)
  generalize W.drewN nq = W1 at *
  clear q0 q1 q3
  have c5 : W1.cell? ⟨mb, 5, none⟩ = some (.slice fa N fc) := (HP1.out.cell 5 (by decide)).trans (by rw [HFE.out]; rfl)
  have c1 : W1.cell? ⟨mb, 1, none⟩ = some (.int .i64 (n : Int)) := by rw [HN.out]; exact HP1.out.cell 1 (by decide)
  have f1 := frz_row HP1.out.box 1
  go_upto_region 3 with (fail)
  have HQ := hid (HP1.out.adv HKD.out)
  rw [← HN.out] at HQ
  have HQ1 := hid HQ.out.1
  have HF2 := hid (HF1.out.trans HQ.out.2)
  generalize W1.setCell ⟨mb, 1, none⟩ (.int .i64 ((n : Int) + 1)) = W2 at *
  clear c1 f1 c5
  go_wp2_with fail
  refine (mmark_any HQ1.out ⟨#[125]⟩).mono ?_
  rintro e Y3 ⟨rfl, l⟩
  have HM3 := hid (HQ1.out.low l)
  have HG3 := hid (HF2.out.trans (Fmm.of l HQ1.out.size))
  have HL3 := hid l
  rw [HMK.out]
  clear l
  have hb9 : ((Go.Proofs.YtcldglilhhhdoaaGreatDoor.L.adv s).nx : Int) + 1 ≤ 4098 := by have h8 := HM3.out.nx; have h9 := HM3.out.tl; omega
  have c1 : Y3.cell? ⟨mb, 1, none⟩ = some (.int .i64 ((Go.Proofs.YtcldglilhhhdoaaGreatDoor.L.adv s).nx : Int)) := HM3.out.cell 1 (by decide)
  have f1 := frz_row HM3.out.box 1
  go_upto_region 6 with (fail)
  have HQ4 := hid (HM3.out.adv HKD2.out)
  have HM4 := hid HQ4.out.1
  have HG4 := hid (HG3.out.trans HQ4.out.2)
  generalize Y3.setCell ⟨mb, 1, none⟩ (.int .i64 (((Go.Proofs.YtcldglilhhhdoaaGreatDoor.L.adv s).nx : Int) + 1)) = Y4 at *
  clear c1 f1 hb9
  go_wp2_with fail
  refine (mlay_any HM4.out 13 0 at0 ⟨#[]⟩ N (by rw [HNN.out]; exact Nat.le_refl _) (by omega) (by have h8 := HLN.out; show s.ps.length ≤ _; omega) (by have h8 := HLN.out; show s.os.length ≤ _; omega)).mono ?_
  rintro e Y9 ⟨rfl, ⟨v9, o9, f9, k9, h8⟩, h9⟩
  have HE := hid h8
  have HG9 := hid (HG4.out.trans h9)
  clear h8 h9
  rw [HNN.out, List.drop_length, List.take_length] at HE
  go_wp2_with fail
  exact ⟨rfl, .tuple #[], by first | rfl | kernel_rfl, rfl, ⟨_, _, _, _, HE.out⟩, HG9.out⟩
 ·have HMK := hid (show (decide ((tk T (Go.Proofs.YtcldglilhhhdoaaGreatDoor.L.adv s).nx).kind = 4) && decide ((tk T (Go.Proofs.YtcldglilhhhdoaaGreatDoor.L.adv s).nx).text.toList = (⟨#[125]⟩ : ByteArray).toList)) = false by rw [show (⟨#[125]⟩ : ByteArray).toList = [125] from ByteArray.toList_eq _]; exact Bool.eq_false_iff.2 hm)
  have HSF := hid (set_first HIM.out hm)
  rw [← HT.out, ← HA0.out] at HSF
  clear hm
  go_enter Tryz.func61, Tryz.ntmps61
  go_wp2_with fail
  go_quiet (fail)
  have HP1 := hid (HP.out.low (below_drewN (Below.refl _ W) nq))
  have HF1 := hid (Fmm.of (below_drewN (Below.refl _ W) nq) HP.out.size)
  generalize W.drewN nq = W1 at *
  clear q0 q1 q3
  have c5 : W1.cell? ⟨mb, 5, none⟩ = some (.slice fa N fc) := (HP1.out.cell 5 (by decide)).trans (by rw [HFE.out]; rfl)
  have c1 : W1.cell? ⟨mb, 1, none⟩ = some (.int .i64 (n : Int)) := by rw [HN.out]; exact HP1.out.cell 1 (by decide)
  have f1 := frz_row HP1.out.box 1
  go_upto_region 3 with (fail)
  have HQ := hid (HP1.out.adv HKD.out)
  rw [← HN.out] at HQ
  have HQ1 := hid HQ.out.1
  have HF2 := hid (HF1.out.trans HQ.out.2)
  generalize W1.setCell ⟨mb, 1, none⟩ (.int .i64 ((n : Int) + 1)) = W2 at *
  clear c1 f1 c5
  go_wp2_with fail
  refine (mmark_any HQ1.out ⟨#[125]⟩).mono ?_
  rintro e Y3 ⟨rfl, l⟩
  have HM3 := hid (HQ1.out.low l)
  have HG3 := hid (HF2.out.trans (Fmm.of l HQ1.out.size))
  have HL3 := hid l
  rw [HMK.out]
  clear l
  go_wp2_with fail
  go_loopw [5] (fun v wr => ∃ (ks : List Int) (sr : PS) (v2 o2 f2 : Value) (k2 : Nat → Value), ks.length ≤ 64 ∧ v = .int .i64 ((ks.length : Int) + 1) ∧ Hid (MM mb B (.slice (some ⟨g, 0, none⟩) T.length cap) T wr sr ws (fr ++ ks) fl wv v2 o2 f2 k2) ∧ Hid (Fmm B W wr) ∧ Hid (setP T s = SetR T at0 ks sr) ∧ Hid (sr.ps.length ≤ 90000 + ks.length ∧ sr.os.length ≤ 90000 + ks.length)) (fun v _ => 65 - (intOf v).toNat)
  case atStart => exact ⟨[], _, _, _, _, _, by decide, rfl, hid (by rw [List.append_nil]; exact HM3.out), hid HG3.out, hid HSF.out, hid HLN.out⟩
  case round =>
   obtain ⟨ks, s, vr, or, fr2, kr, hq, rfl, HMR, HFR, HSR, HLN⟩ := hrel
   have HNN := HNN
   clear HC HC0 HC1 HP HKD HN HLT HT HGL HML HFE HMK g0 g1 hnx htl hnl HQ HQ1 HF2 HM3 HG3 HL3 HP1 HF1
   obtain ⟨Q, hQ⟩ : ∃ Q, Q = ks.length := ⟨_, rfl⟩
   have HQQ := hid hQ
   rw [← hQ] at hq HLN ⊢
   clear hQ
   have h := HMR.out
   obtain ⟨g2, cap2, hgc, hgl, hc⟩ := h.tokc
   obtain ⟨rfl, rfl⟩ : g = g2 ∧ cap = cap2 := (by injection hgc with h1 _ h3; injection h1 with h1; injection h1 with h1 _ _; exact ⟨h1, h3⟩)
   clear hgc
   have hnx := h.nx
   have htl := h.tl
   have HP := hid h
   have HC := hid (fun r (hr : r < 5) => hc s.nx r hnx hr)
   have HGL := hid hgl
   have HC0 := hid (h.cell 0 (by decide))
   have HC1 := hid (h.cell 1 (by decide))
   have HML := hid (lt_blk h.box)
   clear hc h hgl
   obtain ⟨t, ht⟩ : ∃ t, t = tk T s.nx := ⟨_, rfl⟩
   have HT := hid ht
   rw [← ht] at HC
   obtain ⟨L, hL⟩ : ∃ L, L = T.length := ⟨_, rfl⟩
   have HLT := hid hL
   rw [← hL] at HC0 hnx htl
   obtain ⟨n, hn⟩ : ∃ n, n = s.nx := ⟨_, rfl⟩
   have HN := hid hn
   rw [← hn] at HC HC1 hnx
   clear hL hn
   have g1 : (n : Int) < (L : Int) := by omega
   have g0 : (0 : Int) ≤ (n : Int) := by omega
   have MS := hid (show ∀ Y, Below wr.heap.size wr Y → (fun Y => (Y.cell? ⟨mb, 0, none⟩ = some (.slice (some ⟨g, 0, none⟩) L cap) ∧ Y.cell? ⟨mb, 1, none⟩ = some (.int .i64 (n : Int))) ∧ Y.cell? ⟨g, n * 5, none⟩ = some (.int .i64 (t.kind : Int)) ∧ Y.cell? ⟨g, n * 5 + 1, none⟩ = some (.string t.text) ∧ Y.cell? ⟨g, n * 5 + 2, none⟩ = some (.int .i64 t.num) ∧ Y.cell? ⟨g, n * 5 + 3, none⟩ = some (.int .i64 (t.a : Int)) ∧ Y.cell? ⟨g, n * 5 + 4, none⟩ = some (.int .i64 (t.e : Int))) Y from fun Y hb => ⟨⟨(hb.cell (p := ⟨mb, 0, none⟩) HML.out).trans HC0.out, (hb.cell (p := ⟨mb, 1, none⟩) HML.out).trans HC1.out⟩, (hb.cell (p := ⟨g, n * 5, none⟩) HGL.out).trans (HC.out 0 (by decide)), (hb.cell (p := ⟨g, n * 5 + 1, none⟩) HGL.out).trans (HC.out 1 (by decide)), (hb.cell (p := ⟨g, n * 5 + 2, none⟩) HGL.out).trans (HC.out 2 (by decide)), (hb.cell (p := ⟨g, n * 5 + 3, none⟩) HGL.out).trans (HC.out 3 (by decide)), (hb.cell (p := ⟨g, n * 5 + 4, none⟩) HGL.out).trans (HC.out 4 (by decide))⟩)
   clear ht
   go_upto_region 9 with fail
   have HD := hid (show Below wr.heap.size wr wr.drew from (Below.refl _ wr).drew)
   refine wp_region_held_drew (S := (fun Y => (Y.cell? ⟨mb, 0, none⟩ = some (.slice (some ⟨g, 0, none⟩) L cap) ∧ Y.cell? ⟨mb, 1, none⟩ = some (.int .i64 (n : Int))) ∧ Y.cell? ⟨g, n * 5, none⟩ = some (.int .i64 (t.kind : Int)) ∧ Y.cell? ⟨g, n * 5 + 1, none⟩ = some (.string t.text) ∧ Y.cell? ⟨g, n * 5 + 2, none⟩ = some (.int .i64 t.num) ∧ Y.cell? ⟨g, n * 5 + 3, none⟩ = some (.int .i64 (t.a : Int)) ∧ Y.cell? ⟨g, n * 5 + 4, none⟩ = some (.int .i64 (t.e : Int)))) (by kernel_rfl) ?_ (fun hHeld => ?_)
   ·exact MS.out _ HD.out
   generalize wr.drew = Z at *
   refine wpAnyH_take (i := 0) (v := ?_) rfl (by kernel_rfl) (by kernel_rfl) (by kernel_rfl) (fun _ _ _ h => h) (Or.inl ⟨by rfl, ?_⟩) (by assumption) ?_
   rotate_left
   ·(intro w hSw; (try dsimp only at hSw); go_simp; try with_reducible rfl)
   try simp only [Act.put, List.setIfInBounds_toArray, List.set_cons_zero, List.set_cons_succ]
   refine wpAnyH_take (i := 1) (v := ?_) rfl (by kernel_rfl) (by kernel_rfl) (by kernel_rfl) (fun _ _ _ h => h) (Or.inl ⟨by rfl, ?_⟩) (by assumption) ?_
   rotate_left
   ·(intro w hSw; (try dsimp only at hSw); go_simp; try with_reducible rfl)
   try simp only [Act.put, List.setIfInBounds_toArray, List.set_cons_zero, List.set_cons_succ]
   refine wpAnyH_take (i := 2) (v := ?_) rfl (by kernel_rfl) (by kernel_rfl) (by kernel_rfl) (fun _ _ _ h => h) (Or.inl ⟨by rfl, ?_⟩) (by assumption) ?_
   rotate_left
   ·(intro w hSw; (try dsimp only at hSw); go_simp; try with_reducible rfl)
   try simp only [Act.put, List.setIfInBounds_toArray, List.set_cons_zero, List.set_cons_succ]
   refine wpAnyH_take (i := 3) (v := ?_) rfl (by kernel_rfl) (by kernel_rfl) (by kernel_rfl) (fun _ _ _ h => h) (Or.inl ⟨by rfl, ?_⟩) (by assumption) ?_
   rotate_left
   ·(intro w hSw; (try dsimp only at hSw); go_simp; try with_reducible rfl)
   try simp only [Act.put, List.setIfInBounds_toArray, List.set_cons_zero, List.set_cons_succ]
   refine wpAnyH_take (i := 4) (v := ?_) rfl (by kernel_rfl) (by kernel_rfl) (by kernel_rfl) (fun _ _ _ h => h) (Or.inl ⟨by rfl, ?_⟩) (by assumption) ?_
   rotate_left
   ·(intro w hSw; (try dsimp only at hSw); go_simp; try with_reducible rfl)
   try simp only [Act.put, List.setIfInBounds_toArray, List.set_cons_zero, List.set_cons_succ]
   refine wpAnyH_take (i := 5) (v := ?_) rfl (by kernel_rfl) (by kernel_rfl) (by kernel_rfl) (fun _ _ _ h => h) (Or.inl ⟨by rfl, ?_⟩) (by assumption) ?_
   rotate_left
   ·(intro w hSw; (try dsimp only at hSw); go_simp; try with_reducible rfl)
   try simp only [Act.put, List.setIfInBounds_toArray, List.set_cons_zero, List.set_cons_succ]
   refine wpAnyH_take (i := 6) (v := ?_) rfl (by kernel_rfl) (by kernel_rfl) (by kernel_rfl) (fun _ _ _ h => h) (Or.inl ⟨by rfl, ?_⟩) (by assumption) ?_
   rotate_left
   ·(intro w hSw; (try dsimp only at hSw); go_simp; try with_reducible rfl)
   try simp only [Act.put, List.setIfInBounds_toArray, List.set_cons_zero, List.set_cons_succ]
   refine wpAnyH_take (i := 7) (v := ?_) rfl (by kernel_rfl) (by kernel_rfl) (by kernel_rfl) (fun _ _ _ h => h) (Or.inl ⟨by rfl, ?_⟩) (by assumption) ?_
   rotate_left
   ·(intro w hSw; (try dsimp only at hSw); go_simp; try with_reducible rfl)
   try simp only [Act.put, List.setIfInBounds_toArray, List.set_cons_zero, List.set_cons_succ]
   refine wpAnyH_take (i := 8) (v := ?_) rfl (by kernel_rfl) (by kernel_rfl) (by kernel_rfl) (fun _ _ _ h => h) (Or.inl ⟨by rfl, ?_⟩) (by assumption) ?_
   rotate_left
   ·(intro w hSw; (try dsimp only at hSw); go_simp; try with_reducible rfl)
   try simp only [Act.put, List.setIfInBounds_toArray, List.set_cons_zero, List.set_cons_succ]
   refine wpAnyH_take (i := 9) (v := ?_) rfl (by kernel_rfl) (by kernel_rfl) (by kernel_rfl) (fun _ _ _ h => h) (Or.inl ⟨by rfl, ?_⟩) (by assumption) ?_
   rotate_left
   ·(intro w hSw; (try dsimp only at hSw); go_simp; try with_reducible rfl)
   try simp only [Act.put, List.setIfInBounds_toArray, List.set_cons_zero, List.set_cons_succ]
   refine wpAnyH_ready (rs := [10]) (by kernel_rfl) (by simp) ?_
   refine AllReadyH.cons rfl (fun K hK => ?_) AllReadyH.nil
   go_simp
   refine hK.out _ _ ?_ (fun hHeld => ?_)
   ·exact MS.out _ (HD.out.trans ((belowA Z (.cells #[.int .i64 0, .string ⟨#[]⟩, .int .i64 0, .int .i64 0, .int .i64 0] 53)).mono HD.out.size))
   clear hK K
   try simp only [Act.put, List.setIfInBounds_toArray, List.set_cons_zero, List.set_cons_succ]
   have HXN := hid (heap_alloc_new Z (.cells #[.int .i64 0, .string ⟨#[]⟩, .int .i64 0, .int .i64 0, .int .i64 0] 53))
   have HBN := hid (HD.out.trans ((belowA Z (.cells #[.int .i64 0, .string ⟨#[]⟩, .int .i64 0, .int .i64 0, .int .i64 0] 53)).mono HD.out.size))
   have HGE := hid HD.out.size
   generalize Z.alloc (.cells #[.int .i64 0, .string ⟨#[]⟩, .int .i64 0, .int .i64 0, .int .i64 0] 53) = X at *
   clear HD
   generalize Z.heap.size = b at *
   refine wpAnyH_ready (rs := [11]) (by kernel_rfl) (by simp) ?_
   refine AllReadyH.cons rfl (fun K hK => ?_) AllReadyH.nil
   rw [if_pos (by rfl)]
   refine wp_store_row 53 _ _ rfl b #[.int .i64 (t.kind : Int), .string t.text, .int .i64 t.num, .int .i64 (t.a : Int), .int .i64 (t.e : Int)] rfl rfl 53 _ HXN.out infoTk rfl (by kernel_rfl) ?_
   refine hK.out _ _ ?_ (fun hHeld => ?_)
   ·exact MS.out _ (below_row HBN.out _ _ HGE.out)
   clear hK K hHeld
   try simp only [Act.put, List.setIfInBounds_toArray, List.set_cons_zero, List.set_cons_succ]
   refine wpAnyH_done (by kernel_rfl) ?_ _
   have HV := hid (setRow_heap X _ _ #[.int .i64 (t.kind : Int), .string t.text, .int .i64 t.num, .int .i64 (t.a : Int), .int .i64 (t.e : Int)] _ _ HXN.out)
   have HBV := hid (below_row HBN.out b #[.int .i64 (t.kind : Int), .string t.text, .int .i64 t.num, .int .i64 (t.a : Int), .int .i64 (t.e : Int)] HGE.out)
   generalize X.setRow b #[.int .i64 (t.kind : Int), .string t.text, .int .i64 t.num, .int .i64 (t.a : Int), .int .i64 (t.e : Int)] = V at *
   clear HXN HBN MS
   have ⟨x0, x1, x2, x3, x4⟩ := tk5 HV.out
   have HP1 := hid (HP.out.low HBV.out)
   have HF1 := hid (HFR.out.trans (Fmm.of HBV.out HP.out.size))
   by_cases hk1 : t.kind = 1
   ·have hk := hk1
    clear hk1
    have HKD := hid (show (tk T s.nx).kind ≠ 0 by rw [← HT.out]; omega)
    have HEL := hid (show isEl (tk T s.nx) = true by rw [← HT.out]; unfold isEl; simp [hk])
    by_cases hq2 : Q = 64
    ·have HME := hid (show memP T s ks.length = .error (124, ((tk T s.nx).a : Int)) by unfold memP; rw [if_pos HEL.out, if_pos (by rw [← HQQ.out]; exact hq2)])
     clear hq
     have e1 : ((t.kind : Int) != 1) = false := by simp [hk]
     have e2 : ((t.kind : Int) == 1) = true := by simp [hk]
     have d1 : (64 : Int) < (Q : Int) + 1 := by omega
     have d2 : decide ((64 : Int) < (Q : Int) + 1) = true := by simp; omega
     have HEQ := hid (HSR.out.trans (set_bad HME.out))
     have HFC := hid (fcd_ot T s (c := 124) (by decide))
     clear hk hq2
     go_wp2_with fail
     refine (mfail_any HP1.out 124).mono ?_
     rintro e Y2 ⟨rfl, h2, h3⟩
     have HM2 := hid h2
     have HG2 := hid (HF1.out.trans h3)
     clear h2 h3
     rw [HFC.out] at HM2
     go_wp2_with fail
     exact ⟨rfl, .tuple #[], by first | rfl | kernel_rfl, rfl, plf_err HEQ.out HM2.out, HG2.out⟩
    ·have HME := hid (show memP T s ks.length = putP (Go.Proofs.YtcldglilhhhdoaaGreatDoor.L.adv s) ⟨11, t.text, 0, []⟩ (t.a : Int) by unfold memP; rw [if_pos HEL.out, if_neg (by rw [← HQQ.out]; exact hq2)]; unfold elP; rw [← HT.out, if_pos hk])
     have e1 : ((t.kind : Int) != 1) = false := by simp [hk]
     have e2 : ((t.kind : Int) == 1) = true := by simp [hk]
     have d1 : ¬ (64 : Int) < (Q : Int) + 1 := by omega
     have d2 : decide ((64 : Int) < (Q : Int) + 1) = false := by simp; omega
     obtain ⟨s1, hs1⟩ : ∃ s1 : PS, s1 = { Go.Proofs.YtcldglilhhhdoaaGreatDoor.L.adv s with ps := s.ps ++ [⟨11, t.text, 0, []⟩], os := s.os ++ [(t.a : Int)] } := ⟨_, rfl⟩
     have HS1 := hid hs1
     have HMP := hid (show memP T s ks.length = .ok ((s.ps.length : Int), s1) by rw [hs1]; exact HME.out)
     have HLS := HLN
     have HLN := hid (show s1.ps.length ≤ 90000 + (Q + 1) ∧ s1.os.length ≤ 90000 + (Q + 1) by rw [hs1]; simp only [List.length_append, List.length_singleton]; have := HLN.out; omega)
     have HLO := HLN
     have hq6 : Q + 1 ≤ 64 := by omega
     clear hs1 hk hq hq2
     by_cases hm : isM T s1 [44] = true
     ·have HMK := hid (show (decide ((tk T s1.nx).kind = 4) && decide ((tk T s1.nx).text.toList = (⟨#[44]⟩ : ByteArray).toList)) = true by rw [ml44]; exact hm)
      have HKD2 := hid (ism_k hm)
      have HSN := hid (HSR.out.trans (set_next HMP.out hm (by have := HQQ.out; omega)))
      clear hm
      have hnl : (n : Int) + 1 ≤ 4098 := by omega
      have c1 : V.cell? ⟨mb, 1, none⟩ = some (.int .i64 (n : Int)) := by rw [HN.out]; exact HP1.out.cell 1 (by decide)
      have f1 := frz_row HP1.out.box 1
      go_upto_region 15 with (fail)
      have HQ := hid (HP1.out.adv HKD.out)
      rw [← HN.out] at HQ
      have HNE := hid (show b ≠ mb from fun e => (by have h1 := HV.out; rw [e, HP1.out.box] at h1; injection h1 with h1; injection h1 with _ h5; exact absurd h5 (by decide)))
      have HV2 := hid ((set_oth HP1.out.box 1 (.int .i64 ((n : Int) + 1)) HNE.out).trans HV.out)
      have HQ1 := hid HQ.out.1
      have HF2 := hid (HF1.out.trans HQ.out.2)
      generalize V.setCell ⟨mb, 1, none⟩ (.int .i64 ((n : Int) + 1)) = V2 at *
      clear x0 x1 x2 x3 x4 c1 f1
      have ⟨x0, x1, x2, x3, x4⟩ := tk5 HV2.out
      go_wp2_with fail
      refine (mleaf_any HQ1.out 11 0 (t.a : Int) t.text (by simp only [List.length_append]; have := HNN.out; have := HQQ.out; omega) (by have := HLS.out; show s.ps.length ≤ _; omega) (by have := HLS.out; show s.os.length ≤ _; omega)).mono ?_
      rintro e Y4 ⟨rfl, ⟨v4, o4, f4, k4, h8⟩, h9⟩
      have HM4 := hid (show MM mb B (.slice (some ⟨g, 0, none⟩) T.length cap) T Y4 s1 ws (fr ++ (ks ++ [(s.ps.length : Int)])) fl wv v4 o4 f4 k4 by rw [HS1.out, ← List.append_assoc]; exact h8)
      have HG4 := hid (HF2.out.trans h9)
      clear h8 h9 x0 x1 x2 x3 x4
      go_wp2_with fail
      refine (mmark_any HM4.out ⟨#[44]⟩).mono ?_
      rintro e Y5 ⟨rfl, l⟩
      have HM5 := hid (HM4.out.low l)
      have HG5 := hid (HG4.out.trans (Fmm.of l HM4.out.size))
      have HL5 := hid l
      rw [HMK.out]
      clear l
      have hb9 : (s1.nx : Int) + 1 ≤ 4098 := by have h8 := HM5.out.nx; have h9 := HM5.out.tl; omega
      have c1 : Y5.cell? ⟨mb, 1, none⟩ = some (.int .i64 (s1.nx : Int)) := HM5.out.cell 1 (by decide)
      have f1 := frz_row HM5.out.box 1
      go_upto_region 8 with (fail)
      have HQ6 := hid (HM5.out.adv HKD2.out)
      have HM6 := hid HQ6.out.1
      have HG6 := hid (HG5.out.trans HQ6.out.2)
      generalize Y5.setCell ⟨mb, 1, none⟩ (.int .i64 ((s1.nx : Int) + 1)) = Y6 at *
      clear c1 f1 hb9
      go_wp2_with fail
      refine ⟨⟨ks ++ [(s.ps.length : Int)], Go.Proofs.YtcldglilhhhdoaaGreatDoor.L.adv s1, v4, o4, f4, k4, by rw [List.length_append, List.length_singleton, ← HQQ.out]; omega, by rw [List.length_append, List.length_singleton, ← HQQ.out]; go_num, hid HM6.out, hid HG6.out, hid HSN.out, hid (by rw [List.length_append, List.length_singleton, ← HQQ.out]; exact HLO.out)⟩, by simp [intOf]; omega⟩
     ·have HMK := hid (show (decide ((tk T s1.nx).kind = 4) && decide ((tk T s1.nx).text.toList = (⟨#[44]⟩ : ByteArray).toList)) = false by rw [ml44]; exact Bool.eq_false_iff.2 hm)
      have HSE := hid (HSR.out.trans (set_end HMP.out hm (by have := HQQ.out; omega)))
      clear hm
      cases h3 : markP T s1 [125] with
      | error q =>
       obtain ⟨c, x⟩ := q
       have HR3 := hid h3
       have HEQ := hid (HSE.out.trans (by rw [h3]; rfl : _ = (.error (c, x) : PRes Int)))
       clear h3
       have hnl : (n : Int) + 1 ≤ 4098 := by omega
       have c1 : V.cell? ⟨mb, 1, none⟩ = some (.int .i64 (n : Int)) := by rw [HN.out]; exact HP1.out.cell 1 (by decide)
       have f1 := frz_row HP1.out.box 1
       go_upto_region 15 with (fail)
       have HQ := hid (HP1.out.adv HKD.out)
       rw [← HN.out] at HQ
       have HNE := hid (show b ≠ mb from fun e => (by have h1 := HV.out; rw [e, HP1.out.box] at h1; injection h1 with h1; injection h1 with _ h5; exact absurd h5 (by decide)))
       have HV2 := hid ((set_oth HP1.out.box 1 (.int .i64 ((n : Int) + 1)) HNE.out).trans HV.out)
       have HQ1 := hid HQ.out.1
       have HF2 := hid (HF1.out.trans HQ.out.2)
       generalize V.setCell ⟨mb, 1, none⟩ (.int .i64 ((n : Int) + 1)) = V2 at *
       clear x0 x1 x2 x3 x4 c1 f1
       have ⟨x0, x1, x2, x3, x4⟩ := tk5 HV2.out
       go_wp2_with fail
       refine (mleaf_any HQ1.out 11 0 (t.a : Int) t.text (by simp only [List.length_append]; have := HNN.out; have := HQQ.out; omega) (by have := HLS.out; show s.ps.length ≤ _; omega) (by have := HLS.out; show s.os.length ≤ _; omega)).mono ?_
       rintro e Y4 ⟨rfl, ⟨v4, o4, f4, k4, h8⟩, h9⟩
       have HM4 := hid (show MM mb B (.slice (some ⟨g, 0, none⟩) T.length cap) T Y4 s1 ws (fr ++ (ks ++ [(s.ps.length : Int)])) fl wv v4 o4 f4 k4 by rw [HS1.out, ← List.append_assoc]; exact h8)
       have HG4 := hid (HF2.out.trans h9)
       clear h8 h9 x0 x1 x2 x3 x4
       go_wp2_with fail
       refine (mmark_any HM4.out ⟨#[44]⟩).mono ?_
       rintro e Y5 ⟨rfl, l⟩
       have HM5 := hid (HM4.out.low l)
       have HG5 := hid (HG4.out.trans (Fmm.of l HM4.out.size))
       have HL5 := hid l
       rw [HMK.out]
       clear l
       go_wp2_with fail
       refine (mtake_any HM5.out ⟨#[125]⟩).mono ?_
       rintro e Y6 hh
       rw [show (⟨#[125]⟩ : ByteArray).toList = [125] from ByteArray.toList_eq _] at hh
       rw [HR3.out] at hh
       obtain ⟨rfl, h8, h9⟩ := hh
       have HM6 := hid h8
       have HG6 := hid (HG5.out.trans h9)
       clear h8 h9
       go_wp2_with fail
       obtain ⟨s9, h9⟩ := HM6.out
       exact ⟨rfl, .tuple #[], by first | rfl | kernel_rfl, rfl, plf_err HEQ.out h9, HG6.out⟩
      | ok q =>
       obtain ⟨u3, s3⟩ := q
       have HR3 := hid h3
       have HLN := hid (show s3.ps.length ≤ 90000 + (Q + 1) ∧ s3.os.length ≤ 90000 + (Q + 1) by rw [mark_ok h3]; exact HLO.out)
       have HEQ := hid (HSE.out.trans (by rw [h3]; rfl : _ = (.ok ((s3.ps.length : Int), { s3 with ps := s3.ps ++ [⟨13, ⟨#[]⟩, 0, ks ++ [(s.ps.length : Int)]⟩], os := s3.os ++ [at0] }) : PRes Int)))
       clear h3
       have hnl : (n : Int) + 1 ≤ 4098 := by omega
       have c1 : V.cell? ⟨mb, 1, none⟩ = some (.int .i64 (n : Int)) := by rw [HN.out]; exact HP1.out.cell 1 (by decide)
       have f1 := frz_row HP1.out.box 1
       go_upto_region 15 with (fail)
       have HQ := hid (HP1.out.adv HKD.out)
       rw [← HN.out] at HQ
       have HNE := hid (show b ≠ mb from fun e => (by have h1 := HV.out; rw [e, HP1.out.box] at h1; injection h1 with h1; injection h1 with _ h5; exact absurd h5 (by decide)))
       have HV2 := hid ((set_oth HP1.out.box 1 (.int .i64 ((n : Int) + 1)) HNE.out).trans HV.out)
       have HQ1 := hid HQ.out.1
       have HF2 := hid (HF1.out.trans HQ.out.2)
       generalize V.setCell ⟨mb, 1, none⟩ (.int .i64 ((n : Int) + 1)) = V2 at *
       clear x0 x1 x2 x3 x4 c1 f1
       have ⟨x0, x1, x2, x3, x4⟩ := tk5 HV2.out
       go_wp2_with fail
       refine (mleaf_any HQ1.out 11 0 (t.a : Int) t.text (by simp only [List.length_append]; have := HNN.out; have := HQQ.out; omega) (by have := HLS.out; show s.ps.length ≤ _; omega) (by have := HLS.out; show s.os.length ≤ _; omega)).mono ?_
       rintro e Y4 ⟨rfl, ⟨v4, o4, f4, k4, h8⟩, h9⟩
       have HM4 := hid (show MM mb B (.slice (some ⟨g, 0, none⟩) T.length cap) T Y4 s1 ws (fr ++ (ks ++ [(s.ps.length : Int)])) fl wv v4 o4 f4 k4 by rw [HS1.out, ← List.append_assoc]; exact h8)
       have HG4 := hid (HF2.out.trans h9)
       clear h8 h9 x0 x1 x2 x3 x4
       go_wp2_with fail
       refine (mmark_any HM4.out ⟨#[44]⟩).mono ?_
       rintro e Y5 ⟨rfl, l⟩
       have HM5 := hid (HM4.out.low l)
       have HG5 := hid (HG4.out.trans (Fmm.of l HM4.out.size))
       have HL5 := hid l
       rw [HMK.out]
       clear l
       go_wp2_with fail
       refine (mtake_any HM5.out ⟨#[125]⟩).mono ?_
       rintro e Y6 hh
       rw [show (⟨#[125]⟩ : ByteArray).toList = [125] from ByteArray.toList_eq _] at hh
       rw [HR3.out] at hh
       obtain ⟨rfl, h8, h9⟩ := hh
       have HM6 := hid h8
       have HG6 := hid (HG5.out.trans h9)
       clear h8 h9
       go_wp2_with fail
       refine (mlay_any HM6.out 13 0 at0 ⟨#[]⟩ N (by simp only [List.length_append]; have := HNN.out; have := HQQ.out; omega) (by simp only [List.length_append, List.length_singleton]; have := HNN.out; have := HQQ.out; omega) (by have := HLN.out; omega) (by have := HLN.out; omega)).mono ?_
       rintro e Y7 ⟨rfl, ⟨v9, o9, f9, k9, h8⟩, h9⟩
       have HE := hid h8
       have HG7 := hid (HG6.out.trans h9)
       clear h8 h9
       rw [HNN.out, List.drop_left, List.take_left] at HE
       go_wp2_with fail
       exact ⟨rfl, .tuple #[], by first | rfl | kernel_rfl, rfl, plf_ok HEQ.out HE.out, HG7.out⟩
   ·by_cases hk2 : t.kind = 2
    ·have hk := hk2
     clear hk2 hk1
     have HKD := hid (show (tk T s.nx).kind ≠ 0 by rw [← HT.out]; omega)
     have HEL := hid (show isEl (tk T s.nx) = true by rw [← HT.out]; unfold isEl; simp [hk])
     by_cases hq2 : Q = 64
     ·have HME := hid (show memP T s ks.length = .error (124, ((tk T s.nx).a : Int)) by unfold memP; rw [if_pos HEL.out, if_pos (by rw [← HQQ.out]; exact hq2)])
      clear hq
      have e1 : ((t.kind : Int) != 1) = true := by simp; omega
      have e3 : ((t.kind : Int) != 2) = false := by simp [hk]
      have e2 : ((t.kind : Int) == 1) = false := by simp; omega
      have d1 : (64 : Int) < (Q : Int) + 1 := by omega
      have d2 : decide ((64 : Int) < (Q : Int) + 1) = true := by simp; omega
      have HEQ := hid (HSR.out.trans (set_bad HME.out))
      have HFC := hid (fcd_ot T s (c := 124) (by decide))
      clear hk hq2
      go_wp2_with fail
      refine (mfail_any HP1.out 124).mono ?_
      rintro e Y2 ⟨rfl, h2, h3⟩
      have HM2 := hid h2
      have HG2 := hid (HF1.out.trans h3)
      clear h2 h3
      rw [HFC.out] at HM2
      go_wp2_with fail
      exact ⟨rfl, .tuple #[], by first | rfl | kernel_rfl, rfl, plf_err HEQ.out HM2.out, HG2.out⟩
     ·have HME := hid (show memP T s ks.length = putP (Go.Proofs.YtcldglilhhhdoaaGreatDoor.L.adv s) ⟨12, ⟨#[]⟩, t.num, []⟩ (t.a : Int) by unfold memP; rw [if_pos HEL.out, if_neg (by rw [← HQQ.out]; exact hq2)]; unfold elP; rw [← HT.out, if_neg (by omega)])
      have e1 : ((t.kind : Int) != 1) = true := by simp; omega
      have e3 : ((t.kind : Int) != 2) = false := by simp [hk]
      have e2 : ((t.kind : Int) == 1) = false := by simp; omega
      have d1 : ¬ (64 : Int) < (Q : Int) + 1 := by omega
      have d2 : decide ((64 : Int) < (Q : Int) + 1) = false := by simp; omega
      obtain ⟨s1, hs1⟩ : ∃ s1 : PS, s1 = { Go.Proofs.YtcldglilhhhdoaaGreatDoor.L.adv s with ps := s.ps ++ [⟨12, ⟨#[]⟩, t.num, []⟩], os := s.os ++ [(t.a : Int)] } := ⟨_, rfl⟩
      have HS1 := hid hs1
      have HMP := hid (show memP T s ks.length = .ok ((s.ps.length : Int), s1) by rw [hs1]; exact HME.out)
      have HLS := HLN
      have HLN := hid (show s1.ps.length ≤ 90000 + (Q + 1) ∧ s1.os.length ≤ 90000 + (Q + 1) by rw [hs1]; simp only [List.length_append, List.length_singleton]; have := HLN.out; omega)
      have HLO := HLN
      have hq6 : Q + 1 ≤ 64 := by omega
      clear hs1 hk hq hq2
      by_cases hm : isM T s1 [44] = true
      ·have HMK := hid (show (decide ((tk T s1.nx).kind = 4) && decide ((tk T s1.nx).text.toList = (⟨#[44]⟩ : ByteArray).toList)) = true by rw [ml44]; exact hm)
       have HKD2 := hid (ism_k hm)
       have HSN := hid (HSR.out.trans (set_next HMP.out hm (by have := HQQ.out; omega)))
       clear hm
       have hnl : (n : Int) + 1 ≤ 4098 := by omega
       have c1 : V.cell? ⟨mb, 1, none⟩ = some (.int .i64 (n : Int)) := by rw [HN.out]; exact HP1.out.cell 1 (by decide)
       have f1 := frz_row HP1.out.box 1
       go_upto_region 15 with (fail)
       have HQ := hid (HP1.out.adv HKD.out)
       rw [← HN.out] at HQ
       have HNE := hid (show b ≠ mb from fun e => (by have h1 := HV.out; rw [e, HP1.out.box] at h1; injection h1 with h1; injection h1 with _ h5; exact absurd h5 (by decide)))
       have HV2 := hid ((set_oth HP1.out.box 1 (.int .i64 ((n : Int) + 1)) HNE.out).trans HV.out)
       have HQ1 := hid HQ.out.1
       have HF2 := hid (HF1.out.trans HQ.out.2)
       generalize V.setCell ⟨mb, 1, none⟩ (.int .i64 ((n : Int) + 1)) = V2 at *
       clear x0 x1 x2 x3 x4 c1 f1
       have ⟨x0, x1, x2, x3, x4⟩ := tk5 HV2.out
       go_wp2_with fail
       refine (mleaf_any HQ1.out 12 t.num (t.a : Int) ⟨#[]⟩ (by simp only [List.length_append]; have := HNN.out; have := HQQ.out; omega) (by have := HLS.out; show s.ps.length ≤ _; omega) (by have := HLS.out; show s.os.length ≤ _; omega)).mono ?_
       rintro e Y4 ⟨rfl, ⟨v4, o4, f4, k4, h8⟩, h9⟩
       have HM4 := hid (show MM mb B (.slice (some ⟨g, 0, none⟩) T.length cap) T Y4 s1 ws (fr ++ (ks ++ [(s.ps.length : Int)])) fl wv v4 o4 f4 k4 by rw [HS1.out, ← List.append_assoc]; exact h8)
       have HG4 := hid (HF2.out.trans h9)
       clear h8 h9 x0 x1 x2 x3 x4
       go_wp2_with fail
       refine (mmark_any HM4.out ⟨#[44]⟩).mono ?_
       rintro e Y5 ⟨rfl, l⟩
       have HM5 := hid (HM4.out.low l)
       have HG5 := hid (HG4.out.trans (Fmm.of l HM4.out.size))
       have HL5 := hid l
       rw [HMK.out]
       clear l
       have hb9 : (s1.nx : Int) + 1 ≤ 4098 := by have h8 := HM5.out.nx; have h9 := HM5.out.tl; omega
       have c1 : Y5.cell? ⟨mb, 1, none⟩ = some (.int .i64 (s1.nx : Int)) := HM5.out.cell 1 (by decide)
       have f1 := frz_row HM5.out.box 1
       go_upto_region 8 with (fail)
       have HQ6 := hid (HM5.out.adv HKD2.out)
       have HM6 := hid HQ6.out.1
       have HG6 := hid (HG5.out.trans HQ6.out.2)
       generalize Y5.setCell ⟨mb, 1, none⟩ (.int .i64 ((s1.nx : Int) + 1)) = Y6 at *
       clear c1 f1 hb9
       go_wp2_with fail
       refine ⟨⟨ks ++ [(s.ps.length : Int)], Go.Proofs.YtcldglilhhhdoaaGreatDoor.L.adv s1, v4, o4, f4, k4, by rw [List.length_append, List.length_singleton, ← HQQ.out]; omega, by rw [List.length_append, List.length_singleton, ← HQQ.out]; go_num, hid HM6.out, hid HG6.out, hid HSN.out, hid (by rw [List.length_append, List.length_singleton, ← HQQ.out]; exact HLO.out)⟩, by simp [intOf]; omega⟩
      ·have HMK := hid (show (decide ((tk T s1.nx).kind = 4) && decide ((tk T s1.nx).text.toList = (⟨#[44]⟩ : ByteArray).toList)) = false by rw [ml44]; exact Bool.eq_false_iff.2 hm)
       have HSE := hid (HSR.out.trans (set_end HMP.out hm (by have := HQQ.out; omega)))
       clear hm
       cases h3 : markP T s1 [125] with
       | error q =>
        obtain ⟨c, x⟩ := q
        have HR3 := hid h3
        have HEQ := hid (HSE.out.trans (by rw [h3]; rfl : _ = (.error (c, x) : PRes Int)))
        clear h3
        have hnl : (n : Int) + 1 ≤ 4098 := by omega
        have c1 : V.cell? ⟨mb, 1, none⟩ = some (.int .i64 (n : Int)) := by rw [HN.out]; exact HP1.out.cell 1 (by decide)
        have f1 := frz_row HP1.out.box 1
        go_upto_region 15 with (fail)
        have HQ := hid (HP1.out.adv HKD.out)
        rw [← HN.out] at HQ
        have HNE := hid (show b ≠ mb from fun e => (by have h1 := HV.out; rw [e, HP1.out.box] at h1; injection h1 with h1; injection h1 with _ h5; exact absurd h5 (by decide)))
        have HV2 := hid ((set_oth HP1.out.box 1 (.int .i64 ((n : Int) + 1)) HNE.out).trans HV.out)
        have HQ1 := hid HQ.out.1
        have HF2 := hid (HF1.out.trans HQ.out.2)
        generalize V.setCell ⟨mb, 1, none⟩ (.int .i64 ((n : Int) + 1)) = V2 at *
        clear x0 x1 x2 x3 x4 c1 f1
        have ⟨x0, x1, x2, x3, x4⟩ := tk5 HV2.out
        go_wp2_with fail
        refine (mleaf_any HQ1.out 12 t.num (t.a : Int) ⟨#[]⟩ (by simp only [List.length_append]; have := HNN.out; have := HQQ.out; omega) (by have := HLS.out; show s.ps.length ≤ _; omega) (by have := HLS.out; show s.os.length ≤ _; omega)).mono ?_
        rintro e Y4 ⟨rfl, ⟨v4, o4, f4, k4, h8⟩, h9⟩
        have HM4 := hid (show MM mb B (.slice (some ⟨g, 0, none⟩) T.length cap) T Y4 s1 ws (fr ++ (ks ++ [(s.ps.length : Int)])) fl wv v4 o4 f4 k4 by rw [HS1.out, ← List.append_assoc]; exact h8)
        have HG4 := hid (HF2.out.trans h9)
        clear h8 h9 x0 x1 x2 x3 x4
        go_wp2_with fail
        refine (mmark_any HM4.out ⟨#[44]⟩).mono ?_
        rintro e Y5 ⟨rfl, l⟩
        have HM5 := hid (HM4.out.low l)
        have HG5 := hid (HG4.out.trans (Fmm.of l HM4.out.size))
        have HL5 := hid l
        rw [HMK.out]
        clear l
        go_wp2_with fail
        refine (mtake_any HM5.out ⟨#[125]⟩).mono ?_
        rintro e Y6 hh
        rw [show (⟨#[125]⟩ : ByteArray).toList = [125] from ByteArray.toList_eq _] at hh
        rw [HR3.out] at hh
        obtain ⟨rfl, h8, h9⟩ := hh
        have HM6 := hid h8
        have HG6 := hid (HG5.out.trans h9)
        clear h8 h9
        go_wp2_with fail
        obtain ⟨s9, h9⟩ := HM6.out
        exact ⟨rfl, .tuple #[], by first | rfl | kernel_rfl, rfl, plf_err HEQ.out h9, HG6.out⟩
       | ok q =>
        obtain ⟨u3, s3⟩ := q
        have HR3 := hid h3
        have HLN := hid (show s3.ps.length ≤ 90000 + (Q + 1) ∧ s3.os.length ≤ 90000 + (Q + 1) by rw [mark_ok h3]; exact HLO.out)
        have HEQ := hid (HSE.out.trans (by rw [h3]; rfl : _ = (.ok ((s3.ps.length : Int), { s3 with ps := s3.ps ++ [⟨13, ⟨#[]⟩, 0, ks ++ [(s.ps.length : Int)]⟩], os := s3.os ++ [at0] }) : PRes Int)))
        clear h3
        have hnl : (n : Int) + 1 ≤ 4098 := by omega
        have c1 : V.cell? ⟨mb, 1, none⟩ = some (.int .i64 (n : Int)) := by rw [HN.out]; exact HP1.out.cell 1 (by decide)
        have f1 := frz_row HP1.out.box 1
        go_upto_region 15 with (fail)
        have HQ := hid (HP1.out.adv HKD.out)
        rw [← HN.out] at HQ
        have HNE := hid (show b ≠ mb from fun e => (by have h1 := HV.out; rw [e, HP1.out.box] at h1; injection h1 with h1; injection h1 with _ h5; exact absurd h5 (by decide)))
        have HV2 := hid ((set_oth HP1.out.box 1 (.int .i64 ((n : Int) + 1)) HNE.out).trans HV.out)
        have HQ1 := hid HQ.out.1
        have HF2 := hid (HF1.out.trans HQ.out.2)
        generalize V.setCell ⟨mb, 1, none⟩ (.int .i64 ((n : Int) + 1)) = V2 at *
        clear x0 x1 x2 x3 x4 c1 f1
        have ⟨x0, x1, x2, x3, x4⟩ := tk5 HV2.out
        go_wp2_with fail
        refine (mleaf_any HQ1.out 12 t.num (t.a : Int) ⟨#[]⟩ (by simp only [List.length_append]; have := HNN.out; have := HQQ.out; omega) (by have := HLS.out; show s.ps.length ≤ _; omega) (by have := HLS.out; show s.os.length ≤ _; omega)).mono ?_
        rintro e Y4 ⟨rfl, ⟨v4, o4, f4, k4, h8⟩, h9⟩
        have HM4 := hid (show MM mb B (.slice (some ⟨g, 0, none⟩) T.length cap) T Y4 s1 ws (fr ++ (ks ++ [(s.ps.length : Int)])) fl wv v4 o4 f4 k4 by rw [HS1.out, ← List.append_assoc]; exact h8)
        have HG4 := hid (HF2.out.trans h9)
        clear h8 h9 x0 x1 x2 x3 x4
        go_wp2_with fail
        refine (mmark_any HM4.out ⟨#[44]⟩).mono ?_
        rintro e Y5 ⟨rfl, l⟩
        have HM5 := hid (HM4.out.low l)
        have HG5 := hid (HG4.out.trans (Fmm.of l HM4.out.size))
        have HL5 := hid l
        rw [HMK.out]
        clear l
        go_wp2_with fail
        refine (mtake_any HM5.out ⟨#[125]⟩).mono ?_
        rintro e Y6 hh
        rw [show (⟨#[125]⟩ : ByteArray).toList = [125] from ByteArray.toList_eq _] at hh
        rw [HR3.out] at hh
        obtain ⟨rfl, h8, h9⟩ := hh
        have HM6 := hid h8
        have HG6 := hid (HG5.out.trans h9)
        clear h8 h9
        go_wp2_with fail
        refine (mlay_any HM6.out 13 0 at0 ⟨#[]⟩ N (by simp only [List.length_append]; have := HNN.out; have := HQQ.out; omega) (by simp only [List.length_append, List.length_singleton]; have := HNN.out; have := HQQ.out; omega) (by have := HLN.out; omega) (by have := HLN.out; omega)).mono ?_
        rintro e Y7 ⟨rfl, ⟨v9, o9, f9, k9, h8⟩, h9⟩
        have HE := hid h8
        have HG7 := hid (HG6.out.trans h9)
        clear h8 h9
        rw [HNN.out, List.drop_left, List.take_left] at HE
        go_wp2_with fail
        exact ⟨rfl, .tuple #[], by first | rfl | kernel_rfl, rfl, plf_ok HEQ.out HE.out, HG7.out⟩
    ·have HME := hid (show memP T s ks.length = .error (rfE T s) by unfold memP; rw [if_neg (fun h => by rcases isel_k h with h | h <;> rw [← HT.out] at h <;> omega)])
     have e1 : ((t.kind : Int) != 1) = true := by simp; omega
     have e2 : ((t.kind : Int) != 2) = true := by simp; omega
     have HEQ := hid (HSR.out.trans ((set_bad HME.out).trans (by rw [fcd_rf])))
     clear hk1 hk2
     go_wp2_with fail
     refine (mfail_any HP1.out 120).mono ?_
     rintro e Y2 ⟨rfl, h2, h3⟩
     have HM2 := hid h2
     have HG2 := hid (HF1.out.trans h3)
     clear h2 h3
     go_wp2_with fail
     exact ⟨rfl, .tuple #[], by first | rfl | kernel_rfl, rfl, plf_err HEQ.out HM2.out, HG2.out⟩
end Go.Proofs.YtcldglilhhhdoaaGreatDoor.L
