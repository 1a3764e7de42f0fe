import Derived.Test.YtppblibcbjpfnaaDoorTxo
import Derived.Test.YtppblibcbjpfnaaDoorAwk
import Derived.Deep.RegionHeld3
namespace Go.Proofs.YtppblibcbjpfnaaDoor.L
open Go.RowKit
set_option linter.unusedVariables false
/-- The law's argument in memory. -/
structure OpAx (W : World) (b : Nat) (t : Tn) (o : To) (s : ByteArray) : Prop where
  c1 : W.cell? ⟨b, 1, none⟩ = some (.string t.1)
  c2 : W.cell? ⟨b, 2, none⟩ = some (.string t.2.1)
  c3 : W.cell? ⟨b, 3, none⟩ = some (.string t.2.2)
  c4 : W.cell? ⟨b, 4, none⟩ = some (.string o.1)
  c5 : W.cell? ⟨b, 5, none⟩ = some (.string o.2.1)
  c6 : W.cell? ⟨b, 6, none⟩ = some (.string o.2.2.1)
  c7 : W.cell? ⟨b, 7, none⟩ = some (.string o.2.2.2)
  c8 : W.cell? ⟨b, 8, none⟩ = some (.string s)
  lt : b < W.heap.size
theorem opx_new (w : World) (kd : Int) (t : Tn) (o : To) (s key : ByteArray) (v vo : Value) (ty : TypeId) : OpAx (w.alloc (.cells #[.int .i64 kd, .string t.1, .string t.2.1, .string t.2.2, .string o.1, .string o.2.1, .string o.2.2.1, .string o.2.2.2, .string s, .string key, v, vo] ty)) w.heap.size t o s := by
  have h : (w.alloc (.cells #[.int .i64 kd, .string t.1, .string t.2.1, .string t.2.2, .string o.1, .string o.2.1, .string o.2.2.1, .string o.2.2.2, .string s, .string key, v, vo] ty)).heap[w.heap.size]? = some (.cells #[.int .i64 kd, .string t.1, .string t.2.1, .string t.2.2, .string o.1, .string o.2.1, .string o.2.2.1, .string o.2.2.2, .string s, .string key, v, vo] ty) := by
    show (w.heap.push _)[w.heap.size]? = _
    simp
  refine ⟨?_, ?_, ?_, ?_, ?_, ?_, ?_, ?_, ?_⟩
  all_goals first | (unfold World.cell?; rw [h]; rfl) | simp
theorem OpAx.low {W W' : World} {b : Nat} {t : Tn} {o : To} {s : ByteArray} (h : OpAx W b t o s) (hb : Below W.heap.size W W') : OpAx W' b t o s := by
  have e : ∀ i, W'.cell? ⟨b, i, none⟩ = W.cell? ⟨b, i, none⟩ := fun i => hb.cell (p := ⟨b, i, none⟩) h.lt
  obtain ⟨a1, a2, a3, a4, a5, a6, a7, a8, lt⟩ := h
  exact ⟨(e _).trans a1, (e _).trans a2, (e _).trans a3, (e _).trans a4, (e _).trans a5, (e _).trans a6, (e _).trans a7, (e _).trans a8, Nat.lt_of_lt_of_le lt hb.size⟩
theorem tr_low {W W' : World} {b : Nat} {x y z : Value} (h : W.cell? ⟨b, 1, none⟩ = some x ∧ W.cell? ⟨b, 2, none⟩ = some y ∧ W.cell? ⟨b, 3, none⟩ = some z) (hb : Below W.heap.size W W') (hz : b < W.heap.size) : W'.cell? ⟨b, 1, none⟩ = some x ∧ W'.cell? ⟨b, 2, none⟩ = some y ∧ W'.cell? ⟨b, 3, none⟩ = some z :=
  ⟨(hb.cell (p := ⟨b, 1, none⟩) hz).trans h.1, (hb.cell (p := ⟨b, 2, none⟩) hz).trans h.2.1, (hb.cell (p := ⟨b, 3, none⟩) hz).trans h.2.2⟩
theorem fr_low {W W' : World} {b : Nat} {x y z u : Value} (h : W.cell? ⟨b, 4, none⟩ = some x ∧ W.cell? ⟨b, 5, none⟩ = some y ∧ W.cell? ⟨b, 6, none⟩ = some z ∧ W.cell? ⟨b, 7, none⟩ = some u) (hb : Below W.heap.size W W') (hz : b < W.heap.size) : W'.cell? ⟨b, 4, none⟩ = some x ∧ W'.cell? ⟨b, 5, none⟩ = some y ∧ W'.cell? ⟨b, 6, none⟩ = some z ∧ W'.cell? ⟨b, 7, none⟩ = some u :=
  ⟨(hb.cell (p := ⟨b, 4, none⟩) hz).trans h.1, (hb.cell (p := ⟨b, 5, none⟩) hz).trans h.2.1, (hb.cell (p := ⟨b, 6, none⟩) hz).trans h.2.2.1, (hb.cell (p := ⟨b, 7, none⟩) hz).trans h.2.2.2⟩
theorem pT_range (s : ByteArray) : 0 ≤ (pT s).2 ∧ (pT s).2 ≤ 1000 := by
  unfold pT
  split
  · show (0 : Int) ≤ 43 ∧ (43 : Int) ≤ 1000
    decide
  · simp only
    split
    · show (0 : Int) ≤ 43 ∧ (43 : Int) ≤ 1000
      decide
    · split
      · show (0 : Int) ≤ 0 ∧ (0 : Int) ≤ 1000
        decide
      · simp only
        rcases tE_cases (pRest (s.extract 0 (lst s 58).toNat) (s.extract ((lst s 58).toNat + 1) s.size)) with e | e | e | e <;> rw [e] <;> decide
theorem pO_range (s : ByteArray) : 0 ≤ (pO s).2 ∧ (pO s).2 ≤ 1000 := by
  unfold pO
  split
  · show (0 : Int) ≤ 43 ∧ (43 : Int) ≤ 1000
    decide
  · split
    · show (0 : Int) ≤ 0 ∧ (0 : Int) ≤ 1000
      decide
    · simp only
      rcases oE_cases (withE (rRest (oCut s).1) (oCut s).2.1) with e | e | e | e | e <;> rw [e] <;> decide
set_option maxHeartbeats 8000000 in
set_option maxRecDepth 100000 in
theorem texts_walk (kd : Int) (t : Tn) (o : To) (s key : ByteArray) (v vo : Value) (w : World) (ht : t.1.size ≤ maxLen ∧ t.2.1.size ≤ maxLen) (ho : o.1.size ≤ maxLen ∧ o.2.2.1.size ≤ maxLen) (hs : s.size ≤ maxLen) :
    Calls Tryd.prog 3 #[.agg #[.int .i64 kd, .string t.1, .string t.2.1, .string t.2.2, .string o.1, .string o.2.1, .string o.2.2.1, .string o.2.2.2, .string s, .string key, v, vo]] w fun e w' => e = .returned (.bool true) ∧ Below w.heap.size w w' := by
  have H0 := hid (opx_new w kd t o s key v vo 29)
  have HW0 := hid (belowA w (.cells #[.int .i64 kd, .string t.1, .string t.2.1, .string t.2.2, .string o.1, .string o.2.1, .string o.2.2.1, .string o.2.2.2, .string s, .string key, v, vo] 29))
  have CT := hid (fun W => ctaint_any t W ht.1 ht.2)
  have CO := hid (fun W => ctol_any o W ho.1 ho.2)
  have PT := hid (fun W => parse_any s W hs)
  have PO := hid (fun W => ptol_any s W hs)
  have N0 := hid (fun W => num_any 0 W (by decide))
  have N43 := hid (fun W => num_any 43 W (by decide))
  go_enter Tryd.func3, Tryd.ntmps3
  go_wp2_with fail
  refine (awake_any _).mono ?_
  rintro e w1 ⟨rfl, hb⟩
  have HW1 := hid (HW0.out.trans (hb.mono HW0.out.size))
  have H1 := hid (H0.out.low hb)
  clear hb HW0 H0
  obtain ⟨c1, c2, c3, c4, c5, c6, c7, c8, lt⟩ := H1.out
  simp only [tv, ov] at CT CO PT PO
  go_wp2_with fail
  by_cases ht0 : tE t = 0
  case' pos =>
    have TT := hid (fun W => text_ok t W ht0)
    rw [ht0] at CT
    have NE := hid (text_size ht0)
    have PP := hid (fun W => parse_any (tText t) W (by have := NE.out.1; unfold maxLen; omega))
    rw [parse_text ht0] at PP
    simp only [tv] at TT PP
    have ne : (tText t).toList.isEmpty = false := NE.out.2
    generalize tText t = ts at *
    refine (TT.out _).mono ?_
    rintro e w2 ⟨rfl, hb⟩
    have HW2 := hid (HW1.out.trans (hb.mono HW1.out.size))
    have H2 := hid (H1.out.low hb)
    clear hb HW1 H1 c1 c2 c3 c4 c5 c6 c7 c8 lt
    obtain ⟨c1, c2, c3, c4, c5, c6, c7, c8, lt⟩ := H2.out
    go_wp2_with fail
    have T0 : w2.drew.cell? ⟨w.heap.size, 1, none⟩ = some (.string t.1) ∧ w2.drew.cell? ⟨w.heap.size, 2, none⟩ = some (.string t.2.1) ∧ w2.drew.cell? ⟨w.heap.size, 3, none⟩ = some (.string t.2.2) := ⟨c1, c2, c3⟩
    go_region_held3 (fun W => W.cell? ⟨w.heap.size, 1, none⟩ = some (.string t.1) ∧ W.cell? ⟨w.heap.size, 2, none⟩ = some (.string t.2.1) ∧ W.cell? ⟨w.heap.size, 3, none⟩ = some (.string t.2.2))
      (first | exact T0 | exact T1)
      (first
        | (go_at_call 9; refine (N0.out _).mono ?_; rintro e w9 ⟨rfl, hww⟩; have hw2 := hww.symm; clear hww; subst hw2)
        | (go_at_call 10; refine (CT.out _).mono ?_; rintro e w3 ⟨rfl, hb⟩; have T1 := tr_low T0 hb lt; have D1 := hid hb; clear hb))
    have hb : Below w2.heap.size w2 w3 := (Below.refl _ _).drew.trans D1.out
    clear T0 T1 D1
    have HW3 := hid (HW2.out.trans (hb.mono HW2.out.size))
    have H3 := hid (H2.out.low hb)
    clear hb HW2 H2 c1 c2 c3 c4 c5 c6 c7 c8 lt
    obtain ⟨c1, c2, c3, c4, c5, c6, c7, c8, lt⟩ := H3.out
    go_wp2_with fail
    refine (N0.out _).mono ?_
    rintro e w9 ⟨rfl, hww⟩; have hw2 := hww.symm; clear hww; subst hw2
    go_wp2_with fail
    refine (PP.out _).mono ?_
    rintro e w4 ⟨rfl, hb⟩
    have HW4 := hid (HW3.out.trans (hb.mono HW3.out.size))
    have H4 := hid (H3.out.low hb)
    clear hb HW3 H3 c1 c2 c3 c4 c5 c6 c7 c8 lt
    obtain ⟨c1, c2, c3, c4, c5, c6, c7, c8, lt⟩ := H4.out
    go_wp2_with fail
    obtain ⟨d0, d1, d2⟩ := three w4 (.string t.1) (.string t.2.1) (.string t.2.2) 23
    have hb := belowA w4 (.cells #[.string t.1, .string t.2.1, .string t.2.2] 23)
    have dl : w4.heap.size < (w4.alloc (.cells #[.string t.1, .string t.2.1, .string t.2.2] 23)).heap.size := by simp
    generalize w4.alloc (.cells #[.string t.1, .string t.2.1, .string t.2.2] 23) = w5 at *
    have HW5 := hid (HW4.out.trans (hb.mono HW4.out.size))
    have H5 := hid (H4.out.low hb)
    clear hb HW4 H4 c1 c2 c3 c4 c5 c6 c7 c8 lt
    obtain ⟨c1, c2, c3, c4, c5, c6, c7, c8, lt⟩ := H5.out
    refine (N0.out _).mono ?_
    rintro e w9 ⟨rfl, hww⟩; have hw2 := hww.symm; clear hww; subst hw2
    go_wp2_with fail
    clear d0 d1 d2 dl TT PP NE ne CT
  case' neg =>
    have TT := hid (fun W => text_bad t W ht.1 ht.2 ht0)
    have te := tE_cases t
    have NE := hid (fun W => num_any (tE t) W (by omega))
    generalize tE t = er at *
    have e0 : (er != 0) = true := by simpa using ht0
    have e0' : (er == 0) = false := by simpa using ht0
    simp only [tv] at TT
    clear te
    refine (TT.out _).mono ?_
    rintro e w2 ⟨rfl, hb⟩
    have HW2 := hid (HW1.out.trans (hb.mono HW1.out.size))
    have H2 := hid (H1.out.low hb)
    clear hb HW1 H1 c1 c2 c3 c4 c5 c6 c7 c8 lt
    obtain ⟨c1, c2, c3, c4, c5, c6, c7, c8, lt⟩ := H2.out
    go_wp2_with fail
    have T0 : w2.drew.cell? ⟨w.heap.size, 1, none⟩ = some (.string t.1) ∧ w2.drew.cell? ⟨w.heap.size, 2, none⟩ = some (.string t.2.1) ∧ w2.drew.cell? ⟨w.heap.size, 3, none⟩ = some (.string t.2.2) := ⟨c1, c2, c3⟩
    go_region_held3 (fun W => W.cell? ⟨w.heap.size, 1, none⟩ = some (.string t.1) ∧ W.cell? ⟨w.heap.size, 2, none⟩ = some (.string t.2.1) ∧ W.cell? ⟨w.heap.size, 3, none⟩ = some (.string t.2.2))
      (first | exact T0 | exact T1)
      (first
        | (go_at_call 9; refine (NE.out _).mono ?_; rintro e w9 ⟨rfl, hww⟩; have hw2 := hww.symm; clear hww; subst hw2)
        | (go_at_call 10; refine (CT.out _).mono ?_; rintro e w3 ⟨rfl, hb⟩; have T1 := tr_low T0 hb lt; have D1 := hid hb; clear hb))
    have hb : Below w2.heap.size w2 w3 := (Below.refl _ _).drew.trans D1.out
    clear T0 T1 D1
    have HW5 := hid (HW2.out.trans (hb.mono HW2.out.size))
    have H5 := hid (H2.out.low hb)
    clear hb HW2 H2 c1 c2 c3 c4 c5 c6 c7 c8 lt
    obtain ⟨c1, c2, c3, c4, c5, c6, c7, c8, lt⟩ := H5.out
    go_wp2_with fail
    refine (NE.out _).mono ?_
    rintro e w9 ⟨rfl, hww⟩; have hw2 := hww.symm; clear hww; subst hw2
    go_wp2_with fail
    clear TT NE CT e0 e0' ht0
  all_goals (
    by_cases ho0 : oE o = 0
    case' pos =>
      have TT := hid (fun W => otext_ok o W ho0)
      rw [ho0] at CO
      have NE := hid (otext_size ho0)
      have PP := hid (fun W => ptol_any (oText o) W (by have := NE.out.1; unfold maxLen; omega))
      rw [ptol_text ho0] at PP
      simp only [ov] at TT PP
      have ne : (oText o).toList.isEmpty = false := NE.out.2
      generalize oText o = ts at *
      refine (TT.out _).mono ?_
      rintro e w2 ⟨rfl, hb⟩
      have HW2 := hid (HW5.out.trans (hb.mono HW5.out.size))
      have H2 := hid (H5.out.low hb)
      clear hb HW5 H5 c1 c2 c3 c4 c5 c6 c7 c8 lt
      obtain ⟨c1, c2, c3, c4, c5, c6, c7, c8, lt⟩ := H2.out
      go_wp2_with fail
      have T0 : w2.drew.cell? ⟨w.heap.size, 4, none⟩ = some (.string o.1) ∧ w2.drew.cell? ⟨w.heap.size, 5, none⟩ = some (.string o.2.1) ∧ w2.drew.cell? ⟨w.heap.size, 6, none⟩ = some (.string o.2.2.1) ∧ w2.drew.cell? ⟨w.heap.size, 7, none⟩ = some (.string o.2.2.2) := ⟨c4, c5, c6, c7⟩
      go_region_held3 (fun W => W.cell? ⟨w.heap.size, 4, none⟩ = some (.string o.1) ∧ W.cell? ⟨w.heap.size, 5, none⟩ = some (.string o.2.1) ∧ W.cell? ⟨w.heap.size, 6, none⟩ = some (.string o.2.2.1) ∧ W.cell? ⟨w.heap.size, 7, none⟩ = some (.string o.2.2.2))
        (first | exact T0 | exact T1)
        (first
          | (go_at_call 9; refine (N0.out _).mono ?_; rintro e w9 ⟨rfl, hww⟩; have hw2 := hww.symm; clear hww; subst hw2)
          | (go_at_call 13; refine (CO.out _).mono ?_; rintro e w3 ⟨rfl, hb⟩; have T1 := fr_low T0 hb lt; have D1 := hid hb; clear hb))
      have hb : Below w2.heap.size w2 w3 := (Below.refl _ _).drew.trans D1.out
      clear T0 T1 D1
      have HW3 := hid (HW2.out.trans (hb.mono HW2.out.size))
      have H3 := hid (H2.out.low hb)
      clear hb HW2 H2 c1 c2 c3 c4 c5 c6 c7 c8 lt
      obtain ⟨c1, c2, c3, c4, c5, c6, c7, c8, lt⟩ := H3.out
      go_wp2_with fail
      refine (N0.out _).mono ?_
      rintro e w9 ⟨rfl, hww⟩; have hw2 := hww.symm; clear hww; subst hw2
      go_wp2_with fail
      refine (PP.out _).mono ?_
      rintro e w4 ⟨rfl, hb⟩
      have HW4 := hid (HW3.out.trans (hb.mono HW3.out.size))
      have H4 := hid (H3.out.low hb)
      clear hb HW3 H3 c1 c2 c3 c4 c5 c6 c7 c8 lt
      obtain ⟨c1, c2, c3, c4, c5, c6, c7, c8, lt⟩ := H4.out
      go_wp2_with fail
      obtain ⟨d0, d1, d2, d3⟩ := four_alloc w4 (.string o.1) (.string o.2.1) (.string o.2.2.1) (.string o.2.2.2) 25
      have hb := belowA w4 (.cells #[.string o.1, .string o.2.1, .string o.2.2.1, .string o.2.2.2] 25)
      have dl : w4.heap.size < (w4.alloc (.cells #[.string o.1, .string o.2.1, .string o.2.2.1, .string o.2.2.2] 25)).heap.size := by simp
      generalize w4.alloc (.cells #[.string o.1, .string o.2.1, .string o.2.2.1, .string o.2.2.2] 25) = w6 at *
      have HW6 := hid (HW4.out.trans (hb.mono HW4.out.size))
      have H6 := hid (H4.out.low hb)
      clear hb HW4 H4 c1 c2 c3 c4 c5 c6 c7 c8 lt
      obtain ⟨c1, c2, c3, c4, c5, c6, c7, c8, lt⟩ := H6.out
      refine (N0.out _).mono ?_
      rintro e w9 ⟨rfl, hww⟩; have hw2 := hww.symm; clear hww; subst hw2
      go_wp2_with fail
      clear d0 d1 d2 d3 dl TT PP NE ne CO
    case' neg =>
      have TT := hid (fun W => otext_bad o W ho.1 ho.2 ho0)
      have te := oE_cases o
      have NE := hid (fun W => num_any (oE o) W (by omega))
      generalize oE o = er at *
      have e0 : (er != 0) = true := by simpa using ho0
      have e0' : (er == 0) = false := by simpa using ho0
      simp only [ov] at TT
      clear te
      refine (TT.out _).mono ?_
      rintro e w2 ⟨rfl, hb⟩
      have HW2 := hid (HW5.out.trans (hb.mono HW5.out.size))
      have H2 := hid (H5.out.low hb)
      clear hb HW5 H5 c1 c2 c3 c4 c5 c6 c7 c8 lt
      obtain ⟨c1, c2, c3, c4, c5, c6, c7, c8, lt⟩ := H2.out
      go_wp2_with fail
      have T0 : w2.drew.cell? ⟨w.heap.size, 4, none⟩ = some (.string o.1) ∧ w2.drew.cell? ⟨w.heap.size, 5, none⟩ = some (.string o.2.1) ∧ w2.drew.cell? ⟨w.heap.size, 6, none⟩ = some (.string o.2.2.1) ∧ w2.drew.cell? ⟨w.heap.size, 7, none⟩ = some (.string o.2.2.2) := ⟨c4, c5, c6, c7⟩
      go_region_held3 (fun W => W.cell? ⟨w.heap.size, 4, none⟩ = some (.string o.1) ∧ W.cell? ⟨w.heap.size, 5, none⟩ = some (.string o.2.1) ∧ W.cell? ⟨w.heap.size, 6, none⟩ = some (.string o.2.2.1) ∧ W.cell? ⟨w.heap.size, 7, none⟩ = some (.string o.2.2.2))
        (first | exact T0 | exact T1)
        (first
          | (go_at_call 9; refine (NE.out _).mono ?_; rintro e w9 ⟨rfl, hww⟩; have hw2 := hww.symm; clear hww; subst hw2)
          | (go_at_call 13; refine (CO.out _).mono ?_; rintro e w3 ⟨rfl, hb⟩; have T1 := fr_low T0 hb lt; have D1 := hid hb; clear hb))
      have hb : Below w2.heap.size w2 w3 := (Below.refl _ _).drew.trans D1.out
      clear T0 T1 D1
      have HW6 := hid (HW2.out.trans (hb.mono HW2.out.size))
      have H6 := hid (H2.out.low hb)
      clear hb HW2 H2 c1 c2 c3 c4 c5 c6 c7 c8 lt
      obtain ⟨c1, c2, c3, c4, c5, c6, c7, c8, lt⟩ := H6.out
      go_wp2_with fail
      refine (NE.out _).mono ?_
      rintro e w9 ⟨rfl, hww⟩; have hw2 := hww.symm; clear hww; subst hw2
      go_wp2_with fail
      clear TT NE CO e0 e0' ho0)
  all_goals (
    by_cases hp0 : (pT s).2 = 0
    case' pos =>
      have TX := text_parse hp0
      have TT := hid (fun W => text_ok (pT s).1 W TX.1)
      rw [TX.2] at TT
      rw [hp0] at PT
      simp only [tv] at TT
      clear TX
      generalize (pT s).1 = tp at *
      obtain ⟨p0, p1, p2⟩ := tp
      simp only at *
      refine (PT.out _).mono ?_
      rintro e w2 ⟨rfl, hb⟩
      have HW2 := hid (HW6.out.trans (hb.mono HW6.out.size))
      have H2 := hid (H6.out.low hb)
      clear hb HW6 H6 c1 c2 c3 c4 c5 c6 c7 c8 lt
      obtain ⟨c1, c2, c3, c4, c5, c6, c7, c8, lt⟩ := H2.out
      go_wp2_with fail
      obtain ⟨d0, d1, d2⟩ := three w2 (.string p0) (.string p1) (.string p2) 23
      have hb := belowA w2 (.cells #[.string p0, .string p1, .string p2] 23)
      have dl : w2.heap.size < (w2.alloc (.cells #[.string p0, .string p1, .string p2] 23)).heap.size := by simp
      generalize w2.alloc (.cells #[.string p0, .string p1, .string p2] 23) = w3 at *
      have HW3 := hid (HW2.out.trans (hb.mono HW2.out.size))
      have H3 := hid (H2.out.low hb)
      clear hb HW2 H2 c1 c2 c3 c4 c5 c6 c7 c8 lt
      obtain ⟨c1, c2, c3, c4, c5, c6, c7, c8, lt⟩ := H3.out
      refine (N0.out _).mono ?_
      rintro e w9 ⟨rfl, hww⟩; have hw2 := hww.symm; clear hww; subst hw2
      go_wp2_with fail
      refine (TT.out _).mono ?_
      rintro e w4 ⟨rfl, hb⟩
      have HW7 := hid (HW3.out.trans (hb.mono HW3.out.size))
      have H7 := hid (H3.out.low hb)
      clear hb HW3 H3 c1 c2 c3 c4 c5 c6 c7 c8 lt
      obtain ⟨c1, c2, c3, c4, c5, c6, c7, c8, lt⟩ := H7.out
      go_wp2_with fail
      refine (N0.out _).mono ?_
      rintro e w9 ⟨rfl, hww⟩; have hw2 := hww.symm; clear hww; subst hw2
      go_wp2_with fail
      clear d0 d1 d2 dl TT PT hp0
    case' neg =>
      have te := pT_range s
      have NE := hid (fun W => num_any (pT s).2 W (by omega))
      generalize (pT s).2 = er at *
      have e0' : (er == 0) = false := by simpa using hp0
      generalize (pT s).1 = tp at *
      obtain ⟨p0, p1, p2⟩ := tp
      simp only at *
      clear te
      refine (PT.out _).mono ?_
      rintro e w2 ⟨rfl, hb⟩
      have HW2 := hid (HW6.out.trans (hb.mono HW6.out.size))
      have H2 := hid (H6.out.low hb)
      clear hb HW6 H6 c1 c2 c3 c4 c5 c6 c7 c8 lt
      obtain ⟨c1, c2, c3, c4, c5, c6, c7, c8, lt⟩ := H2.out
      go_wp2_with fail
      obtain ⟨d0, d1, d2⟩ := three w2 (.string p0) (.string p1) (.string p2) 23
      have hb := belowA w2 (.cells #[.string p0, .string p1, .string p2] 23)
      have dl : w2.heap.size < (w2.alloc (.cells #[.string p0, .string p1, .string p2] 23)).heap.size := by simp
      generalize w2.alloc (.cells #[.string p0, .string p1, .string p2] 23) = w7 at *
      have HW7 := hid (HW2.out.trans (hb.mono HW2.out.size))
      have H7 := hid (H2.out.low hb)
      clear hb HW2 H2 c1 c2 c3 c4 c5 c6 c7 c8 lt
      obtain ⟨c1, c2, c3, c4, c5, c6, c7, c8, lt⟩ := H7.out
      refine (NE.out _).mono ?_
      rintro e w9 ⟨rfl, hww⟩; have hw2 := hww.symm; clear hww; subst hw2
      go_wp2_with fail
      clear d0 d1 d2 dl NE PT hp0 e0')
  all_goals (
    by_cases hq0 : (pO s).2 = 0
    case' pos =>
      have TX := text_ptol hq0
      have TT := hid (fun W => otext_ok (pO s).1 W TX.1)
      rw [TX.2] at TT
      rw [hq0] at PO
      simp only [ov] at TT
      clear TX
      generalize (pO s).1 = tp at *
      obtain ⟨p0, p1, p2, p3⟩ := tp
      simp only at *
      refine (PO.out _).mono ?_
      rintro e w2 ⟨rfl, hb⟩
      have HW2 := hid (HW7.out.trans (hb.mono HW7.out.size))
      have H2 := hid (H7.out.low hb)
      clear hb HW7 H7 c1 c2 c3 c4 c5 c6 c7 c8 lt
      obtain ⟨c1, c2, c3, c4, c5, c6, c7, c8, lt⟩ := H2.out
      go_wp2_with fail
      obtain ⟨d0, d1, d2, d3⟩ := four_alloc w2 (.string p0) (.string p1) (.string p2) (.string p3) 25
      have hb := belowA w2 (.cells #[.string p0, .string p1, .string p2, .string p3] 25)
      have dl : w2.heap.size < (w2.alloc (.cells #[.string p0, .string p1, .string p2, .string p3] 25)).heap.size := by simp
      generalize w2.alloc (.cells #[.string p0, .string p1, .string p2, .string p3] 25) = w3 at *
      have HW3 := hid (HW2.out.trans (hb.mono HW2.out.size))
      have H3 := hid (H2.out.low hb)
      clear hb HW2 H2 c1 c2 c3 c4 c5 c6 c7 c8 lt
      obtain ⟨c1, c2, c3, c4, c5, c6, c7, c8, lt⟩ := H3.out
      refine (N0.out _).mono ?_
      rintro e w9 ⟨rfl, hww⟩; have hw2 := hww.symm; clear hww; subst hw2
      go_wp2_with fail
      refine (TT.out _).mono ?_
      rintro e w4 ⟨rfl, hb⟩
      have HW8 := hid (HW3.out.trans (hb.mono HW3.out.size))
      have H8 := hid (H3.out.low hb)
      clear hb HW3 H3 c1 c2 c3 c4 c5 c6 c7 c8 lt
      obtain ⟨c1, c2, c3, c4, c5, c6, c7, c8, lt⟩ := H8.out
      go_wp2_with fail
      refine (N0.out _).mono ?_
      rintro e w9 ⟨rfl, hww⟩; have hw2 := hww.symm; clear hww; subst hw2
      go_wp2_with fail
      go_ret
      exact ⟨rfl, HW8.out⟩
    case' neg =>
      have te := pO_range s
      have NE := hid (fun W => num_any (pO s).2 W (by omega))
      generalize (pO s).2 = er at *
      have e0' : (er == 0) = false := by simpa using hq0
      generalize (pO s).1 = tp at *
      obtain ⟨p0, p1, p2, p3⟩ := tp
      simp only at *
      clear te
      refine (PO.out _).mono ?_
      rintro e w2 ⟨rfl, hb⟩
      have HW2 := hid (HW7.out.trans (hb.mono HW7.out.size))
      have H2 := hid (H7.out.low hb)
      clear hb HW7 H7 c1 c2 c3 c4 c5 c6 c7 c8 lt
      obtain ⟨c1, c2, c3, c4, c5, c6, c7, c8, lt⟩ := H2.out
      go_wp2_with fail
      obtain ⟨d0, d1, d2, d3⟩ := four_alloc w2 (.string p0) (.string p1) (.string p2) (.string p3) 25
      have hb := belowA w2 (.cells #[.string p0, .string p1, .string p2, .string p3] 25)
      have dl : w2.heap.size < (w2.alloc (.cells #[.string p0, .string p1, .string p2, .string p3] 25)).heap.size := by simp
      generalize w2.alloc (.cells #[.string p0, .string p1, .string p2, .string p3] 25) = w8 at *
      have HW8 := hid (HW2.out.trans (hb.mono HW2.out.size))
      have H8 := hid (H2.out.low hb)
      clear hb HW2 H2 c1 c2 c3 c4 c5 c6 c7 c8 lt
      obtain ⟨c1, c2, c3, c4, c5, c6, c7, c8, lt⟩ := H8.out
      refine (NE.out _).mono ?_
      rintro e w9 ⟨rfl, hww⟩; have hw2 := hww.symm; clear hww; subst hw2
      go_wp2_with fail
      go_ret
      exact ⟨rfl, HW8.out⟩)
end Go.Proofs.YtppblibcbjpfnaaDoor.L
