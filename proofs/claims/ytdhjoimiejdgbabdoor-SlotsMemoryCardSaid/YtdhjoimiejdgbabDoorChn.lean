import Derived.Test.YtdhjoimiejdgbabDoorMgD
import Derived.Deep.RegionHeld3
namespace Go.Proofs.YtdhjoimiejdgbabDoor.L
open Go.RowKit Bs Go.Maps
set_option linter.unusedVariables false
theorem Yb.new {w0 Y : World} {B : Nat} {G : List Nat} {st : Nat → St} {b : Nat} {i p ot : Nat} {F : List Nat} (hi : i < 4) (hr : Re st) (y : Yb w0 Y B G st b (ot : Int) (.slice none 0 0) []) (T : Tb Y p ot [] F) (hd : ∀ j, j < 4 → ∀ k ∈ F, k ∉ (st j).F) (hf : ∀ k ∈ F, w0.heap.size ≤ k ∨ k ∈ G) :
    ∃ st', Wh w0 (((Y.setCell ⟨B, i, none⟩ (.pointer (some ⟨p, 0, none⟩))).setCell ⟨B, 4 + i * 2, none⟩ (.int .i64 (ot : Int))).setCell ⟨B, 4 + i * 2 + 1, none⟩ (.slice none 0 0)) B G st' ∧ Re st' := by
  have W4 := y.wh.setT hi (Or.inr ⟨p, rfl, T⟩) hd hf
  refine ⟨_, W4.setM hi (d' := []) ⟨rfl, Or.inl ⟨rfl, rfl⟩⟩, ?_⟩
  rw [upd_twice, upd_same]
  exact hr.upd (i := i) Rel.nil (Or.inr rfl)
set_option maxHeartbeats 8000000 in
set_option maxRecDepth 100000 in
theorem ch_new (w0 w : World) (B : Nat) {G : List Nat} (st : Nat → St) (h : Wh w0 w B G st) (hr : Re st) (i : Nat) (hi : i < 4) (oa ov : Int) (ot : Nat) (s : ByteArray) (hot : ot ≤ 65536) :
    Calls Tryd.prog 28 #[.pointer (some ⟨B, 0, none⟩), .agg #[.int .i64 1, .int .i64 oa, .int .i64 (ot : Int), .string s, .int .i64 ov], .int .i64 (i : Int)] w fun e w' => e = .returned (.bool true) ∧ ∃ st', Wh w0 w' B G st' ∧ Re st' := by
  have NW := hid (fun W => new_any ot W hot)
  have RN := hid (fun W => rnew_any (ot : Int) W)
  have en : newD (ot : Int) = .tuple #[.agg #[.int .i64 (ot : Int), .slice none 0 0], .int .i64 0] := if_neg (by omega)
  rw [en] at RN
  have W1 := hid (h.low ((Below.refl w.heap.size w).alloc (Nat.le_refl _) (.cells #[.int .i64 1, .int .i64 oa, .int .i64 (ot : Int), .string s, .int .i64 ov] 44)))
  have BO := hid (Bo.mk5 w 1 oa (ot : Int) ov s 44)
  have HR := hid hr
  have o0 := BO.out.o0
  have o2 := BO.out.o2
  have hi4 : (i : Int) < 4 := by omega
  clear h hr en
  go_enter Tryd.func28, Tryd.ntmps28
  go_wp2_with fail
  generalize w.alloc (.cells #[.int .i64 1, .int .i64 oa, .int .i64 (ot : Int), .string s, .int .i64 ov] 44) = X1 at *
  refine (NW.out _).mono ?_
  rintro e w2 ⟨p, F, rfl, T, hF, hb⟩
  have W2 := hid (W1.out.low hb)
  have B2 := hid (BO.out.low hb)
  have TT := hid T
  have HF := hid hF
  clear o0 o2 hb T hF
  have o2 := B2.out.o2
  go_wp2_with fail
  refine (RN.out _).mono ?_
  rintro e w3 ⟨rfl, hb⟩
  have W3 := hid (W2.out.low hb)
  have T3 := hid (TT.out.low hb)
  clear hb o2
  have YY := hid (Yb.two (m := (ot : Int)) (v := .slice none 0 0) (d := []) W3.out ⟨rfl, Or.inl ⟨rfl, rfl⟩⟩)
  have T4 := hid (T3.out.low ((Below.refl w3.heap.size w3).alloc (Nat.le_refl _) (.cells #[.int .i64 (ot : Int), .slice none 0 0] 49)))
  have YE := hid (Yb.new hi HR.out YY.out T4.out (fun j hj k hk c => by have := (W1.out.tq j hj).lt k c; have := HF.out k hk; omega) (fun k hk => Or.inl (Nat.le_trans W1.out.lo.size (HF.out k hk))))
  have y0 := YY.out.y0
  have y1 := YY.out.y1
  obtain ⟨k0, k1, k2⟩ := YY.out.wh.cells hi
  have x0 := YY.out.wh.fz i
  have x1 := YY.out.wh.fz (4 + i * 2)
  have x2 := YY.out.wh.fz (4 + i * 2 + 1)
  have n1 : 4 + i * 2 ≠ i := by omega
  have n2 : 4 + i * 2 + 1 ≠ i := by omega
  have n3 : B ≠ w3.heap.size := by have := W3.out.lt; omega
  have n4 : w3.heap.size ≠ B := n3.symm
  generalize (st i).pv = pv0 at *
  generalize (st i).mo = mo0 at *
  generalize (st i).v = vv0 at *
  go_wp2_with fail
  clear YY T4 T3 W3 W2 TT NW RN
  generalize w3.alloc (.cells #[.int .i64 (ot : Int), .slice none 0 0] 49) = Y at *
  go_region
  go_wp2_with fail
  go_ret
  obtain ⟨st', hA, hB⟩ := YE.out
  exact ⟨rfl, st', hA.low (belowDr _), hB⟩
set_option maxHeartbeats 8000000 in
set_option maxRecDepth 100000 in
theorem ch_new_no (w0 w : World) (B : Nat) {G : List Nat} (st : Nat → St) (h : Wh w0 w B G st) (i : Nat) (hi : i < 4) (oa ov ot : Int) (s : ByteArray) (hot : ot < 0 ∨ 65536 < ot) :
    Calls Tryd.prog 28 #[.pointer (some ⟨B, 0, none⟩), .agg #[.int .i64 1, .int .i64 oa, .int .i64 ot, .string s, .int .i64 ov], .int .i64 (i : Int)] w fun e w' => e = .returned (.bool true) ∧ Below w.heap.size w w' := by
  have NW := hid (fun W => new_no ot W hot)
  have RN := hid (fun W => rnew_any ot W)
  have en : newD ot = .tuple #[.agg #[.int .i64 0, .slice none 0 0], .int .i64 50] := if_pos hot
  rw [en] at RN
  have b1 := (Below.refl w.heap.size w).alloc (Nat.le_refl _) (.cells #[.int .i64 1, .int .i64 oa, .int .i64 ot, .string s, .int .i64 ov] 44)
  have BO := hid (Bo.mk5 w 1 oa ot ov s 44)
  have HB := hid b1
  have o0 := BO.out.o0
  have o2 := BO.out.o2
  clear h en b1 hot
  go_enter Tryd.func28, Tryd.ntmps28
  go_wp2_with fail
  generalize w.alloc (.cells #[.int .i64 1, .int .i64 oa, .int .i64 ot, .string s, .int .i64 ov] 44) = X1 at *
  refine (NW.out _).mono ?_
  rintro e w2 ⟨rfl, hw⟩
  subst hw
  go_wp2_with fail
  refine (RN.out _).mono ?_
  rintro e w3 ⟨rfl, hb⟩
  have HB3 := hid (HB.out.trans (hb.mono HB.out.size))
  clear hb o0 o2
  have HB4 := hid (HB3.out.alloc HB3.out.size (.cells #[.int .i64 0, .slice none 0 0] 49))
  go_wp2_with fail
  go_ret
  exact ⟨rfl, HB4.out⟩
end Go.Proofs.YtdhjoimiejdgbabDoor.L
