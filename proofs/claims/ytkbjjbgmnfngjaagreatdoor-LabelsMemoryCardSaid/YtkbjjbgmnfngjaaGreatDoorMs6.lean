import Derived.Test.YtkbjjbgmnfngjaaGreatDoorMs3
import Derived.Test.YtkbjjbgmnfngjaaGreatDoorMs5
namespace Go.Proofs.YtkbjjbgmnfngjaaGreatDoor.L
open Go.RowKit
set_option linter.unusedVariables false
theorem asks_7 (w : World) (K n : Int) (aL aO aD : Option Addr) (cL cO cD : Nat) (s ks vs : ByteArray) (l c : List Lb) (L : List Df) (hD : CameD w (.slice aD L.length cD) L) (gd : GoodD L) (hLb : L.length * 56 ≤ 140737488351232) (hs : s.size ≤ maxLen) (hk : ks.size ≤ maxLen) (hv : vs.size ≤ maxLen) : Asks w 7 (.agg #[.int .i64 K, .slice aL l.length cL, .slice aO c.length cO, .slice aD L.length cD, .string s, .string ks, .string vs, .int .i64 n]) (An (fun l => (makeN l).2) (fun l => l)) :=
  ⟨fun W v l' hb hc hg => asked_7 K n _ _ _ v s ks vs l' L w W hc hg , fun W v l' hb hc hg => wanted_7 K n _ _ _ v s ks vs l' L w W hc hg , fun a x y => an_uni a x y, fun a x _ h => an_len (fun l e => by have := (make_ok e).2.1; omega) a x h⟩
theorem asks_8 (w : World) (K n : Int) (aL aO aD : Option Addr) (cL cO cD : Nat) (s ks vs : ByteArray) (l c : List Lb) (L : List Df) (hD : CameD w (.slice aD L.length cD) L) (gd : GoodD L) (hLb : L.length * 56 ≤ 140737488351232) (hs : s.size ≤ maxLen) (hk : ks.size ≤ maxLen) (hv : vs.size ≤ maxLen) : Asks w 8 (.agg #[.int .i64 K, .slice aL l.length cL, .slice aO c.length cO, .slice aD L.length cD, .string s, .string ks, .string vs, .int .i64 n]) (An (fun _ => (parseN s).2.2) (fun _ => (parseN s).1)) :=
  ⟨fun W v l' hb hc hg => asked_8 K n _ _ _ v s ks vs l' L w W hc hg hs, fun W v l' hb hc hg => wanted_8 K n _ _ _ v s ks vs l' L w W hc hg hs, fun a x y => an_uni a x y, fun a x _ h => an_len (fun l e => parse_len s) a x h⟩
theorem asks_11 (w : World) (K n : Int) (aL aO aD : Option Addr) (cL cO cD : Nat) (s ks vs : ByteArray) (l c : List Lb) (L : List Df) (hD : CameD w (.slice aD L.length cD) L) (gd : GoodD L) (hLb : L.length * 56 ≤ 140737488351232) (hs : s.size ≤ maxLen) (hk : ks.size ≤ maxLen) (hv : vs.size ≤ maxLen) : Asks w 11 (.agg #[.int .i64 K, .slice aL l.length cL, .slice aO c.length cO, .slice aD L.length cD, .string s, .string ks, .string vs, .int .i64 n]) (An (fun l => putA l ks vs) (fun l => delL l ks ++ [(ks, vs)])) :=
  ⟨fun W v l' hb hc hg => asked_11 K n _ _ _ v s ks vs l' L w W hc hg hk hv, fun W v l' hb hc hg => wanted_11 K n _ _ _ v s ks vs l' L w W hc hg hk hv, fun a x y => an_uni a x y, fun a x _ h => an_len (fun l e => (put_pure e).2) a x h⟩
theorem asks_14 (w : World) (K n : Int) (aL aO aD : Option Addr) (cL cO cD : Nat) (s ks vs : ByteArray) (l c : List Lb) (L : List Df) (hD : CameD w (.slice aD L.length cD) L) (gd : GoodD L) (hLb : L.length * 56 ≤ 140737488351232) (hs : s.size ≤ maxLen) (hk : ks.size ≤ maxLen) (hv : vs.size ≤ maxLen) : Asks w 14 (.agg #[.int .i64 K, .slice aL l.length cL, .slice aO c.length cO, .slice aD L.length cD, .string s, .string ks, .string vs, .int .i64 n]) (An (fun l => patA l L) (fun l => kept L l ++ newly L)) :=
  ⟨fun W v l' hb hc hg => asked_14 K n _ _ _ v s ks vs l' L w W hc hg hD hb gd hLb, fun W v l' hb hc hg => wanted_14 K n _ _ _ v s ks vs l' L w W hc hg hD hb gd hLb, fun a x y => an_uni a x y, fun a x _ h => an_len (fun l e => (patch_pure e).2) a x h⟩
theorem asks_12 (w : World) (K n : Int) (aL aO aD : Option Addr) (cL cO cD : Nat) (s ks vs : ByteArray) (l c : List Lb) (L : List Df) (hD : CameD w (.slice aD L.length cD) L) (gd : GoodD L) (hLb : L.length * 56 ≤ 140737488351232) (hs : s.size ≤ maxLen) (hk : ks.size ≤ maxLen) (hv : vs.size ≤ maxLen) : Asks w 12 (.agg #[.int .i64 K, .slice aL l.length cL, .slice aO c.length cO, .slice aD L.length cD, .string s, .string ks, .string vs, .int .i64 n]) (fun a x => x = delL a ks) :=
  ⟨fun W v l' hb hc hg => asked_12 K n _ _ _ v s ks vs l' W hc hg hk, fun W v l' hb hc hg => wanted_12 K n _ _ _ v s ks vs l' W hc hg hk, fun a x y h1 h2 => h1.trans h2.symm, fun a x hg h => by rw [h]; have := del_len a ks; have := hg.1.1; have := hg.1.2; omega⟩
set_option maxHeartbeats 8000000 in
set_option maxRecDepth 100000 in
theorem memory_any (w : World) (k n : Int) (vL vO vD : Value) (s ks vs : ByteArray) (l c : List Lb) (L : List Df) (hL : Came w vL l) (hO : Came w vO c) (hg : Good l) (hgc : Good c) (hD : CameD w vD L) (gd : GoodD L) (hLb : L.length * 56 ≤ 140737488351232) (hs : s.size ≤ maxLen) (hk : ks.size ≤ maxLen) (hv : vs.size ≤ maxLen) :
    Calls Tryz.prog 3 #[.agg #[.int .i64 k, vL, vO, vD, .string s, .string ks, .string vs, .int .i64 n]] w fun e w' => e = .returned (.bool true) ∧ Below w.heap.size w w' := by
  obtain ⟨aL, cL, rfl⟩ := came_slice hL
  obtain ⟨aO, cO, rfl⟩ := came_slice hO
  obtain ⟨aD, cD, rfl⟩ := cameD_slice hD
  have HW := hid (fun W => wakes_any W)
  have F7 := hid (fun W (hb : Below w.heap.size w W) => apart_any W 7 k n aL aO aD cL cO L.length cD s ks vs l c _ (asks_7 W k n aL aO aD cL cO cD s ks vs l c L (hD.low hb) gd hLb hs hk hv) (hL.low hb) (hO.low hb) hg hgc)
  have F8 := hid (fun W (hb : Below w.heap.size w W) => apart_any W 8 k n aL aO aD cL cO L.length cD s ks vs l c _ (asks_8 W k n aL aO aD cL cO cD s ks vs l c L (hD.low hb) gd hLb hs hk hv) (hL.low hb) (hO.low hb) hg hgc)
  have F11 := hid (fun W (hb : Below w.heap.size w W) => apart_any W 11 k n aL aO aD cL cO L.length cD s ks vs l c _ (asks_11 W k n aL aO aD cL cO cD s ks vs l c L (hD.low hb) gd hLb hs hk hv) (hL.low hb) (hO.low hb) hg hgc)
  have F12 := hid (fun W (hb : Below w.heap.size w W) => apart_any W 12 k n aL aO aD cL cO L.length cD s ks vs l c _ (asks_12 W k n aL aO aD cL cO cD s ks vs l c L (hD.low hb) gd hLb hs hk hv) (hL.low hb) (hO.low hb) hg hgc)
  have F14 := hid (fun W (hb : Below w.heap.size w W) => apart_any W 14 k n aL aO aD cL cO L.length cD s ks vs l c _ (asks_14 W k n aL aO aD cL cO cD s ks vs l c L (hD.low hb) gd hLb hs hk hv) (hL.low hb) (hO.low hb) hg hgc)
  have E0 := hid (eight_all w (.int .i64 k) (.slice aL l.length cL) (.slice aO c.length cO) (.slice aD L.length cD) (.string s) (.string ks) (.string vs) (.int .i64 n) 25)
  clear hL hO hg hgc hD gd hLb hs hk hv
  obtain ⟨Ll, hLl⟩ : ∃ L, L = l.length := ⟨_, rfl⟩
  obtain ⟨Lc, hLc⟩ : ∃ L, L = c.length := ⟨_, rfl⟩
  obtain ⟨LD, hLD⟩ : ∃ x, x = L.length := ⟨_, rfl⟩
  rw [← hLl, ← hLc, ← hLD] at F7 F8 F11 F12 F14 E0
  rw [← hLl, ← hLc, ← hLD]
  clear hLl hLc hLD
  go_enter Tryz.func3, Tryz.ntmps3
  go_wp2_with fail
  have B0 := hid (show Below w.heap.size w (w.alloc (.cells #[.int .i64 k, .slice aL Ll cL, .slice aO Lc cO, .slice aD LD cD, .string s, .string ks, .string vs, .int .i64 n] 25)) from belowA _ _)
  have hz0 : w.heap.size < (w.alloc (.cells #[.int .i64 k, .slice aL Ll cL, .slice aO Lc cO, .slice aD LD cD, .string s, .string ks, .string vs, .int .i64 n] 25)).heap.size := by simp
  generalize w.alloc (.cells #[.int .i64 k, .slice aL Ll cL, .slice aO Lc cO, .slice aD LD cD, .string s, .string ks, .string vs, .int .i64 n] 25) = W0 at *
  refine (HW.out _).mono ?_
  rintro e w1 ⟨rfl, hb⟩
  have BX := hid (show (∀ i v, [.int .i64 k, .slice aL Ll cL, .slice aO Lc cO, .slice aD LD cD, .string s, .string ks, .string vs, .int .i64 n][i]? = some v → w1.cell? ⟨w.heap.size, i, none⟩ = some v) ∧ Below w.heap.size w w1 ∧ w.heap.size < w1.heap.size from ⟨fun i v hi => (hb.cell (p := ⟨w.heap.size, i, none⟩) hz0).trans (E0.out i v hi), w_bel B0.out hb, Nat.lt_of_lt_of_le hz0 hb.size⟩)
  clear hb B0 hz0 E0
  have c0 := BX.out.1 0 _ rfl
  have c1 := BX.out.1 1 _ rfl
  have c2 := BX.out.1 2 _ rfl
  have c3 := BX.out.1 3 _ rfl
  have c4 := BX.out.1 4 _ rfl
  have c5 := BX.out.1 5 _ rfl
  have c6 := BX.out.1 6 _ rfl
  have c7 := BX.out.1 7 _ rfl
  have hbz := BX.out.2.2
  go_wp2_with fail
  refine (F7.out _ BX.out.2.1).mono ?_
  rintro e w2 ⟨rfl, hb⟩
  have BY := hid (show (∀ i v, [.int .i64 k, .slice aL Ll cL, .slice aO Lc cO, .slice aD LD cD, .string s, .string ks, .string vs, .int .i64 n][i]? = some v → w2.cell? ⟨w.heap.size, i, none⟩ = some v) ∧ Below w.heap.size w w2 ∧ w.heap.size < w2.heap.size from ⟨fun i v hi => (hb.cell (p := ⟨w.heap.size, i, none⟩) BX.out.2.2).trans (BX.out.1 i v hi), w_bel BX.out.2.1 hb, Nat.lt_of_lt_of_le BX.out.2.2 hb.size⟩)
  clear hb BX c0 c1 c2 c3 c4 c5 c6 c7 hbz
  have BX := BY
  clear BY
  have c0 := BX.out.1 0 _ rfl
  have c1 := BX.out.1 1 _ rfl
  have c2 := BX.out.1 2 _ rfl
  have c3 := BX.out.1 3 _ rfl
  have c4 := BX.out.1 4 _ rfl
  have c5 := BX.out.1 5 _ rfl
  have c6 := BX.out.1 6 _ rfl
  have c7 := BX.out.1 7 _ rfl
  have hbz := BX.out.2.2
  go_wp2_with fail
  refine (F8.out _ BX.out.2.1).mono ?_
  rintro e w3 ⟨rfl, hb⟩
  have BY := hid (show (∀ i v, [.int .i64 k, .slice aL Ll cL, .slice aO Lc cO, .slice aD LD cD, .string s, .string ks, .string vs, .int .i64 n][i]? = some v → w3.cell? ⟨w.heap.size, i, none⟩ = some v) ∧ Below w.heap.size w w3 ∧ w.heap.size < w3.heap.size from ⟨fun i v hi => (hb.cell (p := ⟨w.heap.size, i, none⟩) BX.out.2.2).trans (BX.out.1 i v hi), w_bel BX.out.2.1 hb, Nat.lt_of_lt_of_le BX.out.2.2 hb.size⟩)
  clear hb BX c0 c1 c2 c3 c4 c5 c6 c7 hbz
  have BX := BY
  clear BY
  have c0 := BX.out.1 0 _ rfl
  have c1 := BX.out.1 1 _ rfl
  have c2 := BX.out.1 2 _ rfl
  have c3 := BX.out.1 3 _ rfl
  have c4 := BX.out.1 4 _ rfl
  have c5 := BX.out.1 5 _ rfl
  have c6 := BX.out.1 6 _ rfl
  have c7 := BX.out.1 7 _ rfl
  have hbz := BX.out.2.2
  go_wp2_with fail
  refine (F11.out _ BX.out.2.1).mono ?_
  rintro e w4 ⟨rfl, hb⟩
  have BY := hid (show (∀ i v, [.int .i64 k, .slice aL Ll cL, .slice aO Lc cO, .slice aD LD cD, .string s, .string ks, .string vs, .int .i64 n][i]? = some v → w4.cell? ⟨w.heap.size, i, none⟩ = some v) ∧ Below w.heap.size w w4 ∧ w.heap.size < w4.heap.size from ⟨fun i v hi => (hb.cell (p := ⟨w.heap.size, i, none⟩) BX.out.2.2).trans (BX.out.1 i v hi), w_bel BX.out.2.1 hb, Nat.lt_of_lt_of_le BX.out.2.2 hb.size⟩)
  clear hb BX c0 c1 c2 c3 c4 c5 c6 c7 hbz
  have BX := BY
  clear BY
  have c0 := BX.out.1 0 _ rfl
  have c1 := BX.out.1 1 _ rfl
  have c2 := BX.out.1 2 _ rfl
  have c3 := BX.out.1 3 _ rfl
  have c4 := BX.out.1 4 _ rfl
  have c5 := BX.out.1 5 _ rfl
  have c6 := BX.out.1 6 _ rfl
  have c7 := BX.out.1 7 _ rfl
  have hbz := BX.out.2.2
  go_wp2_with fail
  refine (F12.out _ BX.out.2.1).mono ?_
  rintro e w5 ⟨rfl, hb⟩
  have BY := hid (show (∀ i v, [.int .i64 k, .slice aL Ll cL, .slice aO Lc cO, .slice aD LD cD, .string s, .string ks, .string vs, .int .i64 n][i]? = some v → w5.cell? ⟨w.heap.size, i, none⟩ = some v) ∧ Below w.heap.size w w5 ∧ w.heap.size < w5.heap.size from ⟨fun i v hi => (hb.cell (p := ⟨w.heap.size, i, none⟩) BX.out.2.2).trans (BX.out.1 i v hi), w_bel BX.out.2.1 hb, Nat.lt_of_lt_of_le BX.out.2.2 hb.size⟩)
  clear hb BX c0 c1 c2 c3 c4 c5 c6 c7 hbz
  have BX := BY
  clear BY
  have c0 := BX.out.1 0 _ rfl
  have c1 := BX.out.1 1 _ rfl
  have c2 := BX.out.1 2 _ rfl
  have c3 := BX.out.1 3 _ rfl
  have c4 := BX.out.1 4 _ rfl
  have c5 := BX.out.1 5 _ rfl
  have c6 := BX.out.1 6 _ rfl
  have c7 := BX.out.1 7 _ rfl
  have hbz := BX.out.2.2
  go_wp2_with fail
  refine (F14.out _ BX.out.2.1).mono ?_
  rintro e w6 ⟨rfl, hb⟩
  have BY := hid (show (∀ i v, [.int .i64 k, .slice aL Ll cL, .slice aO Lc cO, .slice aD LD cD, .string s, .string ks, .string vs, .int .i64 n][i]? = some v → w6.cell? ⟨w.heap.size, i, none⟩ = some v) ∧ Below w.heap.size w w6 ∧ w.heap.size < w6.heap.size from ⟨fun i v hi => (hb.cell (p := ⟨w.heap.size, i, none⟩) BX.out.2.2).trans (BX.out.1 i v hi), w_bel BX.out.2.1 hb, Nat.lt_of_lt_of_le BX.out.2.2 hb.size⟩)
  clear hb BX c0 c1 c2 c3 c4 c5 c6 c7 hbz
  have BX := BY
  clear BY
  go_wp2_with fail
  go_ret
  exact ⟨rfl, BX.out.2.1⟩
end Go.Proofs.YtkbjjbgmnfngjaaGreatDoor.L
