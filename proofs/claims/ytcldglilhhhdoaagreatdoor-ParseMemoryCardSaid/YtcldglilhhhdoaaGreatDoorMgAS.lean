import Derived.Test.YtcldglilhhhdoaaGreatDoorMgAR
import Derived.Test.YtcldglilhhhdoaaGreatDoorMgAQ
import Derived.Laws.MakeOwn
import Derived.Deep.CutRange
namespace Go.Proofs.YtcldglilhhhdoaaGreatDoor.L
open Go.RowKit
set_option linter.unusedVariables false
set_option linter.unusedSimpArgs false
end Go.Proofs.YtcldglilhhhdoaaGreatDoor.L
namespace Go.Proofs.YtcldglilhhhdoaaGreatDoor.L
open Go.RowKit Go.Shelf
set_option linter.unusedVariables false
set_option linter.unusedSimpArgs false
end Go.Proofs.YtcldglilhhhdoaaGreatDoor.L
namespace Go.Proofs.YtcldglilhhhdoaaGreatDoor.L
open Go.RowKit
set_option linter.unusedVariables false
set_option linter.unusedSimpArgs false
end Go.Proofs.YtcldglilhhhdoaaGreatDoor.L
namespace Go.Proofs.YtcldglilhhhdoaaGreatDoor.L
open Go.RowKit
set_option linter.unusedVariables false
set_option linter.unusedSimpArgs false
set_option maxHeartbeats 4000000 in
set_option maxRecDepth 100000 in
theorem same_tree (a b : Option Addr) (T : List Pt) (ca cb : Nat) (w : World) (hA : PL w a T) (hB : PL w b T) (hn : T.length ≤ 1000) (hk : ∀ j, j < T.length → (pt T j).kids.length ≤ 1000000) :
  Calls Tryz.prog 13 #[.agg #[.slice a T.length ca], .agg #[.slice b T.length cb]] w fun e w' => e = .returned (.bool true) ∧ Below w.heap.size w w' := by
 obtain ⟨L, hL⟩ : ∃ L, L = T.length := ⟨_, rfl⟩
 have HA := hid hA
 have HB := hid hB
 have HL := hid hL
 have HK := hid hk
 rw [← hL] at hn ⊢
 have hLm : L ≤ maxLen := by unfold maxLen; omega
 have e0 : ((L : Int) != (L : Int)) = false := by simp
 clear hA hB hL hk
 have HB2 := hid (show Below w.heap.size w ((w.alloc (.cells #[.slice a L ca] 25)).alloc (.cells #[.slice b L cb] 25)) from (belowA w _).trans ((belowA _ _).mono (belowA w _).size))
 have HX1 := hid (show ((w.alloc (.cells #[.slice a L ca] 25)).alloc (.cells #[.slice b L cb] 25)).heap[w.heap.size]? = some (.cells #[.slice a L ca] 25 (0, 0)) from ((belowA (w.alloc (.cells #[.slice a L ca] 25)) _).block _ (by simp)).trans (heap_alloc_new w _))
 have HX2 := hid (show ((w.alloc (.cells #[.slice a L ca] 25)).alloc (.cells #[.slice b L cb] 25)).heap[w.heap.size + 1]? = some (.cells #[.slice b L cb] 25 (0, 0)) from (by have h1 := heap_alloc_new (w.alloc (.cells #[.slice a L ca] 25)) (.cells #[.slice b L cb] 25); rw [World.size_alloc] at h1; exact h1))
 go_enter Tryz.func13, Tryz.ntmps13
 go_upto_region 1 with fail
 generalize ((w.alloc (.cells #[.slice a L ca] 25)).alloc (.cells #[.slice b L cb] 25)) = X at *
 have HPA := hid (HA.out.low HB2.out)
 have HPB := hid (HB.out.low HB2.out)
 generalize hb0 : w.heap.size = b0 at *
 have HB0 := hid hb0
 clear hb0
 have x1 : X.cell? ⟨b0, 0, none⟩ = some (.slice a L ca) := cell_of_row _ _ 0 _ _ _ HX1.out
 have x2 : X.cell? ⟨b0 + 1, 0, none⟩ = some (.slice b L cb) := cell_of_row _ _ 0 _ _ _ HX2.out
 go_wp2_with fail
 clear x1 x2
 go_loopw [5] (fun i wr => ∃ k : Nat, k ≤ L ∧ i = .int .i64 k ∧ Hid (Below X.heap.size X wr)) (fun i _ => L - (intOf i).toNat)
 case atStart => exact ⟨0, Nat.zero_le _, rfl, hid (Below.refl _ _)⟩
 case round =>
  obtain ⟨k, hk, rfl, HBW⟩ := hrel
  have x1 : wr.cell? ⟨b0, 0, none⟩ = some (.slice a L ca) := (HBW.out.cell (p := ⟨b0, 0, none⟩) (lt_blk HX1.out)).trans (cell_of_row _ _ 0 _ _ _ HX1.out)
  by_cases hlt : k < L
  ·rcases HPA.out.low HBW.out with h9 | ⟨ga, oa, rfl, hga, hca⟩
   ·have := HL.out; omega
   obtain ⟨ka, kc, q0, q1, q2, q3, rka⟩ := hca k (by rw [← HL.out]; exact hlt)
   rcases HPB.out.low HBW.out with h9 | ⟨gb, ob, rfl, hgb, hcb⟩
   ·have := HL.out; omega
   obtain ⟨la, lc, r0, r1, r2, r3, rkb⟩ := hcb k (by rw [← HL.out]; exact hlt)
   have hkn := HK.out k (by rw [← HL.out]; exact hlt)
   clear hca hcb
   generalize (pt T k).kind = kd at *
   generalize (pt T k).text = tx at *
   generalize (pt T k).num = nu at *
   generalize (pt T k).kids = kids at *
   obtain ⟨kn, hkl⟩ : ∃ kn, kn = kids.length := ⟨_, rfl⟩
   rw [← hkl] at q3 r3 hkn
   have HKL := hid hkl
   have RKA := hid rka
   have RKB := hid rkb
   clear hkl rka rkb
   have g1 : (k : Int) < (L : Int) := by omega
   have g2 : (0 : Int) ≤ (k : Int) := by omega
   have hkm : kn ≤ maxLen := by unfold maxLen; omega
   go_upto_region 7 with fail
   have HY1 := hid (heap_alloc_new wr (.cells #[.int .i64 kd, .string tx, .int .i64 nu, .slice ka kn kc] 46))
   have HC1 := hid (belowA wr (.cells #[.int .i64 kd, .string tx, .int .i64 nu, .slice ka kn kc] 46))
   have BX1 := hid (HBW.out.trans (HC1.out.mono HBW.out.size))
   have RKA1 := hid (RKA.out.low HC1.out (Nat.le_refl _))
   have RKB1 := hid (RKB.out.low HC1.out (Nat.le_refl _))
   replace r0 := (HC1.out.cell (p := ⟨gb, ob + k * 4, none⟩) hgb).trans r0
   replace r1 := (HC1.out.cell (p := ⟨gb, ob + k * 4 + 1, none⟩) hgb).trans r1
   replace r2 := (HC1.out.cell (p := ⟨gb, ob + k * 4 + 2, none⟩) hgb).trans r2
   replace r3 := (HC1.out.cell (p := ⟨gb, ob + k * 4 + 3, none⟩) hgb).trans r3
   generalize wr.alloc (.cells #[.int .i64 kd, .string tx, .int .i64 nu, .slice ka kn kc] 46) = V1 at *
   generalize wr.heap.size = c1 at *
   clear x1 q0 q1 q2 q3
   have x2 : V1.cell? ⟨b0 + 1, 0, none⟩ = some (.slice (some ⟨gb, ob, none⟩) L cb) := (BX1.out.cell (p := ⟨b0 + 1, 0, none⟩) (lt_blk HX2.out)).trans (cell_of_row _ _ 0 _ _ _ HX2.out)
   go_upto_region 8 with fail
   have HY2 := hid (heap_alloc_new V1 (.cells #[.int .i64 kd, .string tx, .int .i64 nu, .slice la kn lc] 46))
   have HC2 := hid (belowA V1 (.cells #[.int .i64 kd, .string tx, .int .i64 nu, .slice la kn lc] 46))
   have BX2 := hid (BX1.out.trans (HC2.out.mono BX1.out.size))
   have RKA2 := hid (RKA1.out.low HC2.out (Nat.le_refl _))
   have RKB2 := hid (RKB1.out.low HC2.out (Nat.le_refl _))
   have HY12 := hid ((HC2.out.block _ (lt_blk HY1.out)).trans HY1.out)
   generalize V1.alloc (.cells #[.int .i64 kd, .string tx, .int .i64 nu, .slice la kn lc] 46) = V2 at *
   generalize V1.heap.size = c2 at *
   clear x2 r0 r1 r2 r3
   have y0 : V2.cell? ⟨c1, 0, none⟩ = some (.int .i64 kd) := cell_of_row _ _ 0 _ _ _ HY12.out
   have y1 : V2.cell? ⟨c1, 1, none⟩ = some (.string tx) := cell_of_row _ _ 1 _ _ _ HY12.out
   have y2 : V2.cell? ⟨c1, 2, none⟩ = some (.int .i64 nu) := cell_of_row _ _ 2 _ _ _ HY12.out
   have y3 : V2.cell? ⟨c1, 3, none⟩ = some (.slice ka kn kc) := cell_of_row _ _ 3 _ _ _ HY12.out
   have z0 : V2.cell? ⟨c2, 0, none⟩ = some (.int .i64 kd) := cell_of_row _ _ 0 _ _ _ HY2.out
   have z1 : V2.cell? ⟨c2, 1, none⟩ = some (.string tx) := cell_of_row _ _ 1 _ _ _ HY2.out
   have z2 : V2.cell? ⟨c2, 2, none⟩ = some (.int .i64 nu) := cell_of_row _ _ 2 _ _ _ HY2.out
   have z3 : V2.cell? ⟨c2, 3, none⟩ = some (.slice la kn lc) := cell_of_row _ _ 3 _ _ _ HY2.out
   have f1 : (kd != kd) = false := by simp
   have f2 : (tx.toList != tx.toList) = false := by simp
   have f3 : (nu != nu) = false := by simp
   have f4 : ((kn : Int) != (kn : Int)) = false := by simp
   go_wp2_with fail
   clear y0 y1 y2 y3 z0 z1 z2 z3
   go_loopw [8] (fun i wr2 => ∃ q : Nat, q ≤ kn ∧ i = .int .i64 q ∧ Hid (∃ m, wr2 = V2.drewN m)) (fun i _ => kn - (intOf i).toNat)
   case atStart => exact ⟨0, Nat.zero_le _, rfl, hid ⟨0, rfl⟩⟩
   case round =>
    obtain ⟨q, hq, rfl, HM⟩ := hrel
    obtain ⟨m0, hm0⟩ := HM.out
    have HMM := hid hm0
    clear HM
    have y3 : wr.cell? ⟨c1, 3, none⟩ = some (.slice ka kn kc) := by rw [hm0]; exact cell_of_row _ _ 3 _ _ _ HY12.out
    have z3 : wr.cell? ⟨c2, 3, none⟩ = some (.slice la kn lc) := by rw [hm0]; exact cell_of_row _ _ 3 _ _ _ HY2.out
    by_cases hqn : q < kn
    ·rcases RKA2.out with h9 | ⟨ha, pa, rfl, hal, hac⟩
     ·have := HKL.out; omega
     rcases RKB2.out with h9 | ⟨hb, pb2, rfl, hbl, hbc⟩
     ·have := HKL.out; omega
     have p0 := hac q (by rw [← HKL.out]; exact hqn)
     have p1 := hbc q (by rw [← HKL.out]; exact hqn)
     have p0 : wr.cell? ⟨ha, pa + q, none⟩ = some (.int .i64 (kids.getD q 0)) := by rw [hm0]; exact p0
     have p1 : wr.cell? ⟨hb, pb2 + q, none⟩ = some (.int .i64 (kids.getD q 0)) := by rw [hm0]; exact p1
     clear hac hbc hm0
     generalize kids.getD q 0 = x at *
     have g3 : (q : Int) < (kn : Int) := by omega
     have g4 : (0 : Int) ≤ (q : Int) := by omega
     have g5 : (q : Int) ≤ 1000000 := by omega
     have f5 : (x != x) = false := by simp
     go_wp2_with fail
     go_quiet (fail)
     go_wp2_with fail
     refine ⟨⟨q + 1, by omega, by go_num, hid ⟨m0 + nq, by rw [HMM.out, World.drewN_drewN]⟩⟩, by simp [intOf]; omega⟩
    ·obtain rfl : q = kn := by omega
     clear hm0
     go_wp2_with fail
     refine ⟨⟨k + 1, by omega, by go_num, hid (by rw [HMM.out]; exact below_drewN BX2.out _)⟩, by simp [intOf]; omega⟩
  ·obtain rfl : k = L := by omega
   go_wp2_with fail
   go_ret
   exact ⟨rfl, by rw [HB0.out]; exact HB2.out.trans (HBW.out.mono (by have := lt_blk HX1.out; omega))⟩
end Go.Proofs.YtcldglilhhhdoaaGreatDoor.L
namespace Go.Proofs.YtcldglilhhhdoaaGreatDoor.L
open Go.RowKit
set_option linter.unusedVariables false
set_option linter.unusedSimpArgs false
theorem own_set {W : World} {base g L cap : Nat} {zs : List Int} (h : OwnI W base (.slice (some ⟨g, 0, none⟩) L cap) zs) (hL : L = zs.length) (x : Nat) (v : Int) :
  OwnI (W.setCell ⟨g, x, none⟩ (.int .i64 v)) base (.slice (some ⟨g, 0, none⟩) L cap) (zs.set x v) ∧ W.grownBy (W.setCell ⟨g, x, none⟩ (.int .i64 v)) (some g) := by
 subst hL
 have := World.ownsRow.stored h x (.int .i64 v)
 refine ⟨?_, this.2⟩
 unfold OwnI
 rw [List.length_set, List.map_set]
 exact this.1
theorem own_cell {W : World} {base g L cap : Nat} {zs : List Int} (h : OwnI W base (.slice (some ⟨g, 0, none⟩) L cap) zs) (hL : L = zs.length) (j : Nat) (hj : j < L) : W.cell? ⟨g, j, none⟩ = some (.int .i64 (zs.getD j 0)) ∧ W.frozen? ⟨g, j, none⟩ = false := by
 subst hL
 refine ⟨?_, World.ownsRow.frozenAt h j⟩
 rw [World.ownsRow.cellAt h j (by omega), List.getElem?_map, List.getElem?_eq_getElem hj, List.getD_eq_getElem?_getD, List.getElem?_eq_getElem hj]
 rfl
end Go.Proofs.YtcldglilhhhdoaaGreatDoor.L
namespace Go.Proofs.YtcldglilhhhdoaaGreatDoor.L
open Go.RowKit
set_option linter.unusedVariables false
set_option linter.unusedSimpArgs false
theorem bch {w a b : World} (h1 : Below w.heap.size w a) (h2 : Below a.heap.size a b) : Below w.heap.size w b := h1.trans (h2.mono h1.size)
end Go.Proofs.YtcldglilhhhdoaaGreatDoor.L
