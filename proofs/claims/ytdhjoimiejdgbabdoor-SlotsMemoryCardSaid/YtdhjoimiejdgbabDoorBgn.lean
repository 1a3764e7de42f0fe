import Derived.Test.YtdhjoimiejdgbabDoorMgD
import Derived.Deep.RegionHeld3
namespace Go.Proofs.YtdhjoimiejdgbabDoor.L
open Go.RowKit Bs Go.Maps
set_option linter.unusedVariables false
def st0 : Nat → St := fun _ => ⟨.pointer none, 0, [], [], 0, .slice none 0 0, []⟩
theorem re0 : Re st0 := fun i hi => ⟨Rel.nil, Or.inl rfl⟩
def mst : Nat → Nat
  | 0 => 2
  | 1 => 5
  | _ => 70
theorem mst_le (k : Nat) : mst k ≤ 65536 := by
  unfold mst
  split <;> decide
abbrev zeroW : Array Value := #[.pointer none, .pointer none, .pointer none, .pointer none, .int .i64 0, .slice none 0 0, .int .i64 0, .slice none 0 0, .int .i64 0, .slice none 0 0, .int .i64 0, .slice none 0 0]
theorem wh0 (w : World) (G : List Nat) : Wh w (w.alloc (.cells zeroW 52)) w.heap.size G st0 := by
  have h : (w.alloc (.cells zeroW 52)).heap[w.heap.size]? = some (.cells zeroW 52) := heap_alloc_new w _
  refine ⟨⟨_, h, rfl, fun i hi => ?_⟩, fun i hi => Or.inl ⟨rfl, rfl, rfl, rfl⟩, fun i hi => ⟨rfl, Or.inl ⟨rfl, rfl⟩⟩, fun i j hi hj hij k hk => (by cases hk), Bx.of ((Below.refl _ w).alloc (Nat.le_refl _) _), Or.inr (Nat.le_refl _), fun i hi k hk => (by cases hk)⟩
  have : i = 0 ∨ i = 1 ∨ i = 2 ∨ i = 3 := by omega
  rcases this with rfl | rfl | rfl | rfl <;> exact ⟨rfl, rfl, rfl⟩
set_option maxHeartbeats 8000000 in
set_option maxRecDepth 100000 in
theorem begin_any (w : World) : Calls Tryd.prog 15 #[] w fun e w' => ∃ B st, e = .returned (.tuple #[.pointer (some ⟨B, 0, none⟩), .bool true]) ∧ Wh w w' B [] st ∧ Re st := by
  have bl := (Below.refl (w.alloc (.cells zeroW 52)).heap.size (w.alloc (.cells zeroW 52))).alloc (Nat.le_refl _) (.cells #[.int .i64 2, .int .i64 5, .int .i64 70] 3)
  have W0 := hid ((wh0 w []).low bl)
  have LB : Hid (((w.alloc (.cells zeroW 52)).alloc (.cells #[.int .i64 2, .int .i64 5, .int .i64 70] 3)).heap[w.heap.size + 1]? = some (.cells #[.int .i64 2, .int .i64 5, .int .i64 70] 3 (0, 0))) := hid (heap_alloc2_new w _ _)
  clear bl
  generalize hQ : (fun (e : Ending) (w' : World) => ∃ B st, e = .returned (.tuple #[.pointer (some ⟨B, 0, none⟩), .bool true]) ∧ Wh w w' B [] st ∧ Re st) = Q
  have HQ := hid hQ
  clear hQ
  go_enter Tryd.func15, Tryd.ntmps15
  go_wp2_with fail
  go_loopw [11] (fun i wr => ∃ k : Nat, k ≤ 3 ∧ i = .int .i64 k ∧ Hid (∃ st, Wh w wr w.heap.size [] st ∧ Re st) ∧ Hid (wr.heap[w.heap.size + 1]? = some (.cells #[.int .i64 2, .int .i64 5, .int .i64 70] 3 (0, 0)))) (fun i _ => 3 - (intOf i).toNat)
  case atStart => exact ⟨0, Nat.zero_le _, rfl, hid ⟨st0, W0.out, re0⟩, LB⟩
  case round =>
    clear W0 LB
    obtain ⟨k, hk, rfl, HS, HL⟩ := hrel
    obtain ⟨st, HWs, HRs⟩ := HS.out
    have HW := hid HWs
    have HR := hid HRs
    clear HS HWs HRs
    by_cases hlt : k < 3
    · have lc : wr.cell? ⟨w.heap.size + 1, k, none⟩ = some (.int .i64 (mst k : Int)) := by
        rw [cell_of_row wr _ _ _ _ _ HL.out]
        have : k = 0 ∨ k = 1 ∨ k = 2 := by omega
        rcases this with rfl | rfl | rfl <;> rfl
      have mle := mst_le k
      have NW := hid (fun W => new_any (mst k) W mle)
      have RN := hid (fun W => rnew_any (mst k : Int) W)
      have en : newD (mst k : Int) = .tuple #[.agg #[.int .i64 (mst k : Int), .slice none 0 0], .int .i64 0] := if_neg (by omega)
      rw [en] at RN
      have hk4 : k < 4 := by omega
      have hk4' : (k : Int) < 4 := by omega
      clear en
      generalize mst k = ot at *
      go_wp2_with fail
      refine (NW.out _).mono ?_
      rintro e w2 ⟨p, F, rfl, T, hF, hb⟩
      have W2 := hid (HW.out.low hb)
      have L2 := hid ((hb.block _ (lt_of_block HL.out)).trans HL.out)
      have TT := hid T
      have HF := hid hF
      have HD : Hid (∀ j, j < 4 → ∀ q ∈ F, q ∉ (st j).F) := hid (fun j hj q hq c => by have := (HW.out.tq j hj).lt q c; have := HF.out q hq; omega)
      clear lc hb T hF
      obtain ⟨k0, k1, k2⟩ := W2.out.cells hk4
      have x0 := W2.out.fz k
      have x1 := W2.out.fz (4 + k * 2)
      have x2 := W2.out.fz (4 + k * 2 + 1)
      generalize (st k).pv = pv0 at *
      generalize (st k).mo = mo0 at *
      generalize (st k).v = vv0 at *
      go_wp2_with fail
      have W3 := hid (W2.out.setT hk4 (Or.inr ⟨p, rfl, TT.out⟩) HD.out (fun q hq => Or.inl (Nat.le_trans HW.out.lo.size (HF.out q hq))))
      have L3 : Hid ((w2.setCell ⟨w.heap.size, k, none⟩ (.pointer (some ⟨p, 0, none⟩))).heap[w.heap.size + 1]? = some (.cells #[.int .i64 2, .int .i64 5, .int .i64 70] 3 (0, 0))) := hid ((set_other _ _ (by omega)).trans L2.out)
      clear k0 k1 k2 x0 x1 x2 TT HF HD W2 L2 NW HW
      generalize w2.setCell ⟨w.heap.size, k, none⟩ (.pointer (some ⟨p, 0, none⟩)) = Y at *
      go_region_held3 (fun _ => True)
        (exact trivial)
        (first
          | (go_at_call 27; refine (RN.out _).mono ?_; rintro e w4 ⟨rfl, hb⟩
             have W4 := hid (W3.out.low (belowU hb))
             have L4 := hid ((hb.block _ (show w.heap.size + 1 < Y.drew.heap.size from lt_of_block L3.out)).trans L3.out)
             obtain ⟨k0, k1, k2⟩ := W4.out.cells hk4
             have x1 := W4.out.fz (4 + k * 2)
             have x2 := W4.out.fz (4 + k * 2 + 1)
             clear hb))
      go_wp2_with fail
      have W5 := hid (W4.out.setM hk4 (mo' := (ot : Int)) (v' := .slice none 0 0) (d' := []) ⟨rfl, Or.inl ⟨rfl, rfl⟩⟩)
      refine ⟨⟨k + 1, by omega, by go_num, hid ⟨_, W5.out, ?_⟩, hid ?_⟩, by simp [intOf]; omega⟩
      · rw [upd_twice, upd_same]
        exact HR.out.upd (i := k) Rel.nil (Or.inr rfl)
      · rw [set_other _ _ (by omega), set_other _ _ (by omega)]
        exact L4.out
    · obtain rfl : k = 3 := by omega
      go_wp2_with fail
      rw [← HQ.out]
      exact ⟨_, st, rfl, HW.out, HR.out⟩
end Go.Proofs.YtdhjoimiejdgbabDoor.L
