import Derived.Test.YtkagdmhijjfnnabDoorAwake
namespace Go.Proofs.YtkagdmhijjfnnabDoor
open Go.RowKit Bs
set_option maxHeartbeats 1000000 in
theorem all_any (b L cap : Nat) (f : Nat → Addr) (w : World) (hL : L ≤ 1000) (hc : ∀ j, j < L → w.cell? ⟨b, j, none⟩ = some (.pointer (some (f j)))) :
    Calls Tryd.prog 32 #[.slice (some ⟨b, 0, none⟩) L cap] w fun e w' => e = .returned (.bool true) ∧ w' = w := by
  have HC := hid hc
  clear hc
  go_enter Tryd.func32, Tryd.ntmps32
  go_wp2
  go_loop [3] (fun i => ∃ k : Nat, k ≤ L ∧ i = .int .i64 k) (fun i => L - (intOf i).toNat)
  case atStart => exact ⟨0, Nat.zero_le _, rfl⟩
  case round =>
    obtain ⟨k, hk, rfl⟩ := hrel
    by_cases hlt : k < L
    · have hx := HC.out k hlt
      obtain ⟨a, ha⟩ : ∃ a, a = f k := ⟨_, rfl⟩
      rw [← ha] at hx
      clear ha
      go_wp2
      go_round
      case rel => exact ⟨k + 1, by omega, by go_num⟩
      case measure => simp [intOf]; omega
    · go_wp2
      go_ret
      exact ⟨rfl, rfl⟩
set_option maxRecDepth 100000 in
set_option maxHeartbeats 1000000 in
theorem grow_any {p q n : Nat} {S : Nat → Bool} (m : Nat) (w : World) (h : SetAt w p q n S) (hm : m ≤ 65536) (hnm : n ≤ m) :
    Calls Tryd.prog 17 #[.pointer (some ⟨p, 0, none⟩), .int .i64 m] w fun e w' => e = .returned (.int .i64 0) ∧ SetAt w' p w.heap.size m S ∧ Chg p w w' := by
  have HI := hid h
  have hc0 := h.c0
  have hlt := h.plt
  have hm' : (m : Int) ≤ 65536 := by omega
  have hm0 : 0 ≤ (m : Int) := by omega
  have hnm' : (n : Int) ≤ m := by omega
  clear h
  go_enter Tryd.func17, Tryd.ntmps17
  go_wp2_with fail
  refine (valid_yes _ _ hm0 hm').mono ?_
  rintro e w1 ⟨rfl, hww⟩
  subst hww
  go_wp2_with fail
  refine (widened_set m _ HI.out hm).mono ?_
  rintro e w2 ⟨rfl, hs, hb⟩
  rw [Nat.max_eq_right hnm] at hs
  obtain ⟨ws, x, hx⟩ := hs
  have hd0 := x.c0
  have hd1 := x.c1
  have hcp := HI.out
  obtain ⟨us, y, hy⟩ := hcp
  have y2 := y.low hb
  have e0 := y2.c0
  have e1 := y2.c1
  have f0 : w2.frozen? ⟨p, 0, none⟩ = false := frozen_of_row _ _ _ _ _ y2.hp
  have f1 : w2.frozen? ⟨p, 1, none⟩ = false := frozen_of_row _ _ _ _ _ y2.hp
  have HX := hid x
  have HXX := hid hx
  have HB := hid hb
  have HY := hid y2
  clear x hx y hy y2 hb
  go_wp2_with fail
  go_ret
  have hg : Chg p w2 ((w2.setCell ⟨p, 0, none⟩ (.int .i64 m)).setCell ⟨p, 1, none⟩ (.slice (some ⟨w1.heap.size, 0, none⟩) ws.length ws.length)) := (Chg.setCell 0 _).trans (Chg.setCell 1 _)
  have hpq : w1.heap.size ≠ p := by omega
  refine ⟨rfl, ⟨ws, ⟨?_, (hg.block _ HX.out.qlt hpq).trans HX.out.hq, by omega, HX.out.hn, HX.out.hl, HX.out.wd, HX.out.cl⟩, HXX.out⟩, (Chg.of HB.out).trans hg⟩
  rw [heap_setCell_same _ p 1 _ 58 _ (heap_setCell_same _ p 0 _ _ _ HY.out.hp)]
  rfl
end Go.Proofs.YtkagdmhijjfnnabDoor
