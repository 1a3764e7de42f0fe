import Derived.Test.YtkagdmhijjfnnabDoorCut
namespace Go.Proofs.YtkagdmhijjfnnabDoor
open Go.RowKit Bs
set_option maxRecDepth 100000 in
set_option maxHeartbeats 1000000 in
/-- OrWith: the walk, at the words. -/
theorem orwith_core (p q n p' q' n' : Nat) (ws vs : List Nat) (w : World) (h : IsSet w p q n ws) (h' : IsSet w p' q' n' vs) (hq : q = q' → ws = vs) :
    Calls Tryd.prog 19 #[.pointer (some ⟨p, 0, none⟩), .pointer (some ⟨p', 0, none⟩)] w fun e w' => e = .returned (.tuple #[]) ∧ Chg q w w' ∧ w'.heap[q]? = some (.cells (row (cutW n (opW (· ||| ·) ws vs))) 56 (0, 0)) := by
  have hc1 := h.c1
  have hd1 := h'.c1
  obtain ⟨M, hM⟩ : ∃ M, M = min ws.length vs.length := ⟨_, rfl⟩
  have hmin : min (ws.length : Int) (vs.length : Int) = (M : Int) := by omega
  have HI : Hid (IsSet w p q n ws) := h
  have HI' : Hid (IsSet w p' q' n' vs) := h'
  have hle := h.len
  have HQ : Hid (q = q' → ws = vs) := hq
  have HM : Hid (M = min ws.length vs.length) := hM
  have hM1 : M ≤ ws.length := by omega
  have hM2 : M ≤ vs.length := by omega
  clear h h' hq hM
  go_enter Tryd.func19, Tryd.ntmps19
  go_wp2_with (first | (go_at_call_of 51 p; refine (list_cell p _ _ _ _ hc1).mono ?_; rintro e w' ⟨rfl, rfl⟩) | (go_at_call_of 51 p'; refine (list_cell p' _ _ _ _ hd1).mono ?_; rintro e w' ⟨rfl, rfl⟩))
  go_loopw [16] (fun i wr => ∃ k : Nat, k ≤ M ∧ i = .int .i64 k ∧ Chg q w' wr ∧ wr.heap[q]? = some (.cells (row (part (· ||| ·) k ws vs)) 56 (0, 0))) (fun i _ => M - (intOf i).toNat)
  case atStart => exact ⟨0, Nat.zero_le _, rfl, Chg.refl _ _, by rw [part_zero]; exact HI.out.hq⟩
  case round =>
    obtain ⟨k, hk, rfl, hg, hrow⟩ := hrel
    by_cases hlt : k < M
    · have hi1 : k < ws.length := by omega
      have hi2 : k < vs.length := by omega
      have hx := cell_part hrow hi1
      have hy := other_part HI'.out HQ.out hg hrow hi1 hi2
      have hfz := frozen_of_row _ q k _ _ hrow
      have hxb := HI.out.wd.getD k
      have hyb := HI'.out.wd.getD k
      have HG := hid hg
      have HR := hid hrow
      obtain ⟨x, hxe⟩ : ∃ x, x = ws.getD k 0 := ⟨_, rfl⟩
      obtain ⟨y, hye⟩ : ∃ y, y = vs.getD k 0 := ⟨_, rfl⟩
      rw [← hxe] at hx hxb
      rw [← hye] at hy hyb
      have HX : Hid (x = ws.getD k 0) := hxe
      have HY : Hid (y = vs.getD k 0) := hye
      have HXB : Hid (x < 18446744073709551616) := hxb
      have HYB : Hid (y < 18446744073709551616) := hyb
      clear hg hrow hxe hye hxb hyb
      go_wp2
      go_region
      go_wp2
      go_roundw
      case rel =>
        exact ⟨k + 1, by omega, by go_num, HG.out.trans (Chg.drewSet1 _ _), round_part HR.out hi1 HX.out HY.out (u64_or_nat x y HXB.out HYB.out)⟩
      case measure => simp [intOf]; omega
    · have e : k = M := by omega
      subst e
      rw [part_all (· ||| ·) k ws vs HM.out (fun x _ => Nat.or_zero x)] at hrow
      have hc0r := (hg.cell (p := ⟨p, 0, none⟩) HI.out.ne HI.out.plt).trans HI.out.c0
      have hc1r := (hg.cell (p := ⟨p, 1, none⟩) HI.out.ne HI.out.plt).trans hc1
      have HCUT := hid (cut_any p q n (opW (· ||| ·) ws vs) wr hc0r (by rw [length_opW]; exact hc1r) hrow HI.out.hn (by rw [length_opW]; exact HI.out.hl) (HI.out.wd.opW HI'.out.wd or_lt))
      have HG := hid hg
      have HR := hid hrow
      clear hg hrow hk hmin
      go_wp2_with (go_at_call 54; refine HCUT.out.mono ?_; rintro e w2 ⟨rfl, hg2, hr2⟩)
      go_end0
      exact ⟨rfl, HG.out.trans hg2, hr2⟩
end Go.Proofs.YtkagdmhijjfnnabDoor
