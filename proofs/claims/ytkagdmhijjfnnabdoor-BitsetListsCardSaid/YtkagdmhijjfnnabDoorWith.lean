import Derived.Test.YtkagdmhijjfnnabDoorWiden
namespace Go.Proofs.YtkagdmhijjfnnabDoor
open Go.RowKit Bs
/-- The first k words done. -/
def part (f : Nat → Nat → Nat) (k : Nat) (ws vs : List Nat) : List Nat := ws.mapIdx fun i x => if i < k then f x (vs.getD i 0) else x
theorem length_part (f : Nat → Nat → Nat) (k : Nat) (ws vs : List Nat) : (part f k ws vs).length = ws.length := by simp [part]
theorem part_zero (f : Nat → Nat → Nat) (ws vs : List Nat) : part f 0 ws vs = ws := by
  unfold part; apply List.ext_getElem <;> simp
theorem part_getD (f : Nat → Nat → Nat) (k : Nat) (ws vs : List Nat) (i : Nat) (hi : i < ws.length) (hk : k ≤ i) : (part f k ws vs).getD i 0 = ws.getD i 0 := by
  unfold part
  rw [List.getD_eq_getElem?_getD, List.getElem?_mapIdx, List.getElem?_eq_getElem hi]
  simp [List.getElem?_eq_getElem hi, Nat.not_lt.2 hk]
theorem part_succ (f : Nat → Nat → Nat) (k : Nat) (ws vs : List Nat) (hk : k < ws.length) : (part f k ws vs).set k (f (ws.getD k 0) (vs.getD k 0)) = part f (k + 1) ws vs := by
  unfold part
  apply List.ext_getElem
  · simp
  · intro i h1 h2
    simp only [List.getElem_set, List.getElem_mapIdx]
    by_cases e : k = i
    · subst e
      simp [List.getElem?_eq_getElem hk]
    · by_cases hlt : i < k
      · simp [e, hlt, show i < k + 1 by omega]
      · simp [e, hlt, show ¬ i < k + 1 by omega]
theorem part_all (f : Nat → Nat → Nat) (k : Nat) (ws vs : List Nat) (hk : k = min ws.length vs.length) (h0 : ∀ x ∈ ws, f x 0 = x) : part f k ws vs = opW f ws vs := by
  unfold part opW
  apply List.ext_getElem
  · simp
  · intro i h1 h2
    simp only [List.getElem_mapIdx]
    simp at h1
    split
    · rfl
    · rename_i h
      rw [show vs.getD i 0 = 0 by rw [List.getD_eq_getElem?_getD, List.getElem?_eq_none (by omega)]; rfl, h0 _ (List.getElem_mem _)]
theorem anot_num (x y : Nat) (hx : x < 18446744073709551616) (hy : y < 18446744073709551616) : bits .andNot .u64 (x : Int) (y : Int) = ((anot x y : Nat) : Int) := u64_andNot_nat x y hx hy

theorem anot_zero (x : Nat) (hx : x < 18446744073709551616) : anot x 0 = x := by
  unfold anot
  have := Nat.and_two_pow_sub_one_of_lt_two_pow (n := 64) hx
  simpa using this
theorem hid {p : Prop} (h : p) : Hid p := h
theorem Chg.drewSet1 {a : Nat} {w : World} (o : Nat) (v : Value) : Chg a w (w.drew.setCell ⟨a, o, none⟩ v) := Chg.drewSet 1 o v
theorem cell_part {f : Nat → Nat → Nat} {wr : World} {q k : Nat} {ws vs : List Nat} (hrow : wr.heap[q]? = some (.cells (row (part f k ws vs)) 56 (0, 0))) (hk : k < ws.length) : wr.cell? ⟨q, k, none⟩ = some (.int .u64 ((ws.getD k 0 : Nat) : Int)) := by
  rw [cell_of_row wr q k _ _ _ hrow, row_get _ _ (by rw [length_part]; exact hk), part_getD f k ws vs k hk (Nat.le_refl _)]
theorem other_part {f : Nat → Nat → Nat} {w wr : World} {q p' q' n' k : Nat} {ws vs : List Nat} (h' : IsSet w p' q' n' vs) (hq : q = q' → ws = vs) (hg : Chg q w wr)
    (hrow : wr.heap[q]? = some (.cells (row (part f k ws vs)) 56 (0, 0))) (h1 : k < ws.length) (h2 : k < vs.length) : wr.cell? ⟨q', k, none⟩ = some (.int .u64 ((vs.getD k 0 : Nat) : Int)) := by
  by_cases e : q = q'
  · have := hq e
    subst this; subst e
    exact cell_part hrow h1
  · rw [hg.cell (p := ⟨q', k, none⟩) (fun c => e c.symm) h'.qlt]
    exact h'.cw k h2
theorem round_part {f : Nat → Nat → Nat} {wr : World} {q k x y : Nat} {z : Int} {ws vs : List Nat} (hrow : wr.heap[q]? = some (.cells (row (part f k ws vs)) 56 (0, 0))) (hk : k < ws.length)
    (hx : x = ws.getD k 0) (hy : y = vs.getD k 0) (hz : z = ((f x y : Nat) : Int)) : (wr.setCell ⟨q, k, none⟩ (.int .u64 z)).drew.heap[q]? = some (.cells (row (part f (k + 1) ws vs)) 56 (0, 0)) := by
  show (wr.setCell ⟨q, k, none⟩ (.int .u64 z)).heap[q]? = _
  rw [heap_setCell_same wr q k _ _ _ hrow, hz, row_set, hx, hy, part_succ f k ws vs hk]
set_option maxHeartbeats 1000000 in
/-- AndNotWith: the walk, at the words. -/
theorem andnotwith_core (p q n p' q' n' : Nat) (ws vs : List Nat) (w : World) (h : IsSet w p q n ws) (h' : IsSet w p' q' n' vs) (hq : q = q' → ws = vs) :
    Calls Tryd.prog 20 #[.pointer (some ⟨p, 0, none⟩), .pointer (some ⟨p', 0, none⟩)] w fun e w' => e = .returned (.tuple #[]) ∧ Chg q w w' ∧ w'.heap[q]? = some (.cells (row (opW anot ws vs)) 56 (0, 0)) := by
  have hc1 := h.c1
  have hd1 := h'.c1
  obtain ⟨M, hM⟩ : ∃ M, M = min ws.length vs.length := ⟨_, rfl⟩
  have hmin : min (ws.length : Int) (vs.length : Int) = (M : Int) := by omega
  have HI : Hid (IsSet w p q n ws) := h
  have HI' : Hid (IsSet w p' q' n' vs) := h'
  have hle := h.len
  have HQ : Hid (q = q' → ws = vs) := hq
  have HM : Hid (M = min ws.length vs.length) := hM
  have hM1 : M ≤ ws.length := by omega
  have hM2 : M ≤ vs.length := by omega
  clear h h' hq hM
  go_enter Tryd.func20, Tryd.ntmps20
  go_wp2_with (first | (go_at_call_of 51 p; refine (list_cell p _ _ _ _ hc1).mono ?_; rintro e w' ⟨rfl, rfl⟩) | (go_at_call_of 51 p'; refine (list_cell p' _ _ _ _ hd1).mono ?_; rintro e w' ⟨rfl, rfl⟩))
  go_loopw [16] (fun i wr => ∃ k : Nat, k ≤ M ∧ i = .int .i64 k ∧ Chg q w' wr ∧ wr.heap[q]? = some (.cells (row (part anot k ws vs)) 56 (0, 0))) (fun i _ => M - (intOf i).toNat)
  case atStart => exact ⟨0, Nat.zero_le _, rfl, Chg.refl _ _, by rw [part_zero]; exact HI.out.hq⟩
  case round =>
    obtain ⟨k, hk, rfl, hg, hrow⟩ := hrel
    by_cases hlt : k < M
    · have hi1 : k < ws.length := by omega
      have hi2 : k < vs.length := by omega
      have hx := cell_part hrow hi1
      have hy := other_part HI'.out HQ.out hg hrow hi1 hi2
      have hfz := frozen_of_row _ q k _ _ hrow
      have hxb := HI.out.wd.getD k
      have hyb := HI'.out.wd.getD k
      have HG := hid hg
      have HR := hid hrow
      obtain ⟨x, hxe⟩ : ∃ x, x = ws.getD k 0 := ⟨_, rfl⟩
      obtain ⟨y, hye⟩ : ∃ y, y = vs.getD k 0 := ⟨_, rfl⟩
      rw [← hxe] at hx hxb
      rw [← hye] at hy hyb
      have HX : Hid (x = ws.getD k 0) := hxe
      have HY : Hid (y = vs.getD k 0) := hye
      have HXB : Hid (x < 18446744073709551616) := hxb
      have HYB : Hid (y < 18446744073709551616) := hyb
      clear hg hrow hxe hye hxb hyb
      go_wp2
      go_region
      go_wp2
      go_roundw
      case rel =>
        exact ⟨k + 1, by omega, by go_num, HG.out.trans (Chg.drewSet1 _ _), round_part HR.out hi1 HX.out HY.out (anot_num x y HXB.out HYB.out)⟩
      case measure => simp [intOf]; omega
    · have e : k = M := by omega
      subst e
      rw [part_all anot k ws vs HM.out (fun x hx => anot_zero x (HI.out.wd x hx))] at hrow
      go_wp2
      go_end0
      exact ⟨rfl, hg, hrow⟩
end Go.Proofs.YtkagdmhijjfnnabDoor
