import Derived.Test.YtkagdmhijjfnnabDoorWith
import Derived.Lib.SliceRun
namespace Go.Proofs.YtkagdmhijjfnnabDoor
open Go.RowKit Bs
/-- m words from o on are 0. -/
def clr : Nat → Nat → List Nat → List Nat
  | _, 0, ws => ws
  | o, m + 1, ws => clr (o + 1) m (ws.set o 0)
theorem length_clr : ∀ (m o : Nat) (ws : List Nat), (clr o m ws).length = ws.length
  | 0, _, _ => rfl
  | m + 1, o, ws => by rw [clr, length_clr m]; simp
theorem getD_clr : ∀ (m o : Nat) (ws : List Nat) (i : Nat), (clr o m ws).getD i 0 = if o ≤ i ∧ i < o + m then 0 else ws.getD i 0
  | 0, o, ws, i => by rw [clr, if_neg (by omega)]
  | m + 1, o, ws, i => by
    rw [clr, getD_clr m]
    by_cases h : i = o
    · subst h
      rw [if_neg (by omega), if_pos (by omega)]
      rw [List.getD_eq_getElem?_getD, List.getElem?_set]
      by_cases hl : i < ws.length
      · simp [hl]
      · simp [hl]
    · have e : (ws.set o 0).getD i 0 = ws.getD i 0 := by
        rw [List.getD_eq_getElem?_getD, List.getD_eq_getElem?_getD, List.getElem?_set, if_neg (by omega)]
      rw [e]
      by_cases c : o + 1 ≤ i ∧ i < o + 1 + m
      · rw [if_pos c, if_pos (by omega)]
      · rw [if_neg c, if_neg (by omega)]
theorem list_ext_getD (a b : List Nat) (hl : a.length = b.length) (h : ∀ i, i < a.length → a.getD i 0 = b.getD i 0) : a = b := by
  apply List.ext_getElem hl
  intro i h1 h2
  have := h i h1
  simpa [List.getElem?_eq_getElem h1, List.getElem?_eq_getElem h2] using this
theorem clr_heap : ∀ (m o : Nat) (w : World) (q : Nat) (ws : List Nat), w.heap[q]? = some (.cells (row ws) 56 (0, 0)) →
    (w.setCells q o (List.replicate m (.int .u64 0))).heap[q]? = some (.cells (row (clr o m ws)) 56 (0, 0)) ∧ Chg q w (w.setCells q o (List.replicate m (.int .u64 0)))
  | 0, _, w, q, ws, h => ⟨h, Chg.refl _ _⟩
  | m + 1, o, w, q, ws, h => by
    rw [List.replicate_succ, World.setCells]
    have h1 : (w.setCell ⟨q, o, none⟩ (.int .u64 0)).heap[q]? = some (.cells (row (ws.set o 0)) 56 (0, 0)) := by
      rw [heap_setCell_same w q o _ _ _ h, ← row_set]; rfl
    obtain ⟨a, b⟩ := clr_heap m (o + 1) _ q _ h1
    exact ⟨a, Chg.trans (Chg.setCell o _) b⟩
theorem clear_none (q m : Nat) (hm : m = 0) (w : World) : (Builtin.clear_ #[36] 0 #[.slice (some ⟨q, 0, none⟩) m m]).run Tryd.prog w = .ok (.tuple #[]) w := by
  subst hm
  simp [Builtin.clear_, run_underlying Tryd.underlying36]
theorem clr_and (k : Nat) (ws vs : List Nat) (hk : k = min ws.length vs.length) : clr k (ws.length - k) (part (· &&& ·) k ws vs) = opW (· &&& ·) ws vs := by
  apply list_ext_getD
  · rw [length_clr, length_part, length_opW]
  · intro i hi
    rw [length_clr, length_part] at hi
    rw [getD_clr, getD_opW, if_pos hi]
    split
    · rename_i h
      rw [show vs.getD i 0 = 0 by rw [List.getD_eq_getElem?_getD, List.getElem?_eq_none (by omega)]; rfl]
      simp
    · rename_i h
      have hik : i < k := by omega
      unfold part
      rw [List.getD_eq_getElem?_getD, List.getElem?_mapIdx, List.getElem?_eq_getElem hi]
      simp [hik, List.getElem?_eq_getElem hi]
theorem zero59 (w : World) : (zeroValue 56).run Tryd.prog w = .ok (.int .u64 0) w := by kernel_rfl
theorem clear_row {wr : World} {q : Nat} {us : List Nat} (hrow : wr.heap[q]? = some (.cells (row us) 56 (0, 0))) {k : Nat} (hk : k < us.length) (ty : TypeId) (c : Nat) :
    (Builtin.clear_ #[36] ty #[.slice (some ⟨q, k, none⟩) (us.length - k) c]).run Tryd.prog wr = .ok (.tuple #[]) (wr.setCells q k (List.replicate (us.length - k) (.int .u64 0))) :=
  Lib.run_clear_slice wr 36 56 ty (.int .u64 0) Tryd.underlying36 zero59 rfl rfl q k (us.length - k) c (by omega)
    (fun j hj => by rw [cell_of_row wr q (k + j) _ _ _ hrow, row_get us (k + j) (by omega)]; rfl) (fun j _ => frozen_of_row wr q (k + j) _ _ hrow)
set_option maxRecDepth 100000 in
set_option maxHeartbeats 1000000 in
/-- AndWith: the walk, at the words. -/
theorem andwith_core (p q n p' q' n' : Nat) (ws vs : List Nat) (w : World) (h : IsSet w p q n ws) (h' : IsSet w p' q' n' vs) (hq : q = q' → ws = vs) :
    Calls Tryd.prog 18 #[.pointer (some ⟨p, 0, none⟩), .pointer (some ⟨p', 0, none⟩)] w fun e w' => e = .returned (.tuple #[]) ∧ Chg q w w' ∧ w'.heap[q]? = some (.cells (row (opW (· &&& ·) ws vs)) 56 (0, 0)) := by
  have hc1 := h.c1
  have hd1 := h'.c1
  obtain ⟨M, hM⟩ : ∃ M, M = min ws.length vs.length := ⟨_, rfl⟩
  have hmin : min (ws.length : Int) (vs.length : Int) = (M : Int) := by omega
  have HI : Hid (IsSet w p q n ws) := h
  have HI' : Hid (IsSet w p' q' n' vs) := h'
  have hle := h.len
  have HQ : Hid (q = q' → ws = vs) := hq
  have HM : Hid (M = min ws.length vs.length) := hM
  have hM1 : M ≤ ws.length := by omega
  have hM2 : M ≤ vs.length := by omega
  clear h h' hq hM
  go_enter Tryd.func18, Tryd.ntmps18
  go_wp2_with (first | (go_at_call_of 51 p; refine (list_cell p _ _ _ _ hc1).mono ?_; rintro e w' ⟨rfl, rfl⟩) | (go_at_call_of 51 p'; refine (list_cell p' _ _ _ _ hd1).mono ?_; rintro e w' ⟨rfl, rfl⟩))
  go_loopw [18] (fun i wr => ∃ k : Nat, k ≤ M ∧ i = .int .i64 k ∧ Chg q w' wr ∧ wr.heap[q]? = some (.cells (row (part (· &&& ·) k ws vs)) 56 (0, 0))) (fun i _ => M - (intOf i).toNat)
  case atStart => exact ⟨0, Nat.zero_le _, rfl, Chg.refl _ _, by rw [part_zero]; exact HI.out.hq⟩
  case round =>
    obtain ⟨k, hk, rfl, hg, hrow⟩ := hrel
    by_cases hlt : k < M
    · have hi1 : k < ws.length := by omega
      have hi2 : k < vs.length := by omega
      have hx := cell_part hrow hi1
      have hy := other_part HI'.out HQ.out hg hrow hi1 hi2
      have hfz := frozen_of_row _ q k _ _ hrow
      have hxb := HI.out.wd.getD k
      have hyb := HI'.out.wd.getD k
      have HG := hid hg
      have HR := hid hrow
      obtain ⟨x, hxe⟩ : ∃ x, x = ws.getD k 0 := ⟨_, rfl⟩
      obtain ⟨y, hye⟩ : ∃ y, y = vs.getD k 0 := ⟨_, rfl⟩
      rw [← hxe] at hx hxb
      rw [← hye] at hy hyb
      have HX : Hid (x = ws.getD k 0) := hxe
      have HY : Hid (y = vs.getD k 0) := hye
      have HXB : Hid (x < 18446744073709551616) := hxb
      have HYB : Hid (y < 18446744073709551616) := hyb
      clear hg hrow hxe hye hxb hyb
      go_wp2
      go_region
      go_wp2
      go_roundw
      case rel =>
        exact ⟨k + 1, by omega, by go_num, HG.out.trans (Chg.drewSet1 _ _), round_part HR.out hi1 HX.out HY.out (u64_and_nat x y HXB.out HYB.out)⟩
      case measure => simp [intOf]; omega
    · have e : k = M := by omega
      subst e
      by_cases hfull : k < ws.length
      · have hcl := clear_row hrow (k := k) (by rw [length_part]; omega)
        rw [length_part] at hcl
        have HG := hid hg
        have HR := hid hrow
        clear hg hrow hk hmin
        go_wp2_with fail
        go_end0
        obtain ⟨a, b⟩ := clr_heap (ws.length - k) k _ q _ HR.out
        rw [clr_and k ws vs HM.out] at a
        exact ⟨rfl, HG.out.trans b, a⟩
      · have e : k = ws.length := by omega
        have hr : part (· &&& ·) k ws vs = opW (· &&& ·) ws vs := by
          rw [← clr_and k ws vs HM.out, e, Nat.sub_self]; rfl
        rw [hr] at hrow
        have HG := hid hg
        have HR := hid hrow
        have hcl := clear_none q (ws.length - k) (by omega)
        clear hg hrow hk hmin hr e
        go_wp2_with fail
        all_goals go_end0
        all_goals exact ⟨rfl, HG.out, HR.out⟩
end Go.Proofs.YtkagdmhijjfnnabDoor
