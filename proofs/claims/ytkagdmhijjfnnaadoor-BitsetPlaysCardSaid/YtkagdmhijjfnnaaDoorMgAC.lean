import Derived.Test.YtkagdmhijjfnnaaDoorMgAB
import Derived.Lib.SliceRun
namespace Go.Proofs.YtkagdmhijjfnnaaDoor
open Go.RowKit Bs
/-- The first k words done. -/
def part (f : Nat → Nat → Nat) (k : Nat) (ws vs : List Nat) : List Nat := ws.mapIdx fun i x => if i < k then f x (vs.getD i 0) else x
theorem length_part (f : Nat → Nat → Nat) (k : Nat) (ws vs : List Nat) : (part f k ws vs).length = ws.length := by simp [part]
theorem part_zero (f : Nat → Nat → Nat) (ws vs : List Nat) : part f 0 ws vs = ws := by
  unfold part; apply List.ext_getElem <;> simp
theorem part_getD (f : Nat → Nat → Nat) (k : Nat) (ws vs : List Nat) (i : Nat) (hi : i < ws.length) (hk : k ≤ i) : (part f k ws vs).getD i 0 = ws.getD i 0 := by
  unfold part
  rw [List.getD_eq_getElem?_getD, List.getElem?_mapIdx, List.getElem?_eq_getElem hi]
  simp [List.getElem?_eq_getElem hi, Nat.not_lt.2 hk]
theorem part_succ (f : Nat → Nat → Nat) (k : Nat) (ws vs : List Nat) (hk : k < ws.length) : (part f k ws vs).set k (f (ws.getD k 0) (vs.getD k 0)) = part f (k + 1) ws vs := by
  unfold part
  apply List.ext_getElem
  · simp
  · intro i h1 h2
    simp only [List.getElem_set, List.getElem_mapIdx]
    by_cases e : k = i
    · subst e
      simp [List.getElem?_eq_getElem hk]
    · by_cases hlt : i < k
      · simp [e, hlt, show i < k + 1 by omega]
      · simp [e, hlt, show ¬ i < k + 1 by omega]
theorem part_all (f : Nat → Nat → Nat) (k : Nat) (ws vs : List Nat) (hk : k = min ws.length vs.length) (h0 : ∀ x ∈ ws, f x 0 = x) : part f k ws vs = opW f ws vs := by
  unfold part opW
  apply List.ext_getElem
  · simp
  · intro i h1 h2
    simp only [List.getElem_mapIdx]
    simp at h1
    split
    · rfl
    · rename_i h
      rw [show vs.getD i 0 = 0 by rw [List.getD_eq_getElem?_getD, List.getElem?_eq_none (by omega)]; rfl, h0 _ (List.getElem_mem _)]
theorem anot_num (x y : Nat) (hx : x < 18446744073709551616) (hy : y < 18446744073709551616) : bits .andNot .u64 (x : Int) (y : Int) = ((anot x y : Nat) : Int) := u64_andNot_nat x y hx hy

theorem anot_zero (x : Nat) (hx : x < 18446744073709551616) : anot x 0 = x := by
  unfold anot
  have := Nat.and_two_pow_sub_one_of_lt_two_pow (n := 64) hx
  simpa using this
theorem hid {p : Prop} (h : p) : Hid p := h
theorem Chg.drewSet1 {a : Nat} {w : World} (o : Nat) (v : Value) : Chg a w (w.drew.setCell ⟨a, o, none⟩ v) := Chg.drewSet 1 o v
theorem cell_part {f : Nat → Nat → Nat} {wr : World} {q k : Nat} {ws vs : List Nat} (hrow : wr.heap[q]? = some (.cells (row (part f k ws vs)) 59 (0, 0))) (hk : k < ws.length) : wr.cell? ⟨q, k, none⟩ = some (.int .u64 ((ws.getD k 0 : Nat) : Int)) := by
  rw [cell_of_row wr q k _ _ _ hrow, row_get _ _ (by rw [length_part]; exact hk), part_getD f k ws vs k hk (Nat.le_refl _)]
theorem other_part {f : Nat → Nat → Nat} {w wr : World} {q p' q' n' k : Nat} {ws vs : List Nat} (h' : IsSet w p' q' n' vs) (hq : q = q' → ws = vs) (hg : Chg q w wr)
    (hrow : wr.heap[q]? = some (.cells (row (part f k ws vs)) 59 (0, 0))) (h1 : k < ws.length) (h2 : k < vs.length) : wr.cell? ⟨q', k, none⟩ = some (.int .u64 ((vs.getD k 0 : Nat) : Int)) := by
  by_cases e : q = q'
  · have := hq e
    subst this; subst e
    exact cell_part hrow h1
  · rw [hg.cell (p := ⟨q', k, none⟩) (fun c => e c.symm) h'.qlt]
    exact h'.cw k h2
theorem round_part {f : Nat → Nat → Nat} {wr : World} {q k x y : Nat} {z : Int} {ws vs : List Nat} (hrow : wr.heap[q]? = some (.cells (row (part f k ws vs)) 59 (0, 0))) (hk : k < ws.length)
    (hx : x = ws.getD k 0) (hy : y = vs.getD k 0) (hz : z = ((f x y : Nat) : Int)) : (wr.setCell ⟨q, k, none⟩ (.int .u64 z)).drew.heap[q]? = some (.cells (row (part f (k + 1) ws vs)) 59 (0, 0)) := by
  show (wr.setCell ⟨q, k, none⟩ (.int .u64 z)).heap[q]? = _
  rw [heap_setCell_same wr q k _ _ _ hrow, hz, row_set, hx, hy, part_succ f k ws vs hk]
set_option maxHeartbeats 1000000 in
/-- AndNotWith: the walk, at the words. -/
theorem andnotwith_core (p q n p' q' n' : Nat) (ws vs : List Nat) (w : World) (h : IsSet w p q n ws) (h' : IsSet w p' q' n' vs) (hq : q = q' → ws = vs) :
    Calls Tryd.prog 41 #[.pointer (some ⟨p, 0, none⟩), .pointer (some ⟨p', 0, none⟩)] w fun e w' => e = .returned (.tuple #[]) ∧ Chg q w w' ∧ w'.heap[q]? = some (.cells (row (opW anot ws vs)) 59 (0, 0)) := by
  have hc1 := h.c1
  have hd1 := h'.c1
  obtain ⟨M, hM⟩ : ∃ M, M = min ws.length vs.length := ⟨_, rfl⟩
  have hmin : min (ws.length : Int) (vs.length : Int) = (M : Int) := by omega
  have HI : Hid (IsSet w p q n ws) := h
  have HI' : Hid (IsSet w p' q' n' vs) := h'
  have hle := h.len
  have HQ : Hid (q = q' → ws = vs) := hq
  have HM : Hid (M = min ws.length vs.length) := hM
  have hM1 : M ≤ ws.length := by omega
  have hM2 : M ≤ vs.length := by omega
  clear h h' hq hM
  go_enter Tryd.func41, Tryd.ntmps41
  go_wp2_with (first | (go_at_call_of 55 p; refine (list_cell p _ _ _ _ hc1).mono ?_; rintro e w' ⟨rfl, rfl⟩) | (go_at_call_of 55 p'; refine (list_cell p' _ _ _ _ hd1).mono ?_; rintro e w' ⟨rfl, rfl⟩))
  go_loopw [16] (fun i wr => ∃ k : Nat, k ≤ M ∧ i = .int .i64 k ∧ Chg q w' wr ∧ wr.heap[q]? = some (.cells (row (part anot k ws vs)) 59 (0, 0))) (fun i _ => M - (intOf i).toNat)
  case atStart => exact ⟨0, Nat.zero_le _, rfl, Chg.refl _ _, by rw [part_zero]; exact HI.out.hq⟩
  case round =>
    obtain ⟨k, hk, rfl, hg, hrow⟩ := hrel
    by_cases hlt : k < M
    · have hi1 : k < ws.length := by omega
      have hi2 : k < vs.length := by omega
      have hx := cell_part hrow hi1
      have hy := other_part HI'.out HQ.out hg hrow hi1 hi2
      have hfz := frozen_of_row _ q k _ _ hrow
      have hxb := HI.out.wd.getD k
      have hyb := HI'.out.wd.getD k
      have HG := hid hg
      have HR := hid hrow
      obtain ⟨x, hxe⟩ : ∃ x, x = ws.getD k 0 := ⟨_, rfl⟩
      obtain ⟨y, hye⟩ : ∃ y, y = vs.getD k 0 := ⟨_, rfl⟩
      rw [← hxe] at hx hxb
      rw [← hye] at hy hyb
      have HX : Hid (x = ws.getD k 0) := hxe
      have HY : Hid (y = vs.getD k 0) := hye
      have HXB : Hid (x < 18446744073709551616) := hxb
      have HYB : Hid (y < 18446744073709551616) := hyb
      clear hg hrow hxe hye hxb hyb
      go_wp2
      go_region
      go_wp2
      go_roundw
      case rel =>
        exact ⟨k + 1, by omega, by go_num, HG.out.trans (Chg.drewSet1 _ _), round_part HR.out hi1 HX.out HY.out (anot_num x y HXB.out HYB.out)⟩
      case measure => simp [intOf]; omega
    · have e : k = M := by omega
      subst e
      rw [part_all anot k ws vs HM.out (fun x hx => anot_zero x (HI.out.wd x hx))] at hrow
      go_wp2
      go_end0
      exact ⟨rfl, hg, hrow⟩
end Go.Proofs.YtkagdmhijjfnnaaDoor
namespace Go.Proofs.YtkagdmhijjfnnaaDoor
open Go.RowKit Bs
/-- m words from o on are 0. -/
def clr : Nat → Nat → List Nat → List Nat
  | _, 0, ws => ws
  | o, m + 1, ws => clr (o + 1) m (ws.set o 0)
theorem length_clr : ∀ (m o : Nat) (ws : List Nat), (clr o m ws).length = ws.length
  | 0, _, _ => rfl
  | m + 1, o, ws => by rw [clr, length_clr m]; simp
theorem getD_clr : ∀ (m o : Nat) (ws : List Nat) (i : Nat), (clr o m ws).getD i 0 = if o ≤ i ∧ i < o + m then 0 else ws.getD i 0
  | 0, o, ws, i => by rw [clr, if_neg (by omega)]
  | m + 1, o, ws, i => by
    rw [clr, getD_clr m]
    by_cases h : i = o
    · subst h
      rw [if_neg (by omega), if_pos (by omega)]
      rw [List.getD_eq_getElem?_getD, List.getElem?_set]
      by_cases hl : i < ws.length
      · simp [hl]
      · simp [hl]
    · have e : (ws.set o 0).getD i 0 = ws.getD i 0 := by
        rw [List.getD_eq_getElem?_getD, List.getD_eq_getElem?_getD, List.getElem?_set, if_neg (by omega)]
      rw [e]
      by_cases c : o + 1 ≤ i ∧ i < o + 1 + m
      · rw [if_pos c, if_pos (by omega)]
      · rw [if_neg c, if_neg (by omega)]
theorem list_ext_getD (a b : List Nat) (hl : a.length = b.length) (h : ∀ i, i < a.length → a.getD i 0 = b.getD i 0) : a = b := by
  apply List.ext_getElem hl
  intro i h1 h2
  have := h i h1
  simpa [List.getElem?_eq_getElem h1, List.getElem?_eq_getElem h2] using this
theorem clr_heap : ∀ (m o : Nat) (w : World) (q : Nat) (ws : List Nat), w.heap[q]? = some (.cells (row ws) 59 (0, 0)) →
    (w.setCells q o (List.replicate m (.int .u64 0))).heap[q]? = some (.cells (row (clr o m ws)) 59 (0, 0)) ∧ Chg q w (w.setCells q o (List.replicate m (.int .u64 0)))
  | 0, _, w, q, ws, h => ⟨h, Chg.refl _ _⟩
  | m + 1, o, w, q, ws, h => by
    rw [List.replicate_succ, World.setCells]
    have h1 : (w.setCell ⟨q, o, none⟩ (.int .u64 0)).heap[q]? = some (.cells (row (ws.set o 0)) 59 (0, 0)) := by
      rw [heap_setCell_same w q o _ _ _ h, ← row_set]; rfl
    obtain ⟨a, b⟩ := clr_heap m (o + 1) _ q _ h1
    exact ⟨a, Chg.trans (Chg.setCell o _) b⟩
theorem clear_none (q m : Nat) (hm : m = 0) (w : World) : (Builtin.clear_ #[35] 0 #[.slice (some ⟨q, 0, none⟩) m m]).run Tryd.prog w = .ok (.tuple #[]) w := by
  subst hm
  simp [Builtin.clear_, run_underlying Tryd.underlying35]
theorem clr_and (k : Nat) (ws vs : List Nat) (hk : k = min ws.length vs.length) : clr k (ws.length - k) (part (· &&& ·) k ws vs) = opW (· &&& ·) ws vs := by
  apply list_ext_getD
  · rw [length_clr, length_part, length_opW]
  · intro i hi
    rw [length_clr, length_part] at hi
    rw [getD_clr, getD_opW, if_pos hi]
    split
    · rename_i h
      rw [show vs.getD i 0 = 0 by rw [List.getD_eq_getElem?_getD, List.getElem?_eq_none (by omega)]; rfl]
      simp
    · rename_i h
      have hik : i < k := by omega
      unfold part
      rw [List.getD_eq_getElem?_getD, List.getElem?_mapIdx, List.getElem?_eq_getElem hi]
      simp [hik, List.getElem?_eq_getElem hi]
theorem zero59 (w : World) : (zeroValue 59).run Tryd.prog w = .ok (.int .u64 0) w := by kernel_rfl
theorem clear_row {wr : World} {q : Nat} {us : List Nat} (hrow : wr.heap[q]? = some (.cells (row us) 59 (0, 0))) {k : Nat} (hk : k < us.length) (ty : TypeId) (c : Nat) :
    (Builtin.clear_ #[35] ty #[.slice (some ⟨q, k, none⟩) (us.length - k) c]).run Tryd.prog wr = .ok (.tuple #[]) (wr.setCells q k (List.replicate (us.length - k) (.int .u64 0))) :=
  Lib.run_clear_slice wr 35 59 ty (.int .u64 0) Tryd.underlying35 zero59 rfl rfl q k (us.length - k) c (by omega)
    (fun j hj => by rw [cell_of_row wr q (k + j) _ _ _ hrow, row_get us (k + j) (by omega)]; rfl) (fun j _ => frozen_of_row wr q (k + j) _ _ hrow)
set_option maxRecDepth 100000 in
set_option maxHeartbeats 1000000 in
/-- AndWith: the walk, at the words. -/
theorem andwith_core (p q n p' q' n' : Nat) (ws vs : List Nat) (w : World) (h : IsSet w p q n ws) (h' : IsSet w p' q' n' vs) (hq : q = q' → ws = vs) :
    Calls Tryd.prog 46 #[.pointer (some ⟨p, 0, none⟩), .pointer (some ⟨p', 0, none⟩)] w fun e w' => e = .returned (.tuple #[]) ∧ Chg q w w' ∧ w'.heap[q]? = some (.cells (row (opW (· &&& ·) ws vs)) 59 (0, 0)) := by
  have hc1 := h.c1
  have hd1 := h'.c1
  obtain ⟨M, hM⟩ : ∃ M, M = min ws.length vs.length := ⟨_, rfl⟩
  have hmin : min (ws.length : Int) (vs.length : Int) = (M : Int) := by omega
  have HI : Hid (IsSet w p q n ws) := h
  have HI' : Hid (IsSet w p' q' n' vs) := h'
  have hle := h.len
  have HQ : Hid (q = q' → ws = vs) := hq
  have HM : Hid (M = min ws.length vs.length) := hM
  have hM1 : M ≤ ws.length := by omega
  have hM2 : M ≤ vs.length := by omega
  clear h h' hq hM
  go_enter Tryd.func46, Tryd.ntmps46
  go_wp2_with (first | (go_at_call_of 55 p; refine (list_cell p _ _ _ _ hc1).mono ?_; rintro e w' ⟨rfl, rfl⟩) | (go_at_call_of 55 p'; refine (list_cell p' _ _ _ _ hd1).mono ?_; rintro e w' ⟨rfl, rfl⟩))
  go_loopw [18] (fun i wr => ∃ k : Nat, k ≤ M ∧ i = .int .i64 k ∧ Chg q w' wr ∧ wr.heap[q]? = some (.cells (row (part (· &&& ·) k ws vs)) 59 (0, 0))) (fun i _ => M - (intOf i).toNat)
  case atStart => exact ⟨0, Nat.zero_le _, rfl, Chg.refl _ _, by rw [part_zero]; exact HI.out.hq⟩
  case round =>
    obtain ⟨k, hk, rfl, hg, hrow⟩ := hrel
    by_cases hlt : k < M
    · have hi1 : k < ws.length := by omega
      have hi2 : k < vs.length := by omega
      have hx := cell_part hrow hi1
      have hy := other_part HI'.out HQ.out hg hrow hi1 hi2
      have hfz := frozen_of_row _ q k _ _ hrow
      have hxb := HI.out.wd.getD k
      have hyb := HI'.out.wd.getD k
      have HG := hid hg
      have HR := hid hrow
      obtain ⟨x, hxe⟩ : ∃ x, x = ws.getD k 0 := ⟨_, rfl⟩
      obtain ⟨y, hye⟩ : ∃ y, y = vs.getD k 0 := ⟨_, rfl⟩
      rw [← hxe] at hx hxb
      rw [← hye] at hy hyb
      have HX : Hid (x = ws.getD k 0) := hxe
      have HY : Hid (y = vs.getD k 0) := hye
      have HXB : Hid (x < 18446744073709551616) := hxb
      have HYB : Hid (y < 18446744073709551616) := hyb
      clear hg hrow hxe hye hxb hyb
      go_wp2
      go_region
      go_wp2
      go_roundw
      case rel =>
        exact ⟨k + 1, by omega, by go_num, HG.out.trans (Chg.drewSet1 _ _), round_part HR.out hi1 HX.out HY.out (u64_and_nat x y HXB.out HYB.out)⟩
      case measure => simp [intOf]; omega
    · have e : k = M := by omega
      subst e
      by_cases hfull : k < ws.length
      · have hcl := clear_row hrow (k := k) (by rw [length_part]; omega)
        rw [length_part] at hcl
        have HG := hid hg
        have HR := hid hrow
        clear hg hrow hk hmin
        go_wp2_with fail
        go_end0
        obtain ⟨a, b⟩ := clr_heap (ws.length - k) k _ q _ HR.out
        rw [clr_and k ws vs HM.out] at a
        exact ⟨rfl, HG.out.trans b, a⟩
      · have e : k = ws.length := by omega
        have hr : part (· &&& ·) k ws vs = opW (· &&& ·) ws vs := by
          rw [← clr_and k ws vs HM.out, e, Nat.sub_self]; rfl
        rw [hr] at hrow
        have HG := hid hg
        have HR := hid hrow
        have hcl := clear_none q (ws.length - k) (by omega)
        clear hg hrow hk hmin hr e
        go_wp2_with fail
        all_goals go_end0
        all_goals exact ⟨rfl, HG.out, HR.out⟩
end Go.Proofs.YtkagdmhijjfnnaaDoor
