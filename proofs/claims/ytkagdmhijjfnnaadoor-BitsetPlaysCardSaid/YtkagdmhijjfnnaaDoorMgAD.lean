import Derived.Test.YtkagdmhijjfnnaaDoorMgAC
namespace Go.Proofs.YtkagdmhijjfnnaaDoor
open Go.RowKit Bs
set_option maxHeartbeats 1000000 in
theorem cut_zero (p n : Nat) (w : World) (hc0 : w.cell? ⟨p, 0, none⟩ = some (.int .i64 n)) (e : (n : Int).tmod 64 = 0) :
    Calls Tryd.prog 63 #[.pointer (some ⟨p, 0, none⟩)] w fun e w' => e = .returned (.bool false) ∧ w' = w := by
  go_enter Tryd.func63, Tryd.ntmps63
  go_wp2
  go_ret
  exact ⟨rfl, rfl⟩
set_option maxRecDepth 100000 in
set_option maxHeartbeats 1000000 in
theorem cut_core (p q n L l u x : Nat) (w : World) (hc0 : w.cell? ⟨p, 0, none⟩ = some (.int .i64 n)) (hc1 : w.cell? ⟨p, 1, none⟩ = some (.slice (some ⟨q, 0, none⟩) L L))
    (hx : w.cell? ⟨q, l, none⟩ = some (.int .u64 x)) (hf : w.frozen? ⟨q, l, none⟩ = false) (e : (n : Int).tmod 64 = u) (hu : ((u : Int) == 0) = false) (hu2 : u < 64) (hl : (L : Int) - 1 = (l : Int)) (hlL : (l : Int) < L) (hL : (L : Int) ≤ 1024) :
    Calls Tryd.prog 63 #[.pointer (some ⟨p, 0, none⟩)] w fun e w' => (∃ b, e = .returned (.bool b) ∧ b = (bits .and .u64 (x : Int) ((2 ^ u - 1 : Nat) : Int) != (x : Int))) ∧ Chg q w w' ∧ w'.heap[q]? = (w.setCell ⟨q, l, none⟩ (.int .u64 (bits .and .u64 (x : Int) ((2 ^ u - 1 : Nat) : Int)))).heap[q]? := by
  obtain ⟨m, hm⟩ : ∃ m, m = 2 ^ u - 1 := ⟨_, rfl⟩
  have HB := hid (fun w => below_any u w hu2)
  rw [← hm] at HB ⊢
  clear hm
  go_enter Tryd.func63, Tryd.ntmps63
  go_wp2
  go_region
  go_wp2
  go_region_with (go_at_call 60; refine (HB.out _).mono ?_; rintro e w' ⟨rfl, rfl⟩)
  all_goals go_wp2
  all_goals go_ret
  all_goals exact ⟨⟨_, rfl, rfl⟩, Chg.drewSet 2 _ _, rfl⟩
/-- cutTail, at the words. -/
theorem cut_any (p q n : Nat) (ws : List Nat) (w : World) (hc0 : w.cell? ⟨p, 0, none⟩ = some (.int .i64 n)) (hc1 : w.cell? ⟨p, 1, none⟩ = some (.slice (some ⟨q, 0, none⟩) ws.length ws.length))
    (hrow : w.heap[q]? = some (.cells (row ws) 59 (0, 0))) (hn : n ≤ 65536) (hl : ws.length = nw n) (wd : Wd ws) :
    Calls Tryd.prog 63 #[.pointer (some ⟨p, 0, none⟩)] w fun e w' => e = .returned (.bool (decide (cutW n ws ≠ ws))) ∧ Chg q w w' ∧ w'.heap[q]? = some (.cells (row (cutW n ws)) 59 (0, 0)) := by
  by_cases h0 : n % 64 = 0
  · refine (cut_zero p n w hc0 (by rw [idx_mod]; omega)).mono ?_
    rintro e w' ⟨rfl, rfl⟩
    have e : cutW n ws = ws := by unfold cutW; rw [if_pos h0]
    rw [e]
    exact ⟨by simp, Chg.refl _ _, hrow⟩
  · unfold nw at hl
    have hi : ws.length - 1 < ws.length := by omega
    have hp := pow_lt64 (n % 64) (by omega)
    refine (cut_core p q n ws.length (ws.length - 1) (n % 64) (ws.getD (ws.length - 1) 0) w hc0 hc1 (by rw [cell_of_row w q _ _ _ _ hrow, row_get _ _ hi]) (frozen_of_row w q _ _ _ hrow) (idx_mod n) (beq_eq_false_iff_ne.2 (by omega)) (by omega) (by omega) (by omega) (by omega)).mono ?_
    rintro e w' ⟨⟨b, rfl, hb⟩, hg, hh⟩
    rw [u64_and_nat _ _ (wd.getD _) (by omega)] at hb hh
    rw [heap_setCell_same w q _ _ _ _ hrow, row_set] at hh
    have e : cutW n ws = ws.set (ws.length - 1) (ws.getD (ws.length - 1) 0 &&& (2 ^ (n % 64) - 1)) := by unfold cutW; rw [if_neg h0]
    rw [← e] at hh
    refine ⟨ret_bool ?_, hg, hh⟩
    rw [hb, Bool.eq_iff_iff, bne_iff_ne, decide_eq_true_iff, e]
    constructor
    · intro h c
      apply h
      have := congrArg (fun l => l.getD (ws.length - 1) 0) c
      simp only [List.getD_eq_getElem?_getD, List.getElem?_set_self hi] at this
      simpa using congrArg (fun x : Nat => (x : Int)) this
    · intro h c
      apply h
      have c' : ws.getD (ws.length - 1) 0 &&& (2 ^ (n % 64) - 1) = ws.getD (ws.length - 1) 0 := by omega
      rw [c']
      apply list_ext_getD
      · simp
      · intro i hi'
        rw [List.getD_eq_getElem?_getD, List.getD_eq_getElem?_getD, List.getElem?_set]
        split
        · rename_i e1; subst e1; simp [hi]
        · rfl
end Go.Proofs.YtkagdmhijjfnnaaDoor
namespace Go.Proofs.YtkagdmhijjfnnaaDoor
open Go.RowKit Bs
set_option maxRecDepth 100000 in
set_option maxHeartbeats 1000000 in
/-- OrWith: the walk, at the words. -/
theorem orwith_core (p q n p' q' n' : Nat) (ws vs : List Nat) (w : World) (h : IsSet w p q n ws) (h' : IsSet w p' q' n' vs) (hq : q = q' → ws = vs) :
    Calls Tryd.prog 45 #[.pointer (some ⟨p, 0, none⟩), .pointer (some ⟨p', 0, none⟩)] w fun e w' => e = .returned (.tuple #[]) ∧ Chg q w w' ∧ w'.heap[q]? = some (.cells (row (cutW n (opW (· ||| ·) ws vs))) 59 (0, 0)) := by
  have hc1 := h.c1
  have hd1 := h'.c1
  obtain ⟨M, hM⟩ : ∃ M, M = min ws.length vs.length := ⟨_, rfl⟩
  have hmin : min (ws.length : Int) (vs.length : Int) = (M : Int) := by omega
  have HI : Hid (IsSet w p q n ws) := h
  have HI' : Hid (IsSet w p' q' n' vs) := h'
  have hle := h.len
  have HQ : Hid (q = q' → ws = vs) := hq
  have HM : Hid (M = min ws.length vs.length) := hM
  have hM1 : M ≤ ws.length := by omega
  have hM2 : M ≤ vs.length := by omega
  clear h h' hq hM
  go_enter Tryd.func45, Tryd.ntmps45
  go_wp2_with (first | (go_at_call_of 55 p; refine (list_cell p _ _ _ _ hc1).mono ?_; rintro e w' ⟨rfl, rfl⟩) | (go_at_call_of 55 p'; refine (list_cell p' _ _ _ _ hd1).mono ?_; rintro e w' ⟨rfl, rfl⟩))
  go_loopw [16] (fun i wr => ∃ k : Nat, k ≤ M ∧ i = .int .i64 k ∧ Chg q w' wr ∧ wr.heap[q]? = some (.cells (row (part (· ||| ·) k ws vs)) 59 (0, 0))) (fun i _ => M - (intOf i).toNat)
  case atStart => exact ⟨0, Nat.zero_le _, rfl, Chg.refl _ _, by rw [part_zero]; exact HI.out.hq⟩
  case round =>
    obtain ⟨k, hk, rfl, hg, hrow⟩ := hrel
    by_cases hlt : k < M
    · have hi1 : k < ws.length := by omega
      have hi2 : k < vs.length := by omega
      have hx := cell_part hrow hi1
      have hy := other_part HI'.out HQ.out hg hrow hi1 hi2
      have hfz := frozen_of_row _ q k _ _ hrow
      have hxb := HI.out.wd.getD k
      have hyb := HI'.out.wd.getD k
      have HG := hid hg
      have HR := hid hrow
      obtain ⟨x, hxe⟩ : ∃ x, x = ws.getD k 0 := ⟨_, rfl⟩
      obtain ⟨y, hye⟩ : ∃ y, y = vs.getD k 0 := ⟨_, rfl⟩
      rw [← hxe] at hx hxb
      rw [← hye] at hy hyb
      have HX : Hid (x = ws.getD k 0) := hxe
      have HY : Hid (y = vs.getD k 0) := hye
      have HXB : Hid (x < 18446744073709551616) := hxb
      have HYB : Hid (y < 18446744073709551616) := hyb
      clear hg hrow hxe hye hxb hyb
      go_wp2
      go_region
      go_wp2
      go_roundw
      case rel =>
        exact ⟨k + 1, by omega, by go_num, HG.out.trans (Chg.drewSet1 _ _), round_part HR.out hi1 HX.out HY.out (u64_or_nat x y HXB.out HYB.out)⟩
      case measure => simp [intOf]; omega
    · have e : k = M := by omega
      subst e
      rw [part_all (· ||| ·) k ws vs HM.out (fun x _ => Nat.or_zero x)] at hrow
      have hc0r := (hg.cell (p := ⟨p, 0, none⟩) HI.out.ne HI.out.plt).trans HI.out.c0
      have hc1r := (hg.cell (p := ⟨p, 1, none⟩) HI.out.ne HI.out.plt).trans hc1
      have HCUT := hid (cut_any p q n (opW (· ||| ·) ws vs) wr hc0r (by rw [length_opW]; exact hc1r) hrow HI.out.hn (by rw [length_opW]; exact HI.out.hl) (HI.out.wd.opW HI'.out.wd or_lt))
      have HG := hid hg
      have HR := hid hrow
      clear hg hrow hk hmin
      go_wp2_with (go_at_call 63; refine HCUT.out.mono ?_; rintro e w2 ⟨rfl, hg2, hr2⟩)
      go_end0
      exact ⟨rfl, HG.out.trans hg2, hr2⟩
end Go.Proofs.YtkagdmhijjfnnaaDoor
namespace Go.Proofs.YtkagdmhijjfnnaaDoor
open Go.RowKit Bs
def subW (ws vs : List Nat) : Bool := (List.range ws.length).all fun k => anot (ws.getD k 0) (vs.getD k 0) == 0
theorem subW_yes (ws vs : List Nat) (h : ∀ k, k < ws.length → anot (ws.getD k 0) (vs.getD k 0) = 0) : subW ws vs = true := by
  unfold subW
  rw [List.all_eq_true]
  intro k hk
  rw [List.mem_range] at hk
  rw [h k hk]; rfl
theorem subW_no (ws vs : List Nat) (k : Nat) (hk : k < ws.length) (h : anot (ws.getD k 0) (vs.getD k 0) ≠ 0) : subW ws vs = false := by
  unfold subW
  rw [List.all_eq_false]
  exact ⟨k, List.mem_range.2 hk, by simpa using h⟩
theorem subW_iff (ws vs : List Nat) (h1 : Wd ws) (h2 : Wd vs) : subW ws vs = true ↔ ∀ i, mem ws i = true → mem vs i = true := by
  rw [← subset_iff ws vs h1 h2]
  constructor
  · intro h k hk
    unfold subW at h
    rw [List.all_eq_true] at h
    simpa using h k (List.mem_range.2 hk)
  · exact subW_yes ws vs
theorem sub_num (x y : Nat) (hx : x < 18446744073709551616) (hy : y < 18446744073709551616) (b : Bool) (hb : (anot x y != 0) = b) : (bits .andNot .u64 (x : Int) (y : Int) != 0) = b := by
  rw [anot_num x y hx hy, ← hb, Bool.eq_iff_iff, bne_iff_ne, bne_iff_ne]; omega
theorem nat_num (x : Nat) (b : Bool) (hb : (x != 0) = b) : ((x : Int) != 0) = b := by
  rw [← hb, Bool.eq_iff_iff, bne_iff_ne, bne_iff_ne]; omega
set_option maxRecDepth 100000 in
set_option maxHeartbeats 1000000 in
theorem subset_words (p q n p' q' n' : Nat) (ws vs : List Nat) (w : World) (h : IsSet w p q n ws) (h' : IsSet w p' q' n' vs) :
    Calls Tryd.prog 24 #[.pointer (some ⟨p, 0, none⟩), .pointer (some ⟨p', 0, none⟩)] w fun e w' => e = .returned (.bool (subW ws vs)) ∧ w' = w := by
  have hc1 := h.c1
  have hd1 := h'.c1
  have HI := hid h
  have HI' := hid h'
  have hle := h.len
  have hle' := h'.len
  clear h h'
  obtain ⟨r, hr⟩ : ∃ r, r = subW ws vs := ⟨_, rfl⟩
  have HR := hid hr
  rw [← hr]
  clear hr
  obtain ⟨L, hL⟩ : ∃ L, L = ws.length := ⟨_, rfl⟩
  obtain ⟨L', hL'⟩ : ∃ L', L' = vs.length := ⟨_, rfl⟩
  have HL := hid hL
  have HL' := hid hL'
  rw [← hL] at hc1 hle
  rw [← hL'] at hd1 hle'
  clear hL hL'
  go_enter Tryd.func24, Tryd.ntmps24
  go_wp2_with (first | (go_at_call_of 55 p; refine (list_cell p _ _ _ _ hc1).mono ?_; rintro e w' ⟨rfl, rfl⟩) | (go_at_call_of 55 p'; refine (list_cell p' _ _ _ _ hd1).mono ?_; rintro e w' ⟨rfl, rfl⟩))
  go_loop [13] (fun i => ∃ k : Nat, k ≤ L ∧ i = .int .i64 k ∧ ∀ j, j < k → anot (ws.getD j 0) (vs.getD j 0) = 0) (fun i => L - (intOf i).toNat)
  case atStart => exact ⟨0, Nat.zero_le _, rfl, fun j hj => by omega⟩
  case round =>
    obtain ⟨k, hk, rfl, hall⟩ := hrel
    have HA := hid hall
    clear hall
    by_cases hlt : k < L
    · have hi1 : k < ws.length := by rw [← HL.out]; exact hlt
      have hx := HI.out.cw k hi1
      obtain ⟨x, hxe⟩ : ∃ x, x = ws.getD k 0 := ⟨_, rfl⟩
      rw [← hxe] at hx
      have HX := hid hxe
      have HXB := hid (HI.out.wd.getD k)
      by_cases hin : k < L'
      · have hi2 : k < vs.length := by rw [← HL'.out]; exact hin
        have hy := HI'.out.cw k hi2
        obtain ⟨y, hye⟩ : ∃ y, y = vs.getD k 0 := ⟨_, rfl⟩
        rw [← hye] at hy
        have HY := hid hye
        have HYB := hid (HI'.out.wd.getD k)
        cases hb : (anot x y != 0)
        · have hnum := sub_num x y (by rw [HX.out]; exact HXB.out) (by rw [HY.out]; exact HYB.out) false hb
          have HZ := hid hb
          clear hxe hye hb hi1 hi2
          go_wp2
          go_round
          case rel =>
            refine ⟨k + 1, by omega, by go_num, fun j hj => ?_⟩
            rcases Nat.lt_succ_iff_lt_or_eq.1 hj with c | c
            · exact HA.out j c
            · subst c; rw [← HX.out, ← HY.out]; simpa using HZ.out
          case measure => simp [intOf]; omega
        · have hnum := sub_num x y (by rw [HX.out]; exact HXB.out) (by rw [HY.out]; exact HYB.out) true hb
          have HZ := hid hb
          have hi := hid hi1
          clear hxe hye hb hi1 hi2
          go_wp2
          go_ret
          refine ⟨ret_bool ?_, rfl⟩
          rw [HR.out, subW_no ws vs k hi.out (by rw [← HX.out, ← HY.out]; simpa using HZ.out)]
      · have hy0 : vs.getD k 0 = 0 := by rw [List.getD_eq_getElem?_getD, List.getElem?_eq_none (by rw [← HL'.out]; omega)]; rfl
        have HY := hid hy0
        cases hb : (x != 0)
        · have hnum := nat_num x false hb
          have HZ := hid hb
          clear hxe hb hi1 hy0
          go_wp2
          go_round
          case rel =>
            refine ⟨k + 1, by omega, by go_num, fun j hj => ?_⟩
            rcases Nat.lt_succ_iff_lt_or_eq.1 hj with c | c
            · exact HA.out j c
            · subst c
              rw [HY.out, anot_zero _ HXB.out, ← HX.out]; simpa using HZ.out
          case measure => simp [intOf]; omega
        · have hnum := nat_num x true hb
          have HZ := hid hb
          have hi := hid hi1
          clear hxe hb hi1 hy0
          go_wp2
          go_ret
          refine ⟨ret_bool ?_, rfl⟩
          rw [HR.out, subW_no ws vs k hi.out (by rw [HY.out, anot_zero _ HXB.out, ← HX.out]; simpa using HZ.out)]
    · have e : k = L := by omega
      go_wp2
      go_ret
      refine ⟨ret_bool ?_, rfl⟩
      rw [HR.out, subW_yes ws vs (by rw [← HL.out, ← e]; exact HA.out)]
end Go.Proofs.YtkagdmhijjfnnaaDoor
namespace Go.Proofs.YtkagdmhijjfnnaaDoor
open Go.RowKit Bs
set_option maxHeartbeats 1000000 in
theorem equal_words (p q n p' q' n' : Nat) (ws vs : List Nat) (w : World) (h : IsSet w p q n ws) (h' : IsSet w p' q' n' vs) :
    Calls Tryd.prog 18 #[.pointer (some ⟨p, 0, none⟩), .pointer (some ⟨p', 0, none⟩)] w fun e w' => e = .returned (.bool (subW ws vs && subW vs ws)) ∧ w' = w := by
  have c1 := subset_words p q n p' q' n' ws vs w h h'
  have c2 := subset_words p' q' n' p q n vs ws w h' h
  cases e1 : subW ws vs
  · rw [e1] at c1
    have C1 := hid c1
    clear c1 c2 e1 h h'
    go_enter Tryd.func18, Tryd.ntmps18
    go_wp2_with fail
    refine C1.out.mono ?_
    rintro e w1 ⟨rfl, rfl⟩
    go_wp2_with fail
    go_ret
    exact ⟨by simp, rfl⟩
  · rw [e1] at c1
    have C1 := hid c1
    have C2 := hid c2
    clear c1 c2 e1 h h'
    go_enter Tryd.func18, Tryd.ntmps18
    go_wp2_with fail
    refine C1.out.mono ?_
    rintro e w1 ⟨rfl, rfl⟩
    go_wp2_with fail
    refine C2.out.mono ?_
    rintro e w1 ⟨rfl, rfl⟩
    go_wp2_with fail
    go_ret
    exact ⟨by simp, rfl⟩

/-- BLOCK p IS A SET of size n whose members are those of S. -/
def SetAt (w : World) (p q n : Nat) (S : Nat → Bool) : Prop := ∃ ws, IsSet w p q n ws ∧ ∀ i, mem ws i = S i
theorem SetAt.low {w w' : World} {p q n : Nat} {S : Nat → Bool} (h : SetAt w p q n S) (k : Below w.heap.size w w') : SetAt w' p q n S := by
  obtain ⟨ws, a, b⟩ := h; exact ⟨ws, a.low k, b⟩
theorem SetAt.keep {w w' : World} {p q n a : Nat} {S : Nat → Bool} (h : SetAt w p q n S) (k : Chg a w w') (hp : p ≠ a) (hq : q ≠ a) : SetAt w' p q n S := by
  obtain ⟨ws, x, b⟩ := h; exact ⟨ws, x.keep k hp hq, b⟩
theorem SetAt.plt {w : World} {p q n : Nat} {S : Nat → Bool} (h : SetAt w p q n S) : p < w.heap.size := by obtain ⟨ws, x, b⟩ := h; exact x.plt
theorem SetAt.qlt {w : World} {p q n : Nat} {S : Nat → Bool} (h : SetAt w p q n S) : q < w.heap.size := by obtain ⟨ws, x, b⟩ := h; exact x.qlt
theorem SetAt.ne {w : World} {p q n : Nat} {S : Nat → Bool} (h : SetAt w p q n S) : p ≠ q := by obtain ⟨ws, x, b⟩ := h; exact x.ne
theorem SetAt.c0 {w : World} {p q n : Nat} {S : Nat → Bool} (h : SetAt w p q n S) : w.cell? ⟨p, 0, none⟩ = some (.int .i64 n) := by obtain ⟨ws, x, b⟩ := h; exact x.c0
theorem SetAt.hn {w : World} {p q n : Nat} {S : Nat → Bool} (h : SetAt w p q n S) : n ≤ 65536 := by obtain ⟨ws, x, b⟩ := h; exact x.hn
theorem SetAt.cl {w : World} {p q n : Nat} {S : Nat → Bool} (h : SetAt w p q n S) (i : Nat) (hi : n ≤ i) : S i = false := by
  obtain ⟨ws, x, b⟩ := h; rw [← b]; exact x.cl i hi
theorem SetAt.turn {w : World} {p q n : Nat} {S T : Nat → Bool} (h : SetAt w p q n S) (k : ∀ i, S i = T i) : SetAt w p q n T := by
  obtain ⟨ws, x, b⟩ := h; exact ⟨ws, x, fun i => (b i).trans (k i)⟩
theorem SetAt.bound {w : World} {p q n : Nat} {S : Nat → Bool} (h : SetAt w p q n S) (i : Nat) (hi : S i = true) : i < n := by
  apply Classical.byContradiction
  intro c
  rw [h.cl i (by omega)] at hi; cases hi

/-- Two sets are apart, or one. -/
def Apart (p q p' q' : Nat) : Prop := p = p' ∨ q ≠ q'
theorem apart_words {w : World} {p q n p' q' n' : Nat} {ws vs : List Nat} (h : IsSet w p q n ws) (h' : IsSet w p' q' n' vs) (ha : Apart p q p' q') : q = q' → ws = vs := by
  intro e
  rcases ha with rfl | c
  · exact (h.same h').2.2
  · exact absurd e c

theorem andwith_any {p q n p' q' n' : Nat} {S T : Nat → Bool} (w : World) (h : SetAt w p q n S) (h' : SetAt w p' q' n' T) (ha : Apart p q p' q') :
    Calls Tryd.prog 46 #[.pointer (some ⟨p, 0, none⟩), .pointer (some ⟨p', 0, none⟩)] w fun e w' => e = .returned (.tuple #[]) ∧ SetAt w' p q n (fun i => S i && T i) ∧ Chg q w w' := by
  obtain ⟨ws, x, hx⟩ := h
  obtain ⟨vs, y, hy⟩ := h'
  refine (andwith_core p q n p' q' n' ws vs w x y (apart_words x y ha)).mono ?_
  rintro e w' ⟨rfl, hg, hr⟩
  have hm : ∀ i, mem (opW (· &&& ·) ws vs) i = (S i && T i) := fun i => by rw [mem_and, hx, hy]
  refine ⟨rfl, ⟨_, x.put hg hr (length_opW _ _ _) (x.wd.opW y.wd (fun a b ha _ => and_lt a b ha)) (fun i hi => ?_), hm⟩, hg⟩
  rw [hm, ← hx, x.cl i hi]; rfl
theorem andnotwith_any {p q n p' q' n' : Nat} {S T : Nat → Bool} (w : World) (h : SetAt w p q n S) (h' : SetAt w p' q' n' T) (ha : Apart p q p' q') :
    Calls Tryd.prog 41 #[.pointer (some ⟨p, 0, none⟩), .pointer (some ⟨p', 0, none⟩)] w fun e w' => e = .returned (.tuple #[]) ∧ SetAt w' p q n (fun i => S i && !T i) ∧ Chg q w w' := by
  obtain ⟨ws, x, hx⟩ := h
  obtain ⟨vs, y, hy⟩ := h'
  refine (andnotwith_core p q n p' q' n' ws vs w x y (apart_words x y ha)).mono ?_
  rintro e w' ⟨rfl, hg, hr⟩
  have hm : ∀ i, mem (opW anot ws vs) i = (S i && !T i) := fun i => by rw [mem_anot _ _ _ x.wd y.wd, hx, hy]
  refine ⟨rfl, ⟨_, x.put hg hr (length_opW _ _ _) (x.wd.opW y.wd (fun a b ha _ => anot_lt a b ha)) (fun i hi => ?_), hm⟩, hg⟩
  rw [hm, ← hx, x.cl i hi]; rfl
theorem orwith_any {p q n p' q' n' : Nat} {S T : Nat → Bool} (w : World) (h : SetAt w p q n S) (h' : SetAt w p' q' n' T) (ha : Apart p q p' q') :
    Calls Tryd.prog 45 #[.pointer (some ⟨p, 0, none⟩), .pointer (some ⟨p', 0, none⟩)] w fun e w' => e = .returned (.tuple #[]) ∧ SetAt w' p q n (fun i => (S i || T i) && decide (i < n)) ∧ Chg q w w' := by
  obtain ⟨ws, x, hx⟩ := h
  obtain ⟨vs, y, hy⟩ := h'
  refine (orwith_core p q n p' q' n' ws vs w x y (apart_words x y ha)).mono ?_
  rintro e w' ⟨rfl, hg, hr⟩
  have hl := x.hl
  have hm : ∀ i, mem (cutW n (opW (· ||| ·) ws vs)) i = ((S i || T i) && decide (i < n)) := fun i => by
    rw [mem_cutW n _ (by rw [length_opW]; exact x.hl), mem_or, hx, hy]
    by_cases hi : i < n
    · have : i / 64 < ws.length := by rw [hl]; unfold nw; omega
      simp [hi, this]
    · simp [hi]
  refine ⟨rfl, ⟨_, x.put hg hr (by rw [length_cutW, length_opW]) ((x.wd.opW y.wd or_lt).cutW n) (fun i hi => ?_), hm⟩, hg⟩
  rw [hm]
  simp; omega

theorem size_any {p q n : Nat} {S : Nat → Bool} (w : World) (h : SetAt w p q n S) : Calls Tryd.prog 26 #[.pointer (some ⟨p, 0, none⟩)] w fun e w' => e = .returned (.int .i64 n) ∧ w' = w := size_cell p n w h.c0
theorem clone_set {p q n : Nat} {S : Nat → Bool} (w : World) (h : SetAt w p q n S) :
    Calls Tryd.prog 42 #[.pointer (some ⟨p, 0, none⟩)] w fun e w' => e = .returned (.pointer (some ⟨w.heap.size + 1, 0, none⟩)) ∧ SetAt w' (w.heap.size + 1) w.heap.size n S ∧ Below w.heap.size w w' := by
  obtain ⟨ws, x, hx⟩ := h
  refine (clone_any p q n ws w x).mono ?_
  rintro e w' ⟨rfl, a, b⟩
  exact ⟨rfl, ⟨ws, a, hx⟩, b⟩
theorem widened_set {p q n : Nat} {S : Nat → Bool} (m : Nat) (w : World) (h : SetAt w p q n S) (hm : m ≤ 65536) :
    Calls Tryd.prog 54 #[.pointer (some ⟨p, 0, none⟩), .int .i64 m] w fun e w' => e = .returned (.pointer (some ⟨w.heap.size + 1, 0, none⟩)) ∧ SetAt w' (w.heap.size + 1) w.heap.size (max n m) S ∧ Below w.heap.size w w' := by
  obtain ⟨ws, x, hx⟩ := h
  refine (widened_any p q n m ws w x hm).mono ?_
  rintro e w' ⟨rfl, a, b⟩
  exact ⟨rfl, ⟨_, a, fun i => by rw [mem_widW, hx]⟩, b⟩
theorem add_set {p q n : Nat} {S : Nat → Bool} (k : Nat) (w : World) (h : SetAt w p q n S) (hk : k < n) :
    Calls Tryd.prog 39 #[.pointer (some ⟨p, 0, none⟩), .int .i64 k] w fun e w' => e = .returned (.bool (!S k)) ∧ SetAt w' p q n (fun i => S i || decide (i = k)) ∧ Chg q w w' := by
  obtain ⟨ws, x, hx⟩ := h
  refine (add_in p q n k ws w x hk).mono ?_
  rintro e w' ⟨rfl, ⟨ws', a, b⟩, c⟩
  exact ⟨by rw [hx], ⟨ws', a, fun i => by rw [b, hx]⟩, c⟩
theorem equal_yes {p q n p' q' n' : Nat} {S T : Nat → Bool} (w : World) (h : SetAt w p q n S) (h' : SetAt w p' q' n' T) (he : ∀ i, S i = T i) :
    Calls Tryd.prog 18 #[.pointer (some ⟨p, 0, none⟩), .pointer (some ⟨p', 0, none⟩)] w fun e w' => e = .returned (.bool true) ∧ w' = w := by
  obtain ⟨ws, x, hx⟩ := h
  obtain ⟨vs, y, hy⟩ := h'
  refine (equal_words p q n p' q' n' ws vs w x y).mono ?_
  rintro e w' ⟨rfl, rfl⟩
  refine ⟨ret_bool ?_, rfl⟩
  rw [(subW_iff ws vs x.wd y.wd).2 (fun i => by rw [hx, hy, he]; exact id), (subW_iff vs ws y.wd x.wd).2 (fun i => by rw [hx, hy, he]; exact id)]; rfl

set_option maxHeartbeats 1000000 in
/-- And. -/
theorem and_any {p q n p' q' n' : Nat} {S T : Nat → Bool} (w : World) (h : SetAt w p q n S) (h' : SetAt w p' q' n' T) :
    Calls Tryd.prog 19 #[.pointer (some ⟨p, 0, none⟩), .pointer (some ⟨p', 0, none⟩)] w fun e w' => e = .returned (.pointer (some ⟨w.heap.size + 1, 0, none⟩)) ∧ SetAt w' (w.heap.size + 1) w.heap.size (max n n') (fun i => S i && T i) ∧ Below w.heap.size w w' := by
  have HI := hid h
  have HI' := hid h'
  clear h h'
  go_enter Tryd.func19, Tryd.ntmps19
  go_wp2_with fail
  refine (size_any _ HI'.out).mono ?_
  rintro e w1 ⟨rfl, rfl⟩
  go_wp2_with fail
  refine (widened_set n' _ HI.out HI'.out.hn).mono ?_
  rintro e w2 ⟨rfl, hs, hb⟩
  have HS := hid hs
  have HB := hid hb
  clear hs hb
  go_wp2_with fail
  refine (andwith_any _ HS.out (HI'.out.low HB.out) (Or.inr (by have := HI'.out.qlt; omega))).mono ?_
  rintro e w3 ⟨rfl, hs3, hg3⟩
  go_wp2_with fail
  go_ret
  exact ⟨rfl, hs3, Chg.below HB.out hg3 (Nat.le_refl _) HB.out.size⟩
set_option maxHeartbeats 1000000 in
/-- Or. -/
theorem or_any {p q n p' q' n' : Nat} {S T : Nat → Bool} (w : World) (h : SetAt w p q n S) (h' : SetAt w p' q' n' T) :
    Calls Tryd.prog 17 #[.pointer (some ⟨p, 0, none⟩), .pointer (some ⟨p', 0, none⟩)] w fun e w' => e = .returned (.pointer (some ⟨w.heap.size + 1, 0, none⟩)) ∧ SetAt w' (w.heap.size + 1) w.heap.size (max n n') (fun i => S i || T i) ∧ Below w.heap.size w w' := by
  have HI := hid h
  have HI' := hid h'
  clear h h'
  go_enter Tryd.func17, Tryd.ntmps17
  go_wp2_with fail
  refine (size_any _ HI'.out).mono ?_
  rintro e w1 ⟨rfl, rfl⟩
  go_wp2_with fail
  refine (widened_set n' _ HI.out HI'.out.hn).mono ?_
  rintro e w2 ⟨rfl, hs, hb⟩
  have HS := hid hs
  have HB := hid hb
  clear hs hb
  go_wp2_with fail
  refine (orwith_any _ HS.out (HI'.out.low HB.out) (Or.inr (by have := HI'.out.qlt; omega))).mono ?_
  rintro e w3 ⟨rfl, hs3, hg3⟩
  have hs4 := hs3.turn (T := fun i => S i || T i) (fun i => by
    cases a : S i
    · cases b : T i
      · simp
      · have := HI'.out.bound i b
        simp; omega
    · have := HI.out.bound i a
      simp; omega)
  have HS4 := hid hs4
  clear hs3 hs4
  go_wp2_with fail
  go_ret
  exact ⟨rfl, HS4.out, Chg.below HB.out hg3 (Nat.le_refl _) HB.out.size⟩
set_option maxHeartbeats 1000000 in
/-- AndNot. -/
theorem andnot_any {p q n p' q' n' : Nat} {S T : Nat → Bool} (w : World) (h : SetAt w p q n S) (h' : SetAt w p' q' n' T) :
    Calls Tryd.prog 21 #[.pointer (some ⟨p, 0, none⟩), .pointer (some ⟨p', 0, none⟩)] w fun e w' => e = .returned (.pointer (some ⟨w.heap.size + 1, 0, none⟩)) ∧ SetAt w' (w.heap.size + 1) w.heap.size (max n n') (fun i => S i && !T i) ∧ Below w.heap.size w w' := by
  have HI := hid h
  have HI' := hid h'
  clear h h'
  go_enter Tryd.func21, Tryd.ntmps21
  go_wp2_with fail
  refine (size_any _ HI'.out).mono ?_
  rintro e w1 ⟨rfl, rfl⟩
  go_wp2_with fail
  refine (widened_set n' _ HI.out HI'.out.hn).mono ?_
  rintro e w2 ⟨rfl, hs, hb⟩
  have HS := hid hs
  have HB := hid hb
  clear hs hb
  go_wp2_with fail
  refine (andnotwith_any _ HS.out (HI'.out.low HB.out) (Or.inr (by have := HI'.out.qlt; omega))).mono ?_
  rintro e w3 ⟨rfl, hs3, hg3⟩
  go_wp2_with fail
  go_ret
  exact ⟨rfl, hs3, Chg.below HB.out hg3 (Nat.le_refl _) HB.out.size⟩
end Go.Proofs.YtkagdmhijjfnnaaDoor
