import Derived.Test.YtkagdmhijjfnnaaDoorMgAA
import Derived.RegionTactic
import Derived.BigRegion
import Derived.Deep.RegionHeld3
import Derived.Lib.MinMax
namespace Go.Proofs.YtkagdmhijjfnnaaDoor
open Go.RowKit Bs
set_option maxHeartbeats 400000 in
theorem has_no (p n : Nat) (i : Int) (w : World) (hc : w.cell? ⟨p, 0, none⟩ = some (.int .i64 n)) (h : ¬ (0 ≤ i ∧ i < n)) : Calls Tryd.prog 30 #[.pointer (some ⟨p, 0, none⟩), .int .i64 i] w fun e w' => e = .returned (.bool false) ∧ ∃ k, w' = w.drewN k := by
  have H : Hid (¬ (0 ≤ i ∧ i < n)) := h
  clear h
  go_enter Tryd.func30, Tryd.ntmps30
  go_wp2_with fail
  go_quiet ((go_at_call 59; exact Calls.quiet_of_same (inside_no p n i _ (by simpa using hc) H.out)))
  go_wp2
  go_ret
  exact ⟨rfl, _, rfl⟩
set_option maxHeartbeats 400000 in
theorem has_core (p q n k j r x L : Nat) (w : World) (hc0 : w.cell? ⟨p, 0, none⟩ = some (.int .i64 n)) (hc1 : w.cell? ⟨p, 1, none⟩ = some (.slice (some ⟨q, 0, none⟩) L L))
    (hw : w.cell? ⟨q, j, none⟩ = some (.int .u64 x)) (hk : (k : Int) < n) (hj : (j : Int) < L) (e1 : IntKind.i64.wrap ((k : Int) / 64) = j) (e2 : (k : Int).tmod 64 = r) :
    Calls Tryd.prog 30 #[.pointer (some ⟨p, 0, none⟩), .int .i64 k] w fun e w' => e = .returned (.bool (bits .and .u64 x (IntKind.u64.wrap (2 ^ min r 64)) != 0)) ∧ ∃ k, w' = w.drewN k := by
  go_enter Tryd.func30, Tryd.ntmps30
  go_wp2_with fail
  go_quiet ((go_at_call 59; exact Calls.quiet_of_same (inside_yes p n k _ (by simpa using hc0) (by omega) (by omega))))
  go_wp2
  go_ret
  exact ⟨rfl, _, rfl⟩
theorem idx_div (k : Nat) (h : k ≤ 65536) : IntKind.i64.wrap ((k : Int) / 64) = ((k / 64 : Nat) : Int) := by rw [IntKind.wrap_i64]; omega
theorem idx_mod (k : Nat) : (k : Int).tmod 64 = ((k % 64 : Nat) : Int) := by rw [Int.tmod_eq_emod_of_nonneg (by omega)]; omega
theorem wrap_pow (r : Nat) (h : r < 64) : IntKind.u64.wrap (2 ^ r) = ((2 ^ r : Nat) : Int) := by
  have := pow_lt64 r h
  rw [IntKind.wrap_u64, pow_cast]; omega
theorem test_bit (x r : Nat) (hx : x < 18446744073709551616) (hr : r < 64) : (bits .and .u64 (x : Int) (IntKind.u64.wrap (2 ^ r)) != 0) = x.testBit r := by
  have := pow_lt64 r hr
  rw [wrap_pow r hr, u64_and_nat x (2 ^ r) hx (by omega)]
  rw [Bool.eq_iff_iff, bne_iff_ne, nat_bit, Nat.testBit_eq_decide_div_mod_eq]
  have h2 : x / 2 ^ r % 2 < 2 := Nat.mod_lt _ (by decide)
  rcases Nat.lt_or_ge (x / 2 ^ r % 2) 1 with h | h
  · have e : x / 2 ^ r % 2 = 0 := by omega
    simp [e]
  · have e : x / 2 ^ r % 2 = 1 := by omega
    simp [e]
    exact_mod_cast Nat.pos_iff_ne_zero.1 (Nat.two_pow_pos r)
theorem has_yes (p q n k : Nat) (ws : List Nat) (w : World) (h : IsSet w p q n ws) (hk : k < n) : Calls Tryd.prog 30 #[.pointer (some ⟨p, 0, none⟩), .int .i64 k] w fun e w' => e = .returned (.bool (mem ws k)) ∧ ∃ k, w' = w.drewN k := by
  have hl := h.hl
  have hn := h.hn
  unfold nw at hl
  have hj : k / 64 < ws.length := by omega
  refine (has_core p q n k (k / 64) (k % 64) (ws.getD (k / 64) 0) ws.length w h.c0 h.c1 (h.cw _ hj) (by omega) (by omega) (idx_div k (by omega)) (idx_mod k)).mono ?_
  rintro e w' ⟨rfl, hw⟩
  refine ⟨ret_bool ?_, hw⟩
  rw [show min (k % 64) 64 = k % 64 by omega, test_bit _ _ (h.wd.getD _) (by omega)]; rfl
theorem Chg.drewSet {a : Nat} {w : World} (m o : Nat) (v : Value) : Chg a w ((w.drewN m).setCell ⟨a, o, none⟩ v) :=
  ⟨rfl, rfl, rfl, by simp, fun k _ hk => heap_setCell_other _ _ _ _ hk⟩
set_option maxHeartbeats 1000000 in
theorem add_core (p q n k j r x L : Nat) (w : World) (hc0 : w.cell? ⟨p, 0, none⟩ = some (.int .i64 n)) (hc1 : w.cell? ⟨p, 1, none⟩ = some (.slice (some ⟨q, 0, none⟩) L L))
    (hw : w.cell? ⟨q, j, none⟩ = some (.int .u64 x)) (hf : w.frozen? ⟨q, j, none⟩ = false) (hk : (k : Int) < n) (hj : (j : Int) < L) (e1 : IntKind.i64.wrap ((k : Int) / 64) = j) (_e1' : wrap64 ((k : Int) / 64) = j) (e2 : (k : Int).tmod 64 = r)
    (hh : ∀ W, W.cell? ⟨p, 0, none⟩ = some (.int .i64 n) → W.cell? ⟨p, 1, none⟩ = some (.slice (some ⟨q, 0, none⟩) L L) → W.cell? ⟨q, j, none⟩ = some (.int .u64 x) → Calls Tryd.prog 30 #[.pointer (some ⟨p, 0, none⟩), .int .i64 k] W fun e w' => e = .returned (.bool false) ∧ ∃ k, w' = W.drewN k) :
    Calls Tryd.prog 39 #[.pointer (some ⟨p, 0, none⟩), .int .i64 k] w fun e w' => e = .returned (.bool true) ∧ Chg q w w' ∧ w'.heap[q]? = (w.setCell ⟨q, j, none⟩ (.int .u64 (bits .or .u64 x (IntKind.u64.wrap (2 ^ min r 64))))).heap[q]? := by
  have HH : Hid (∀ W, W.cell? ⟨p, 0, none⟩ = some (.int .i64 n) → W.cell? ⟨p, 1, none⟩ = some (.slice (some ⟨q, 0, none⟩) L L) → W.cell? ⟨q, j, none⟩ = some (.int .u64 x) → Calls Tryd.prog 30 #[.pointer (some ⟨p, 0, none⟩), .int .i64 k] W fun e w' => e = .returned (.bool false) ∧ ∃ k, w' = W.drewN k) := hh
  clear hh
  go_enter Tryd.func39, Tryd.ntmps39
  go_wp2_with (first | (go_at_call 59; refine (inside_yes p n k _ hc0 (by omega) (by omega)).mono ?_; rintro e w' ⟨rfl, rfl⟩) | (go_at_call 30; refine (HH.out _ hc0 hc1 hw).mono ?_; rintro e w' ⟨rfl, kk, rfl⟩))
  go_region
  go_wp2
  go_ret
  exact ⟨rfl, Chg.drewSet _ _ _, rfl⟩
theorem wrap64_eq (z : Int) : wrap64 z = IntKind.i64.wrap z := by rw [IntKind.wrap_i64]; unfold wrap64; omega
theorem or_num (x r : Nat) (hx : x < 18446744073709551616) (hr : r < 64) : bits .or .u64 (x : Int) (IntKind.u64.wrap (2 ^ min r 64)) = ((x ||| 2 ^ r : Nat) : Int) := by
  have := pow_lt64 r hr
  rw [show min r 64 = r by omega, wrap_pow r hr, u64_or_nat x (2 ^ r) hx (by omega)]
/-- The words with k put in. -/
def addW (ws : List Nat) (k : Nat) : List Nat := ws.set (k / 64) (ws.getD (k / 64) 0 ||| 2 ^ (k % 64))
theorem mem_addW (ws : List Nat) (k : Nat) (hk : k / 64 < ws.length) (i : Nat) : mem (addW ws k) i = (mem ws i || decide (i = k)) := by
  unfold addW
  rw [mem_set _ _ _ _ hk]
  split
  · rename_i h
    rw [Nat.testBit_or, Nat.testBit_two_pow]
    unfold mem
    rw [h]
    congr 1
    rw [decide_eq_decide]; omega
  · rename_i h
    have : i ≠ k := by intro e; subst e; exact h rfl
    simp [this]
theorem add_yes (p q n k : Nat) (ws : List Nat) (w : World) (h : IsSet w p q n ws) (hk : k < n) (hm : mem ws k = false) : Calls Tryd.prog 39 #[.pointer (some ⟨p, 0, none⟩), .int .i64 k] w fun e w' => e = .returned (.bool true) ∧ IsSet w' p q n (addW ws k) ∧ Chg q w w' := by
  have hl := h.hl
  have hn := h.hn
  unfold nw at hl
  have hj : k / 64 < ws.length := by omega
  have hp := pow_lt64 (k % 64) (by omega)
  refine (add_core p q n k (k / 64) (k % 64) (ws.getD (k / 64) 0) ws.length w h.c0 h.c1 (h.cw _ hj) (h.fz _) (by omega) (by omega) (idx_div k (by omega)) (by rw [wrap64_eq]; exact idx_div k (by omega)) (idx_mod k) ?_).mono ?_
  · intro W a b c
    refine (has_core p q n k (k / 64) (k % 64) (ws.getD (k / 64) 0) ws.length W a b c (by omega) (by omega) (idx_div k (by omega)) (idx_mod k)).mono ?_
    rintro e w' ⟨rfl, hw⟩
    refine ⟨ret_bool ?_, hw⟩
    rw [show min (k % 64) 64 = k % 64 by omega, test_bit _ _ (h.wd.getD _) (by omega)]; exact hm
  · rintro e w' ⟨rfl, hg, hb⟩
    rw [or_num _ _ (h.wd.getD _) (by omega), heap_setCell_same w q _ _ _ _ h.hq, row_set] at hb
    refine ⟨rfl, h.put hg hb (by simp [addW]) (h.wd.set _ _ (or_lt _ _ (h.wd.getD _) (by omega))) ?_, hg⟩
    intro i hi
    show mem (addW ws k) i = false
    rw [mem_addW ws k hj, h.cl i hi]
    simp; omega
set_option maxHeartbeats 400000 in
theorem add_had (p q n k : Nat) (ws : List Nat) (w : World) (h : IsSet w p q n ws) (hk : k < n) (hm : mem ws k = true) : Calls Tryd.prog 39 #[.pointer (some ⟨p, 0, none⟩), .int .i64 k] w fun e w' => e = .returned (.bool false) ∧ ∃ m, w' = w.drewN m := by
  have hc0 := h.c0
  have HI : Hid (IsSet w p q n ws) := h
  have HM : Hid (mem ws k = true) := hm
  clear h hm
  go_enter Tryd.func39, Tryd.ntmps39
  go_wp2_with (first | (go_at_call 59; refine (inside_yes p n k _ hc0 (by omega) (by omega)).mono ?_; rintro e w' ⟨rfl, rfl⟩) | (go_at_call 30; refine (has_yes p q n k ws _ HI.out hk).mono ?_; rw [HM.out]; rintro e w' ⟨rfl, kk, rfl⟩))
  go_ret
  exact ⟨rfl, _, rfl⟩
/-- Add, of a place within the universe. -/
theorem add_in (p q n k : Nat) (ws : List Nat) (w : World) (h : IsSet w p q n ws) (hk : k < n) : Calls Tryd.prog 39 #[.pointer (some ⟨p, 0, none⟩), .int .i64 k] w fun e w' => e = .returned (.bool (!mem ws k)) ∧ (∃ ws', IsSet w' p q n ws' ∧ ∀ i, mem ws' i = (mem ws i || decide (i = k))) ∧ Chg q w w' := by
  cases hm : mem ws k
  · refine (add_yes p q n k ws w h hk hm).mono ?_
    rintro e w' ⟨rfl, hs, hg⟩
    have hl := h.hl
    unfold nw at hl
    exact ⟨rfl, ⟨_, hs, mem_addW ws k (by omega)⟩, hg⟩
  · refine (add_had p q n k ws w h hk hm).mono ?_
    rintro e w' ⟨rfl, m, rfl⟩
    refine ⟨rfl, ⟨ws, h.low (belowDrewN m), fun i => ?_⟩, Chg.of (belowDrewN m)⟩
    by_cases e : i = k
    · subst e; simp [hm]
    · simp [e]
end Go.Proofs.YtkagdmhijjfnnaaDoor
namespace Go.Proofs.YtkagdmhijjfnnaaDoor
open Go.RowKit Bs
/-- The slice v holds the numbers zs. -/
structure Holds (w : World) (v : Value) (zs : List Int) : Prop where
  ex : (v = .slice none 0 0 ∧ zs = []) ∨ ∃ b off cap, v = .slice (some ⟨b, off, none⟩) zs.length cap ∧ ∀ j, j < zs.length → w.cell? ⟨b, off + j, none⟩ = some (.int .i64 (zs.getD j 0))
theorem take_mem (zs : List Int) (k : Nat) (hk : k < zs.length) (x : Int) : x ∈ zs.take (k + 1) ↔ x ∈ zs.take k ∨ x = zs.getD k 0 := by
  rw [List.take_succ_eq_append_getElem hk, List.mem_append]
  simp [List.getD_eq_getElem?_getD, List.getElem?_eq_getElem hk]
theorem take_dec (zs : List Int) (k m z : Nat) (hk : k < zs.length) (hz : zs.getD k 0 = z) : (decide ((m : Int) ∈ zs.take k) || decide (m = z)) = decide ((m : Int) ∈ zs.take (k + 1)) := by
  rw [Bool.eq_iff_iff, Bool.or_eq_true, decide_eq_true_iff, decide_eq_true_iff, decide_eq_true_iff, take_mem zs k hk, hz]
  constructor
  · rintro (h | h)
    · exact Or.inl h
    · exact Or.inr (by omega)
  · rintro (h | h)
    · exact Or.inl h
    · exact Or.inr (by omega)
theorem mem_zero (k i : Nat) : mem (List.replicate k 0) i = false := tidy_zero k 0 i (Nat.zero_le _)
theorem getD_mem (zs : List Int) (k : Nat) (hk : k < zs.length) : zs.getD k 0 ∈ zs := by
  rw [List.getD_eq_getElem?_getD, List.getElem?_eq_getElem hk]; exact List.getElem_mem hk
set_option maxHeartbeats 1000000 in
theorem from_some (n b off cap : Nat) (zs : List Int) (w : World) (hn : n ≤ 65536) (hlen : zs.length ≤ 9223372036854775807) (hc : ∀ j, j < zs.length → w.cell? ⟨b, off + j, none⟩ = some (.int .i64 (zs.getD j 0))) (hz : ∀ z ∈ zs, 0 ≤ z ∧ z < n) :
    Calls Tryd.prog 47 #[.int .i64 n, .slice (some ⟨b, off, none⟩) zs.length cap] w fun e w' => e = .returned (.tuple #[.pointer (some ⟨w.heap.size + 1, 0, none⟩), .int .i64 0]) ∧
      (∃ ws, IsSet w' (w.heap.size + 1) w.heap.size n ws ∧ ∀ i, mem ws i = decide ((i : Int) ∈ zs)) ∧ Below w.heap.size w w' := by
  have HC : Hid (∀ j, j < zs.length → w.cell? ⟨b, off + j, none⟩ = some (.int .i64 (zs.getD j 0))) := hc
  have HZ : Hid (∀ z ∈ zs, 0 ≤ z ∧ z < n) := hz
  clear hc hz
  obtain ⟨L, hL⟩ : ∃ L, L = zs.length := ⟨_, rfl⟩
  have HL : Hid (L = zs.length) := hL
  rw [← hL] at hlen ⊢
  clear hL
  go_enter Tryd.func47, Tryd.ntmps47
  go_wp2_with (go_at_call 12; refine (new_ok n _ hn).mono ?_; rintro e w1 ⟨rfl, hs, hb⟩)
  go_loopw [20] (fun i wr => ∃ k : Nat, k ≤ L ∧ i = .int .i64 k ∧ (∃ ws, IsSet wr (w.heap.size + 1) w.heap.size n ws ∧ ∀ m, mem ws m = decide ((m : Int) ∈ zs.take k)) ∧ Below w.heap.size w wr) (fun i _ => L - (intOf i).toNat)
  case atStart => exact ⟨0, Nat.zero_le _, rfl, ⟨_, hs, fun m => by simp [mem_zero]⟩, hb⟩
  case round =>
    clear hs hb
    obtain ⟨k, hk, rfl, ⟨ws, hs, hmem⟩, hb⟩ := hrel
    by_cases hlt : k < L
    · have hlt' : k < zs.length := by rw [← HL.out]; exact hlt
      obtain ⟨z, hz⟩ : ∃ z : Nat, zs.getD k 0 = z := by
        have := (HZ.out (zs.getD k 0) (getD_mem zs k hlt')).1
        exact ⟨(zs.getD k 0).toNat, by omega⟩
      have hzn : z < n := by
        have := (HZ.out (zs.getD k 0) (getD_mem zs k hlt')).2
        omega
      have hcell := HC.out k hlt'
      have hcw : _ := (hb.cell (p := ⟨b, off + k, none⟩) (block_lt_of_cell hcell)).trans hcell
      rw [hz] at hcw
      have HZK : Hid (zs.getD k 0 = z) := hz
      have HM : Hid (∀ m, mem ws m = decide ((m : Int) ∈ zs.take k)) := hmem
      have HS : Hid (IsSet _ (w.heap.size + 1) w.heap.size n ws) := hs
      have hc0 := hs.c0
      clear hz hcell hmem hs hlt'
      go_wp2_with (first | (go_at_call 59; refine (inside_yes _ n z _ hc0 (by omega) (by omega)).mono ?_; rintro e w' ⟨rfl, rfl⟩) | (go_at_call 39; refine (add_in _ _ n z ws _ HS.out hzn).mono ?_; rintro e w2 ⟨rfl, ⟨ws2, hs2, hm2⟩, hg2⟩))
      go_roundw
      case rel =>
        refine ⟨k + 1, by omega, by go_num, ⟨ws2, hs2, fun m => ?_⟩, Chg.below hb hg2 (Nat.le_refl _) hb.size⟩
        rw [hm2, HM.out]
        exact take_dec zs k m z (by rw [← HL.out]; exact hlt) HZK.out
      case measure => simp [intOf]; omega
    · have hk' : k = L := by omega
      subst hk'
      have e : zs.take k = zs := by rw [HL.out]; exact List.take_length
      rw [e] at hmem
      go_wp2
      go_ret2
      exact ⟨rfl, ⟨ws, hs, hmem⟩, hb⟩
set_option maxHeartbeats 1000000 in
theorem from_none (n : Nat) (w : World) (hn : n ≤ 65536) :
    Calls Tryd.prog 47 #[.int .i64 n, .slice none 0 0] w fun e w' => e = .returned (.tuple #[.pointer (some ⟨w.heap.size + 1, 0, none⟩), .int .i64 0]) ∧
      (∃ ws, IsSet w' (w.heap.size + 1) w.heap.size n ws ∧ ∀ i, mem ws i = false) ∧ Below w.heap.size w w' := by
  go_enter Tryd.func47, Tryd.ntmps47
  go_wp2_with (go_at_call 12; refine (new_ok n _ hn).mono ?_; rintro e w1 ⟨rfl, hs, hb⟩)
  go_loopw [20] (fun i wr => i = .int .i64 0 ∧ wr = w1) (fun i _ => 0)
  case atStart => exact ⟨rfl, rfl⟩
  case round =>
    obtain ⟨rfl, rfl⟩ := hrel
    go_wp2
    go_ret2
    exact ⟨rfl, ⟨_, hs, fun i => mem_zero _ _⟩, hb⟩
/-- From, of places within the universe. -/
theorem from_any (n : Nat) (v : Value) (zs : List Int) (w : World) (hn : n ≤ 65536) (hlen : zs.length ≤ 9223372036854775807) (h : Holds w v zs) (hz : ∀ z ∈ zs, 0 ≤ z ∧ z < n) :
    Calls Tryd.prog 47 #[.int .i64 n, v] w fun e w' => e = .returned (.tuple #[.pointer (some ⟨w.heap.size + 1, 0, none⟩), .int .i64 0]) ∧
      (∃ ws, IsSet w' (w.heap.size + 1) w.heap.size n ws ∧ ∀ i, mem ws i = decide ((i : Int) ∈ zs)) ∧ Below w.heap.size w w' := by
  rcases h.ex with ⟨rfl, rfl⟩ | ⟨b, off, cap, rfl, hc⟩
  · refine (from_none n w hn).mono ?_
    rintro e w' ⟨rfl, ⟨ws, hs, hm⟩, hb⟩
    exact ⟨rfl, ⟨ws, hs, fun i => by rw [hm]; simp⟩, hb⟩
  · exact from_some n b off cap zs w hn hlen hc hz
end Go.Proofs.YtkagdmhijjfnnaaDoor
namespace Go.Proofs.YtkagdmhijjfnnaaDoor
open Go.RowKit Bs
def vals (ws : List Nat) : List Value := ws.map fun x : Nat => Value.int .u64 (x : Int)
theorem row_vals (ws : List Nat) : row ws = (vals ws).toArray := rfl
theorem length_vals (ws : List Nat) : (vals ws).length = ws.length := by simp [vals]
theorem splice_wid (k : Nat) (ws : List Nat) : splice (vals (List.replicate k 0)) 0 (vals ws) = vals (widW k ws) := by
  simp [splice, vals, widW, List.map_append]
theorem one_vals (ws : List Nat) : ∀ v ∈ vals ws, v.oneCell' = true := by
  intro v hv
  simp only [vals, List.mem_map] at hv
  obtain ⟨x, _, rfl⟩ := hv
  rfl
theorem IsSet.src {w : World} {p q n : Nat} {ws : List Nat} (h : IsSet w p q n ws) : ∀ j v, (vals ws)[j]? = some v → w.cell? ((⟨q, 0, none⟩ : Addr).add j) = some v := by
  intro j v hv
  have hj : j < ws.length := by
    have := (List.getElem?_eq_some_iff.1 hv).1
    rwa [length_vals] at this
  have e : ((⟨q, 0, none⟩ : Addr).add j) = ⟨q, j, none⟩ := by simp [Addr.add]; omega
  rw [e, h.cw j hj, ← hv]
  simp [vals, List.getElem?_eq_getElem hj]
theorem Chg.cell {a : Nat} {w w' : World} (h : Chg a w w') {p : Addr} (hp : p.block ≠ a) (hl : p.block < w.heap.size) : w'.cell? p = w.cell? p := World.cell?_of_block (w := w) (h.block p.block hl hp)
/-- copy, as one step of a region that draws: the row g alone turns. -/
theorem step_copy_chg {P : Program} {ops : Array Oper} {o : Oper} {a : Act} {w : World} {K : Act → World → Prop} {Q : Exit → Act → World → Prop} {E : Prop} (hgd : o.guard = none) (d s : Operand) (dT sT : TypeId)
    (ho : o.op = .call { callee := .builtin .copy, args := #[d, s], argTypes := #[dT, sT] }) (elem : TypeId) (hu : P.underlying dT = some (.slice elem)) (hsz : (P.info? elem).map (·.size) = some 1)
    (dp sp : Option Addr) (dLen dCap sLen sCap : Nat) (hd : a.eval d = .slice dp dLen dCap) (hs : a.eval s = .slice sp sLen sCap)
    (g off : Nat) (cur : List Value) (t : TypeId) (hg : w.heap[g]? = some (.cells cur.toArray t (0, 0))) (cs : List Value) (hn : cs.length = Nat.min sLen dLen)
    (hpos : 0 < cs.length → dp = some ⟨g, off, none⟩ ∧ ∃ ad, sp = some ad ∧ ∀ j v, cs[j]? = some v → w.cell? (ad.add j) = some v)
    (hfit : off + cs.length ≤ cur.length) (h1 : ∀ v ∈ cs, v.oneCell' = true)
    (h : ∀ w', Hid (w'.heap[g]? = some (.cells (splice cur off cs).toArray t (0, 0))) → Hid (Chg g w w') → K (a.put o.dst (goInt cs.length)) w') :
    if Region.wanted o (yielded ops a.tmps) = true then Oper.wp P o a w K Q else E := by
  have hw : Region.wanted o (yielded ops a.tmps) = true := by simp [Region.wanted, hgd]
  rw [if_pos hw]
  by_cases h0 : cs.length = 0
  · obtain rfl : cs = [] := List.eq_nil_of_length_eq_zero h0
    have hrun := run_copy_none (P := P) w dT sT o.type elem dp sp dLen dCap sLen sCap hu hsz (by simpa using hn.symm)
    unfold Oper.wp
    simp [execOp, ho, resolve, invoke, builtin, hd, hs, hrun, Result.andThen]
    exact h w (show _ = _ by simpa [splice] using hg) (Chg.refl _ _)
  · obtain ⟨rfl, ad, rfl, hsrc⟩ := hpos (by omega)
    have hrun := run_copy_row (P := P) w dT sT o.type elem g off dLen dCap ad sLen sCap cur.toArray t cs hu hsz hg hn hsrc (by simpa using hfit) h1
    unfold Oper.wp
    simp [execOp, ho, resolve, invoke, builtin, hd, hs, hrun, Result.andThen]
    exact h _ (show _ = _ by simpa [splice] using setRow_heap w g _ _ t _ hg) (show Chg g w _ from ⟨rfl, rfl, rfl, by simp [World.setRow], fun k _ hk => setRow_other w g k _ hk⟩)
set_option maxHeartbeats 1000000 in
set_option maxRecDepth 100000 in
theorem widened_core (p q n m N : Nat) (ws : List Nat) (w : World) (h : IsSet w p q n ws) (hN : max (n : Int) m = (N : Int)) (hm : N ≤ 65536) (hw : nw n ≤ nw N) :
    Calls Tryd.prog 54 #[.pointer (some ⟨p, 0, none⟩), .int .i64 m] w fun e w' => e = .returned (.pointer (some ⟨w.heap.size + 1, 0, none⟩)) ∧
      IsSet w' (w.heap.size + 1) w.heap.size N (widW (nw N) ws) ∧ Below w.heap.size w w' := by
  have hc0 := h.c0
  have HI : Hid (IsSet w p q n ws) := h
  clear h
  go_enter Tryd.func54, Tryd.ntmps54
  go_wp2_with (first | (go_at_call 26; refine (size_cell p n _ hc0).mono ?_; rintro e w' ⟨rfl, rfl⟩) | (go_at_call 53; refine (blank_any N _ hm).mono ?_; rintro e w1 ⟨rfl, hs, hb⟩))
  have hs0 : IsSet w1 p q n ws := HI.out.low hb
  have hc1 := hs.c1
  have hd1 := hs0.c1
  have hlen : ws.length ≤ nw N := by rw [hs0.hl]; exact hw
  have hmin : (vals ws).length = Nat.min ws.length (nw N) := by rw [length_vals]; exact (Nat.min_eq_left hlen).symm
  have HS0 : Hid (IsSet w1 p q n ws) := hs0
  have HS : Hid (IsSet w1 (w'.heap.size + 1) w'.heap.size N (List.replicate (nw N) 0)) := hs
  have HMIN : Hid ((vals ws).length = Nat.min ws.length (nw N)) := hmin
  have HB : Hid (Below w'.heap.size w' w1) := hb
  rw [List.length_replicate] at hc1
  clear hs hs0 hmin HI hb
  go_region_held3 (fun W => W.cell? ⟨w'.heap.size + 1, 1, none⟩ = some (.slice (some ⟨w'.heap.size, 0, none⟩) (nw N) (nw N)))
    (first | exact hc1 | exact (hb4.out.cell (p := ⟨w'.heap.size + 1, 1, none⟩) (by simp) HS.out.plt).trans hc1)
    (first
      | (refine step_copy_chg rfl (.tmp 14) (.tmp 16) 35 35 rfl 59 Tryd.underlying35 (by kernel_rfl) (some ⟨w'.heap.size, 0, none⟩) (some ⟨q, 0, none⟩) (nw N) (nw N) ws.length ws.length rfl rfl w'.heap.size 0 (vals (List.replicate (nw N) 0)) 59 HS.out.hq (vals ws) HMIN.out (fun _ => ⟨rfl, _, rfl, HS0.out.src⟩) (by simp [length_vals]; omega) (one_vals ws) ?_; intro w4 hg4 hb4)
      | (go_at_call 55; refine (list_cell p _ ⟨q, 0, none⟩ ws.length ws.length (by exact hd1)).mono ?_; rintro e w5 ⟨rfl, rfl⟩))
  go_wp2
  go_ret
  have hk : Chg w'.heap.size w1 w4 := Chg.drew.trans hb4.out
  have e4 := hg4.out
  rw [splice_wid] at e4
  refine ⟨rfl, HS.out.put hk e4 ?_ (HS0.out.wd.widW _) ?_, Chg.below HB.out hk (Nat.le_refl _) HB.out.size⟩
  · rw [length_widW _ _ hlen, List.length_replicate]
  · intro i hi
    rw [mem_widW]
    exact HS0.out.cl i (by omega)
/-- widened. -/
theorem widened_any (p q n m : Nat) (ws : List Nat) (w : World) (h : IsSet w p q n ws) (hm : m ≤ 65536) :
    Calls Tryd.prog 54 #[.pointer (some ⟨p, 0, none⟩), .int .i64 m] w fun e w' => e = .returned (.pointer (some ⟨w.heap.size + 1, 0, none⟩)) ∧
      IsSet w' (w.heap.size + 1) w.heap.size (max n m) (widW (nw (max n m)) ws) ∧ Below w.heap.size w w' :=
  widened_core p q n m (max n m) ws w h (by omega) (by have := h.hn; omega) (by unfold nw; omega)
theorem widened_zero (p q n : Nat) (ws : List Nat) (w : World) (h : IsSet w p q n ws) :
    Calls Tryd.prog 54 #[.pointer (some ⟨p, 0, none⟩), .int .i64 0] w fun e w' => e = .returned (.pointer (some ⟨w.heap.size + 1, 0, none⟩)) ∧
      IsSet w' (w.heap.size + 1) w.heap.size n ws ∧ Below w.heap.size w w' := by
  have e2 : widW (nw n) ws = ws := by unfold widW; rw [h.hl]; simp
  have hw := widened_core p q n 0 n ws w h (by omega) h.hn (Nat.le_refl _)
  rw [e2] at hw
  exact hw
/-- Clone. -/
theorem clone_any (p q n : Nat) (ws : List Nat) (w : World) (h : IsSet w p q n ws) :
    Calls Tryd.prog 42 #[.pointer (some ⟨p, 0, none⟩)] w fun e w' => e = .returned (.pointer (some ⟨w.heap.size + 1, 0, none⟩)) ∧
      IsSet w' (w.heap.size + 1) w.heap.size n ws ∧ Below w.heap.size w w' := by
  have HI : Hid (IsSet w p q n ws) := h
  clear h
  go_enter Tryd.func42, Tryd.ntmps42
  go_wp2_with (go_at_call 54; refine (widened_zero p q n ws _ HI.out).mono ?_; rintro e w1 ⟨rfl, hs, hb⟩)
  go_ret
  exact ⟨rfl, hs, hb⟩
end Go.Proofs.YtkagdmhijjfnnaaDoor
