import Derived.Test.YtkagdmhijjfnnabDoorSel
namespace Go.Proofs.YtkagdmhijjfnnabDoor
open Go.RowKit Bs
set_option maxHeartbeats 1000000 in
/-- countBits, of the first K words. -/
theorem countBits_pre (q K cap : Nat) (ws : List Nat) (w : World) (hrow : w.heap[q]? = some (.cells (row ws) 56 (0, 0))) (hK : K ≤ ws.length) (hle : K ≤ 1024) (wd : Wd ws) :
    Calls Tryd.prog 48 #[.slice (some ⟨q, 0, none⟩) K cap] w fun e w' => e = .returned (.int .i64 ((cnt K ws : Nat) : Int)) ∧ w' = w := by
  have HR := hid hrow
  have HW := hid wd
  have HK := hid hK
  clear hrow wd hK
  go_enter Tryd.func48, Tryd.ntmps48
  go_wp2
  go_loop [3, 8] (fun n i => ∃ k : Nat, k ≤ K ∧ i = .int .i64 k ∧ n = .int .i64 ((cnt k ws : Nat) : Int)) (fun _ i => K - (intOf i).toNat)
  case atStart => exact ⟨0, Nat.zero_le _, rfl, rfl⟩
  case round =>
    obtain ⟨k, hk, rfl, rfl⟩ := hrel
    have hb := cnt_le k ws (by have := HK.out; omega)
    obtain ⟨c, hc⟩ : ∃ c, c = cnt k ws := ⟨_, rfl⟩
    rw [← hc] at hb ⊢
    have HCC := hid hc
    clear hc
    by_cases hlt : k < K
    · have hi : k < ws.length := by have := HK.out; omega
      have hx := row_get ws k hi
      rw [← cell_of_row w q k _ _ _ HR.out] at hx
      obtain ⟨x, hxe⟩ : ∃ x, x = ws.getD k 0 := ⟨_, rfl⟩
      have HO := hid (ones_any x)
      have hxb := HW.out.getD k
      rw [← hxe] at hx hxb
      have hol := ones_lt x
      have HX := hid hxe
      have HXB := hid hxb
      have HI := hid hi
      obtain ⟨o, ho⟩ : ∃ o, o = ones x := ⟨_, rfl⟩
      rw [← ho] at HO hol
      have HOO := hid ho
      clear hxe hxb hi ho
      go_wp2_with (go_at_call 49; refine (HO.out _ HXB.out).mono ?_; rintro e w' ⟨rfl, rfl⟩)
      go_round
      case rel => exact ⟨k + 1, by omega, by go_num, by rw [cnt_succ k ws HI.out, ← HCC.out, ← HX.out, ← HOO.out]; go_num⟩
      case measure => simp [intOf]; omega
    · have e : k = K := by omega
      subst e
      go_wp2
      go_ret
      exact ⟨ret_int (by rw [HCC.out]), rfl⟩
/-- How many members lie below i. -/
def rank (n : Nat) (S : Nat → Bool) (i : Int) : Nat := card (min i.toNat n) S
theorem pop_mask (x r : Nat) (hr : r ≤ 64) : pop 64 (x &&& (2 ^ r - 1)) = card r (fun b => x.testBit b) := by
  rw [pop_card]
  obtain ⟨k, hk⟩ : ∃ k, 64 = r + k := ⟨64 - r, by omega⟩
  have h1 : card 64 (fun b => (x &&& (2 ^ r - 1)).testBit b) = card r (fun b => (x &&& (2 ^ r - 1)).testBit b) := by
    conv => lhs; rw [hk]
    exact card_more r (fun i hi => by rw [Nat.testBit_and, Nat.testBit_two_pow_sub_one]; simp; omega) k
  rw [h1]
  apply card_congr
  intro i hi
  rw [Nat.testBit_and, Nat.testBit_two_pow_sub_one]
  simp [hi]
set_option maxRecDepth 100000 in
set_option maxHeartbeats 2000000 in
theorem rank_in (p q n i : Nat) (ws : List Nat) (w : World) (h : IsSet w p q n ws) (h0 : 0 < i) (hi : i < n) :
    Calls Tryd.prog 12 #[.pointer (some ⟨p, 0, none⟩), .int .i64 i] w fun e w' => e = .returned (.int .i64 ((card i (mem ws) : Nat) : Int)) ∧ ∃ m, w' = w.drewN m := by
  have hc0 := h.c0
  have hc1 := h.c1
  have hl := h.hl
  have hn := h.hn
  unfold nw at hl
  obtain ⟨d, hd⟩ : ∃ d, d = i / 64 := ⟨_, rfl⟩
  obtain ⟨r, hr⟩ : ∃ r, r = i % 64 := ⟨_, rfl⟩
  have hdl : d < ws.length := by omega
  have hr64 : r < 64 := by omega
  have hd1 : (i : Int) / 64 = (d : Int) := by omega
  have hr1 : (i : Int).tmod 64 = (r : Int) := by rw [hr]; exact idx_mod i
  have hw1 : wrap64 (d : Int) = (d : Int) := by rw [wrap64_eq, IntKind.wrap_i64]; omega
  have hw2 : IntKind.i64.wrap (d : Int) = (d : Int) := by rw [IntKind.wrap_i64]; omega
  have hx := h.cw d hdl
  obtain ⟨x, hxe⟩ : ∃ x, x = ws.getD d 0 := ⟨_, rfl⟩
  have hxb := h.wd.getD d
  rw [← hxe] at hx hxb
  have hpw := pow_lt64 r hr64
  have hnum : bits .and .u64 (x : Int) ((2 ^ r - 1 : Nat) : Int) = ((x &&& (2 ^ r - 1) : Nat) : Int) := u64_and_nat x (2 ^ r - 1) hxb (by omega)
  have HCB := hid (fun W (hW : W.heap[q]? = w.heap[q]?) => countBits_pre q d ws.length ws W (hW.trans h.hq) (by omega) (by omega) h.wd)
  have HBL := hid (fun W => below_any r W hr64)
  have HON := hid (fun W => ones_any (x &&& (2 ^ r - 1)) W (and_lt _ _ hxb))
  have hfin : card i (mem ws) = cnt d ws + ones (x &&& (2 ^ r - 1)) := by
    rw [ones_pop, pop_mask x r (by omega), hxe, ← card_at ws d r (by omega) (by omega)]
    congr 1; omega
  have HF := hid hfin
  have hcd := cnt_le d ws (by omega)
  have hol := ones_lt (x &&& (2 ^ r - 1))
  obtain ⟨m, hm⟩ : ∃ m, m = 2 ^ r - 1 := ⟨_, rfl⟩
  rw [← hm] at hnum HBL HON HF hol
  obtain ⟨y, hy⟩ : ∃ y, y = x &&& m := ⟨_, rfl⟩
  rw [← hy] at hnum HON HF hol
  obtain ⟨o, ho⟩ : ∃ o, o = ones y := ⟨_, rfl⟩
  rw [← ho] at HON HF hol
  obtain ⟨c, hc⟩ : ∃ c, c = cnt d ws := ⟨_, rfl⟩
  rw [← hc] at HCB HF hcd
  have hlen := h.len
  have hdl2 : (d : Int) < (ws.length : Int) := by omega
  have hi0 : ¬ ((i : Int) ≤ 0) := by omega
  clear h hl hfin hm hy ho hc hxe hd hr hpw hxb
  go_enter Tryd.func12, Tryd.ntmps12
  go_wp2_with (first | (go_at_call 44; refine (inside_yes p n i _ hc0 (by omega) (by omega)).mono ?_; rintro e w1 ⟨rfl, hww⟩; subst hww))
  go_quiet ((first
    | (go_at_call 48; exact Calls.quiet_of_same (HCB.out _ rfl))
    | (go_at_call 50; exact Calls.quiet_of_same (HBL.out _))
    | (go_at_call 49; exact Calls.quiet_of_same (HON.out _))))
  go_wp2_with fail
  go_ret
  exact ⟨ret_int (by rw [HF.out]; go_num), _, rfl⟩
set_option maxRecDepth 100000 in
set_option maxHeartbeats 2000000 in
theorem rank_neg (p : Nat) (i : Int) (w : World) (hi : i ≤ 0) :
    Calls Tryd.prog 12 #[.pointer (some ⟨p, 0, none⟩), .int .i64 i] w fun e w' => e = .returned (.int .i64 0) ∧ w' = w := by
  go_enter Tryd.func12, Tryd.ntmps12
  go_wp2_with fail
  go_ret
  exact ⟨rfl, rfl⟩
set_option maxRecDepth 100000 in
set_option maxHeartbeats 2000000 in
theorem rank_far (p q n : Nat) (i : Int) (ws : List Nat) (w : World) (h : IsSet w p q n ws) (h0 : 0 < i) (hi : ¬ (i < n)) :
    Calls Tryd.prog 12 #[.pointer (some ⟨p, 0, none⟩), .int .i64 i] w fun e w' => e = .returned (.int .i64 ((card n (mem ws) : Nat) : Int)) ∧ w' = w := by
  have hc0 := h.c0
  have HC := hid (count_words p q n ws w h)
  rw [isSet_card h] at HC
  have HNI := hid (show ¬ (0 ≤ i ∧ i < n) by omega)
  have hi0 : ¬ (i ≤ 0) := by omega
  clear h hi h0
  go_enter Tryd.func12, Tryd.ntmps12
  go_wp2_with (first | (go_at_call 44; refine (inside_no p n i _ hc0 HNI.out).mono ?_; rintro e w1 ⟨rfl, hww⟩; subst hww) | (go_at_call 22; refine HC.out.mono ?_; rintro e w1 ⟨rfl, hww⟩; subst hww))
  go_ret
  exact ⟨rfl, rfl⟩
/-- Rank. -/
theorem rank_set {p q n : Nat} {S : Nat → Bool} (i : Int) (w : World) (h : SetAt w p q n S) :
    Calls Tryd.prog 12 #[.pointer (some ⟨p, 0, none⟩), .int .i64 i] w fun e w' => e = .returned (.int .i64 ((rank n S i : Nat) : Int)) ∧ ∃ m, w' = w.drewN m := by
  obtain ⟨ws, x, hx⟩ := h
  by_cases h0 : i ≤ 0
  · refine (rank_neg p i w h0).mono ?_
    rintro e w' ⟨rfl, rfl⟩
    refine ⟨ret_int ?_, 0, rfl⟩
    unfold rank
    rw [show min i.toNat n = 0 by omega]; rfl
  · by_cases h1 : i < n
    · obtain ⟨k, rfl⟩ := Int.eq_ofNat_of_zero_le (show 0 ≤ i by omega)
      refine (rank_in p q n k ws w x (by omega) (by omega)).mono ?_
      rintro e w' ⟨rfl, hb⟩
      refine ⟨ret_int ?_, hb⟩
      unfold rank
      rw [show min ((k : Int).toNat) n = k by omega, card_congr k (fun i _ => hx i)]
    · refine (rank_far p q n i ws w x (by omega) h1).mono ?_
      rintro e w' ⟨rfl, rfl⟩
      refine ⟨ret_int ?_, 0, rfl⟩
      unfold rank
      rw [show min i.toNat n = n by omega, card_congr n (fun i _ => hx i)]
end Go.Proofs.YtkagdmhijjfnnabDoor
