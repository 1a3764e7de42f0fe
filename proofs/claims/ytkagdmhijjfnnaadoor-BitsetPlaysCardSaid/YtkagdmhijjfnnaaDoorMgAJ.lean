import Derived.Test.YtkagdmhijjfnnaaDoorFromW
namespace Go.Proofs.YtkagdmhijjfnnaaDoor
open Go.RowKit Bs
theorem lo_eq (x : Nat) (h0 : x ≠ 0) (hx : x < 18446744073709551616) : lo x = x &&& (x - 1) := by
  unfold lo
  rw [show (x + 18446744073709551615) % 18446744073709551616 = x - 1 by omega]
theorem pop_loF (F : Nat) (hF : 2 ^ F = 18446744073709551616) (x : Nat) (hx : x < 18446744073709551616) : ∀ j, j ≤ pop F x → pop F (loN j x) + j = pop F x
  | 0, _ => by rw [loN, Nat.add_zero]
  | j + 1, h => by
    have ih := pop_loF F hF x hx j (by omega)
    have hn : loN j x ≠ 0 := by intro c; rw [c, pop_zero] at ih; omega
    have hl := loN_lt x hx j
    rw [loN, lo_eq _ hn hl]
    have := pop_lo F (loN j x) hn (by rw [hF]; exact hl)
    omega
theorem pop_loN (x : Nat) (hx : x < 18446744073709551616) (j : Nat) (h : j ≤ pop 64 x) : pop 64 (loN j x) + j = pop 64 x := pop_loF 64 (by decide) x hx j h
theorem loN_ne (x : Nat) (hx : x < 18446744073709551616) (j : Nat) (hj : j < pop 64 x) : loN j x ≠ 0 := by
  intro c
  have := pop_loN x hx j (by omega)
  rw [c, pop_zero] at this
  omega
theorem loN_bit (x b : Nat) : ∀ j, (loN j x).testBit b = true → x.testBit b = true
  | 0, h => h
  | j + 1, h => by
    rw [loN] at h
    unfold lo at h
    rw [Nat.testBit_and, Bool.and_eq_true] at h
    exact loN_bit x b j h.1
theorem lows_mem (k x : Nat) (hx : x < 18446744073709551616) : ∀ j, j ≤ pop 64 x → ∀ z ∈ lows k j x, ∃ b, b < 64 ∧ z = ((64 * k + b : Nat) : Int) ∧ x.testBit b = true
  | 0, _, z, hz => by cases hz
  | j + 1, h, z, hz => by
    rw [lows, List.mem_append] at hz
    rcases hz with hz | hz
    · exact lows_mem k x hx j (by omega) z hz
    · simp only [List.mem_singleton] at hz
      have hb := ctz_bit (loN j x) (loN_ne x hx j (by omega)) (loN_lt x hx j)
      exact ⟨_, hb.2, by rw [hz]; omega, loN_bit x _ j hb.1⟩
theorem msL_mem (ws : List Nat) (wd : Wd ws) : ∀ k, ∀ z ∈ msL k ws, ∃ i : Nat, z = (i : Int) ∧ mem ws i = true
  | 0, z, hz => by cases hz
  | k + 1, z, hz => by
    rw [msL, List.mem_append] at hz
    rcases hz with hz | hz
    · exact msL_mem ws wd k z hz
    · rw [ones_pop] at hz
      obtain ⟨b, hb, e, ht⟩ := lows_mem k _ (wd.getD k) _ (Nat.le_refl _) z hz
      exact ⟨64 * k + b, e, by rw [mem_at ws k b hb]; exact ht⟩
theorem shr_bit (x r : Nat) (hx : x < 18446744073709551616) (ht : x.testBit r = true) : bits .and .u64 (((x / 2 ^ r : Nat) : Nat) : Int) 1 = 1 := by
  have hle : x / 2 ^ r ≤ x := Nat.div_le_self _ _
  have := u64_and_nat (x / 2 ^ r) 1 (by omega) (by decide)
  rw [nat_mask1] at this
  rw [Nat.testBit_eq_decide_div_mod_eq, decide_eq_true_iff] at ht
  rw [ht] at this
  exact this
end Go.Proofs.YtkagdmhijjfnnaaDoor
namespace Bs
open Go.Lib (ctz)
theorem ctz_form (y : Nat) (h0 : y ≠ 0) (hy : y < 2 ^ 64) : ∃ m, y = 2 ^ ctz 64 y * (2 * m + 1) ∧ ctz 64 y < 64 := by
  have hc : ctz 64 y = Go.Lib.ctzFrom 64 y := by unfold ctz; rw [if_neg h0]
  rw [hc]
  exact Go.Lib.ctzFrom_spec 64 y (by omega) hy
theorem lo_form (c m b : Nat) : ((2 ^ c * (2 * m + 1)) &&& (2 ^ c * (2 * m + 1) - 1)).testBit b = ((2 ^ c * (2 * m + 1)).testBit b && decide (b ≠ c)) := by
  have hp : 0 < 2 ^ c := Nat.two_pow_pos c
  have e : 2 ^ c * (2 * m + 1) - 1 = 2 ^ c * (2 * m) + (2 ^ c - 1) := by rw [Nat.mul_add, Nat.mul_one]; omega
  rw [Nat.testBit_and, e, Nat.testBit_two_pow_mul_add _ (by omega), Nat.testBit_two_pow_mul]
  by_cases h : b < c
  · have h' : ¬ c ≤ b := by omega
    simp [h, h']
  · have h' : c ≤ b := by omega
    by_cases e : b = c
    · subst e; simp
    · obtain ⟨d, hd⟩ : ∃ d, b - c = d + 1 := ⟨b - c - 1, by omega⟩
      simp only [h, h', hd, if_false]
      rw [Nat.testBit_succ, Nat.testBit_succ, show (2 * m + 1) / 2 = m by omega, show 2 * m / 2 = m by omega]
      simp [e]
theorem lo_bits (y b : Nat) (h0 : y ≠ 0) (hy : y < 2 ^ 64) : (y &&& (y - 1)).testBit b = (y.testBit b && decide (b ≠ ctz 64 y)) := by
  obtain ⟨m, e, _⟩ := ctz_form y h0 hy
  generalize ctz 64 y = c at e ⊢
  subst e
  exact lo_form c m b
theorem ctz_low (y b : Nat) (h0 : y ≠ 0) (hy : y < 2 ^ 64) (hb : b < ctz 64 y) : y.testBit b = false := by
  obtain ⟨m, e, _⟩ := ctz_form y h0 hy
  generalize ctz 64 y = c at e hb
  subst e
  rw [Nat.testBit_two_pow_mul]
  simp; omega
theorem card_mono (S : Nat → Bool) {a b : Nat} (h : a ≤ b) : card a S ≤ card b S := by
  obtain ⟨k, rfl⟩ : ∃ k, b = a + k := ⟨b - a, by omega⟩
  rw [card_shift]; omega
theorem card_step (S : Nat → Bool) {a b : Nat} (h : a < b) (ha : S a = true) : card a S < card b S := by
  have := card_mono S (show a + 1 ≤ b by omega)
  rw [card, ha] at this
  simp at this; omega
theorem exists_nth (S : Nat → Bool) (j : Nat) : ∀ n, j < card n S → ∃ b, b < n ∧ S b = true ∧ card b S = j
  | 0, h => by simp [card] at h
  | n + 1, h => by
    rw [card] at h
    by_cases hj : j < card n S
    · obtain ⟨b, h1, h2, h3⟩ := exists_nth S j n hj
      exact ⟨b, by omega, h2, h3⟩
    · cases e : S n
      · rw [e] at h; simp at h; omega
      · rw [e] at h; simp at h
        exact ⟨n, by omega, e, by omega⟩
/-- The same place. -/
theorem nth_unique (S : Nat → Bool) {a b : Nat} (ha : S a = true) (hb : S b = true) (h : card a S = card b S) : a = b := by
  rcases Nat.lt_trichotomy a b with c | c | c
  · have := card_step S c ha; omega
  · exact c
  · have := card_step S c hb; omega
end Bs
namespace Go.Proofs.YtkagdmhijjfnnaaDoor
open Bs
theorem loN_inv (x : Nat) (hx : x < 18446744073709551616) : ∀ j, j ≤ pop 64 x → ∀ b, (loN j x).testBit b = (x.testBit b && decide (j ≤ card b (fun i => x.testBit i)))
  | 0, _, b => by simp [loN]
  | j + 1, h, b => by
    have ih := loN_inv x hx j (by omega)
    have hne := loN_ne x hx j (by omega)
    have hl := loN_lt x hx j
    have hc := ctz_bit (loN j x) hne hl
    have hlow := fun b => ctz_low (loN j x) b hne hl
    rw [loN, lo_eq _ hne hl, lo_bits _ b hne hl]
    have hcc := ih (Lib.ctz 64 (loN j x))
    rw [hc.1] at hcc
    simp only [Bool.true_eq, Bool.and_eq_true, decide_eq_true_eq] at hcc
    generalize Lib.ctz 64 (loN j x) = c at hc hlow hcc ⊢
    have hcj : card c (fun i => x.testBit i) = j := by
      apply Classical.byContradiction
      intro d
      obtain ⟨t, t1, t2, t3⟩ := exists_nth (fun i => x.testBit i) j c (by omega)
      have := hlow t t1
      rw [ih t] at this
      simp [t2, t3] at this
    rw [ih b, Bool.eq_iff_iff]
    simp only [Bool.and_eq_true, decide_eq_true_eq]
    constructor
    · rintro ⟨⟨a1, a2⟩, a3⟩
      refine ⟨a1, ?_⟩
      have : c < b := by
        apply Classical.byContradiction
        intro d
        have hb : b < c := by omega
        have := hlow b hb
        rw [ih b, a1] at this
        simp at this
        omega
      have := card_step (fun i => x.testBit i) this hcc.1
      omega
    · rintro ⟨a1, a2⟩
      exact ⟨⟨a1, by omega⟩, fun d => by subst d; omega⟩
/-- Below the lowest bit of what is left there are just j bits. -/
theorem ctz_rank (x : Nat) (hx : x < 18446744073709551616) (j : Nat) (h : j < pop 64 x) : x.testBit (Lib.ctz 64 (loN j x)) = true ∧ Lib.ctz 64 (loN j x) < 64 ∧ card (Lib.ctz 64 (loN j x)) (fun i => x.testBit i) = j := by
  have inv := loN_inv x hx j (by omega)
  have hne := loN_ne x hx j h
  have hl := loN_lt x hx j
  have hc := ctz_bit (loN j x) hne hl
  have hlow := fun b => ctz_low (loN j x) b hne hl
  have hcc := inv (Lib.ctz 64 (loN j x))
  rw [hc.1] at hcc
  simp only [Bool.true_eq, Bool.and_eq_true, decide_eq_true_eq] at hcc
  generalize Lib.ctz 64 (loN j x) = c at hc hlow hcc ⊢
  refine ⟨hcc.1, hc.2, ?_⟩
  apply Classical.byContradiction
  intro d
  obtain ⟨t, t1, t2, t3⟩ := exists_nth (fun i => x.testBit i) j c (by omega)
  have := hlow t t1
  rw [inv t] at this
  simp [t2, t3] at this
theorem card_at (ws : List Nat) (k c : Nat) (hc : c ≤ 64) (hk : k ≤ ws.length) : card (64 * k + c) (mem ws) = cnt k ws + card c (fun b => (ws.getD k 0).testBit b) := by
  rw [card_shift, cnt_card ws k hk]
  congr 1
  apply card_congr
  intro b hb
  rw [mem_at ws k b (by omega)]
theorem lows_get (k x : Nat) : ∀ j t, t < j → (lows k j x).getD t 0 = ((64 * k + Lib.ctz 64 (loN t x) : Nat) : Int)
  | 0, t, h => by omega
  | j + 1, t, h => by
    rw [lows, List.getD_eq_getElem?_getD, List.getElem?_append, length_lows]
    by_cases hj : t < j
    · rw [if_pos hj, ← List.getD_eq_getElem?_getD, lows_get k x j t hj]
    · have e : t = j := by omega
      subst e
      rw [if_neg hj]
      simp
      omega
/-- The members, each with as many below it as stand ahead of it. -/
theorem msL_get (ws : List Nat) (wd : Wd ws) : ∀ k, k ≤ ws.length → ∀ t, t < cnt k ws → ∃ i : Nat, (msL k ws).getD t 0 = (i : Int) ∧ mem ws i = true ∧ card i (mem ws) = t
  | 0, _, t, h => by rw [cnt_zero] at h; omega
  | k + 1, hk, t, h => by
    rw [cnt_succ k ws (by omega)] at h
    rw [msL, List.getD_eq_getElem?_getD, List.getElem?_append, length_msL ws k (by omega)]
    by_cases ht : t < cnt k ws
    · rw [if_pos ht, ← List.getD_eq_getElem?_getD]
      exact msL_get ws wd k (by omega) t ht
    · rw [if_neg ht, ← List.getD_eq_getElem?_getD, lows_get k _ _ _ (by omega)]
      have hx := wd.getD k
      have hr := ctz_rank (ws.getD k 0) hx (t - cnt k ws) (by rw [ones_pop] at h; omega)
      refine ⟨_, rfl, ?_, ?_⟩
      · rw [mem_at ws k _ hr.2.1]; exact hr.1
      · rw [card_at ws k _ (by omega) (by omega), hr.2.2]; omega
end Go.Proofs.YtkagdmhijjfnnaaDoor
namespace Go.Proofs.YtkagdmhijjfnnaaDoor
open Go.RowKit Bs
set_option maxHeartbeats 1000000 in
/-- countBits, of the first K words. -/
theorem countBits_pre (q K cap : Nat) (ws : List Nat) (w : World) (hrow : w.heap[q]? = some (.cells (row ws) 59 (0, 0))) (hK : K ≤ ws.length) (hle : K ≤ 1024) (wd : Wd ws) :
    Calls Tryd.prog 56 #[.slice (some ⟨q, 0, none⟩) K cap] w fun e w' => e = .returned (.int .i64 ((cnt K ws : Nat) : Int)) ∧ w' = w := by
  have HR := hid hrow
  have HW := hid wd
  have HK := hid hK
  clear hrow wd hK
  go_enter Tryd.func56, Tryd.ntmps56
  go_wp2
  go_loop [3, 8] (fun n i => ∃ k : Nat, k ≤ K ∧ i = .int .i64 k ∧ n = .int .i64 ((cnt k ws : Nat) : Int)) (fun _ i => K - (intOf i).toNat)
  case atStart => exact ⟨0, Nat.zero_le _, rfl, rfl⟩
  case round =>
    obtain ⟨k, hk, rfl, rfl⟩ := hrel
    have hb := cnt_le k ws (by have := HK.out; omega)
    obtain ⟨c, hc⟩ : ∃ c, c = cnt k ws := ⟨_, rfl⟩
    rw [← hc] at hb ⊢
    have HCC := hid hc
    clear hc
    by_cases hlt : k < K
    · have hi : k < ws.length := by have := HK.out; omega
      have hx := row_get ws k hi
      rw [← cell_of_row w q k _ _ _ HR.out] at hx
      obtain ⟨x, hxe⟩ : ∃ x, x = ws.getD k 0 := ⟨_, rfl⟩
      have HO := hid (ones_any x)
      have hxb := HW.out.getD k
      rw [← hxe] at hx hxb
      have hol := ones_lt x
      have HX := hid hxe
      have HXB := hid hxb
      have HI := hid hi
      obtain ⟨o, ho⟩ : ∃ o, o = ones x := ⟨_, rfl⟩
      rw [← ho] at HO hol
      have HOO := hid ho
      clear hxe hxb hi ho
      go_wp2_with (go_at_call 57; refine (HO.out _ HXB.out).mono ?_; rintro e w' ⟨rfl, rfl⟩)
      go_round
      case rel => exact ⟨k + 1, by omega, by go_num, by rw [cnt_succ k ws HI.out, ← HCC.out, ← HX.out, ← HOO.out]; go_num⟩
      case measure => simp [intOf]; omega
    · have e : k = K := by omega
      subst e
      go_wp2
      go_ret
      exact ⟨ret_int (by rw [HCC.out]), rfl⟩
/-- How many members lie below i. -/
def rank (n : Nat) (S : Nat → Bool) (i : Int) : Nat := card (min i.toNat n) S
theorem pop_mask (x r : Nat) (hr : r ≤ 64) : pop 64 (x &&& (2 ^ r - 1)) = card r (fun b => x.testBit b) := by
  rw [pop_card]
  obtain ⟨k, hk⟩ : ∃ k, 64 = r + k := ⟨64 - r, by omega⟩
  have h1 : card 64 (fun b => (x &&& (2 ^ r - 1)).testBit b) = card r (fun b => (x &&& (2 ^ r - 1)).testBit b) := by
    conv => lhs; rw [hk]
    exact card_more r (fun i hi => by rw [Nat.testBit_and, Nat.testBit_two_pow_sub_one]; simp; omega) k
  rw [h1]
  apply card_congr
  intro i hi
  rw [Nat.testBit_and, Nat.testBit_two_pow_sub_one]
  simp [hi]
set_option maxRecDepth 100000 in
set_option maxHeartbeats 2000000 in
theorem rank_in (p q n i : Nat) (ws : List Nat) (w : World) (h : IsSet w p q n ws) (h0 : 0 < i) (hi : i < n) :
    Calls Tryd.prog 28 #[.pointer (some ⟨p, 0, none⟩), .int .i64 i] w fun e w' => e = .returned (.int .i64 ((card i (mem ws) : Nat) : Int)) ∧ ∃ m, w' = w.drewN m := by
  have hc0 := h.c0
  have hc1 := h.c1
  have hl := h.hl
  have hn := h.hn
  unfold nw at hl
  obtain ⟨d, hd⟩ : ∃ d, d = i / 64 := ⟨_, rfl⟩
  obtain ⟨r, hr⟩ : ∃ r, r = i % 64 := ⟨_, rfl⟩
  have hdl : d < ws.length := by omega
  have hr64 : r < 64 := by omega
  have hd1 : (i : Int) / 64 = (d : Int) := by omega
  have hr1 : (i : Int).tmod 64 = (r : Int) := by rw [hr]; exact idx_mod i
  have hw1 : wrap64 (d : Int) = (d : Int) := by rw [wrap64_eq, IntKind.wrap_i64]; omega
  have hw2 : IntKind.i64.wrap (d : Int) = (d : Int) := by rw [IntKind.wrap_i64]; omega
  have hx := h.cw d hdl
  obtain ⟨x, hxe⟩ : ∃ x, x = ws.getD d 0 := ⟨_, rfl⟩
  have hxb := h.wd.getD d
  rw [← hxe] at hx hxb
  have hpw := pow_lt64 r hr64
  have hnum : bits .and .u64 (x : Int) ((2 ^ r - 1 : Nat) : Int) = ((x &&& (2 ^ r - 1) : Nat) : Int) := u64_and_nat x (2 ^ r - 1) hxb (by omega)
  have HCB := hid (fun W (hW : W.heap[q]? = w.heap[q]?) => countBits_pre q d ws.length ws W (hW.trans h.hq) (by omega) (by omega) h.wd)
  have HBL := hid (fun W => below_any r W hr64)
  have HON := hid (fun W => ones_any (x &&& (2 ^ r - 1)) W (and_lt _ _ hxb))
  have hfin : card i (mem ws) = cnt d ws + ones (x &&& (2 ^ r - 1)) := by
    rw [ones_pop, pop_mask x r (by omega), hxe, ← card_at ws d r (by omega) (by omega)]
    congr 1; omega
  have HF := hid hfin
  have hcd := cnt_le d ws (by omega)
  have hol := ones_lt (x &&& (2 ^ r - 1))
  obtain ⟨m, hm⟩ : ∃ m, m = 2 ^ r - 1 := ⟨_, rfl⟩
  rw [← hm] at hnum HBL HON HF hol
  obtain ⟨y, hy⟩ : ∃ y, y = x &&& m := ⟨_, rfl⟩
  rw [← hy] at hnum HON HF hol
  obtain ⟨o, ho⟩ : ∃ o, o = ones y := ⟨_, rfl⟩
  rw [← ho] at HON HF hol
  obtain ⟨c, hc⟩ : ∃ c, c = cnt d ws := ⟨_, rfl⟩
  rw [← hc] at HCB HF hcd
  have hlen := h.len
  have hdl2 : (d : Int) < (ws.length : Int) := by omega
  have hi0 : ¬ ((i : Int) ≤ 0) := by omega
  clear h hl hfin hm hy ho hc hxe hd hr hpw hxb
  go_enter Tryd.func28, Tryd.ntmps28
  go_wp2_with (first | (go_at_call 59; refine (inside_yes p n i _ hc0 (by omega) (by omega)).mono ?_; rintro e w1 ⟨rfl, hww⟩; subst hww))
  go_quiet ((first
    | (go_at_call 56; exact Calls.quiet_of_same (HCB.out _ rfl))
    | (go_at_call 60; exact Calls.quiet_of_same (HBL.out _))
    | (go_at_call 57; exact Calls.quiet_of_same (HON.out _))))
  go_wp2_with fail
  go_ret
  exact ⟨ret_int (by rw [HF.out]; go_num), _, rfl⟩
set_option maxRecDepth 100000 in
set_option maxHeartbeats 2000000 in
theorem rank_neg (p : Nat) (i : Int) (w : World) (hi : i ≤ 0) :
    Calls Tryd.prog 28 #[.pointer (some ⟨p, 0, none⟩), .int .i64 i] w fun e w' => e = .returned (.int .i64 0) ∧ w' = w := by
  go_enter Tryd.func28, Tryd.ntmps28
  go_wp2_with fail
  go_ret
  exact ⟨rfl, rfl⟩
set_option maxRecDepth 100000 in
set_option maxHeartbeats 2000000 in
theorem rank_far (p q n : Nat) (i : Int) (ws : List Nat) (w : World) (h : IsSet w p q n ws) (h0 : 0 < i) (hi : ¬ (i < n)) :
    Calls Tryd.prog 28 #[.pointer (some ⟨p, 0, none⟩), .int .i64 i] w fun e w' => e = .returned (.int .i64 ((card n (mem ws) : Nat) : Int)) ∧ w' = w := by
  have hc0 := h.c0
  have HC := hid (count_words p q n ws w h)
  rw [isSet_card h] at HC
  have HNI := hid (show ¬ (0 ≤ i ∧ i < n) by omega)
  have hi0 : ¬ (i ≤ 0) := by omega
  clear h hi h0
  go_enter Tryd.func28, Tryd.ntmps28
  go_wp2_with (first | (go_at_call 59; refine (inside_no p n i _ hc0 HNI.out).mono ?_; rintro e w1 ⟨rfl, hww⟩; subst hww) | (go_at_call 23; refine HC.out.mono ?_; rintro e w1 ⟨rfl, hww⟩; subst hww))
  go_ret
  exact ⟨rfl, rfl⟩
/-- Rank. -/
theorem rank_set {p q n : Nat} {S : Nat → Bool} (i : Int) (w : World) (h : SetAt w p q n S) :
    Calls Tryd.prog 28 #[.pointer (some ⟨p, 0, none⟩), .int .i64 i] w fun e w' => e = .returned (.int .i64 ((rank n S i : Nat) : Int)) ∧ ∃ m, w' = w.drewN m := by
  obtain ⟨ws, x, hx⟩ := h
  by_cases h0 : i ≤ 0
  · refine (rank_neg p i w h0).mono ?_
    rintro e w' ⟨rfl, rfl⟩
    refine ⟨ret_int ?_, 0, rfl⟩
    unfold rank
    rw [show min i.toNat n = 0 by omega]; rfl
  · by_cases h1 : i < n
    · obtain ⟨k, rfl⟩ := Int.eq_ofNat_of_zero_le (show 0 ≤ i by omega)
      refine (rank_in p q n k ws w x (by omega) (by omega)).mono ?_
      rintro e w' ⟨rfl, hb⟩
      refine ⟨ret_int ?_, hb⟩
      unfold rank
      rw [show min ((k : Int).toNat) n = k by omega, card_congr k (fun i _ => hx i)]
    · refine (rank_far p q n i ws w x (by omega) h1).mono ?_
      rintro e w' ⟨rfl, rfl⟩
      refine ⟨ret_int ?_, 0, rfl⟩
      unfold rank
      rw [show min i.toNat n = n by omega, card_congr n (fun i _ => hx i)]
end Go.Proofs.YtkagdmhijjfnnaaDoor
namespace Go.Proofs.YtkagdmhijjfnnaaDoor
open Go.RowKit Bs
/-- r is the member with k others below it, or -1. -/
def IsSel (n : Nat) (S : Nat → Bool) (k r : Int) : Prop := (∃ j : Nat, r = j ∧ j < n ∧ S j = true ∧ (card j S : Int) = k) ∨ (r = -1 ∧ (k < 0 ∨ (card n S : Int) ≤ k))
theorem IsSel.one {n : Nat} {S : Nat → Bool} {k r r' : Int} (h : IsSel n S k r) (h' : IsSel n S k r') : r = r' := by
  rcases h with ⟨j, rfl, hj, hs, hc⟩ | ⟨rfl, hk⟩ <;> rcases h' with ⟨j', rfl, hj', hs', hc'⟩ | ⟨rfl, hk'⟩
  · rw [nth_unique S hs hs' (by omega)]
  · have := card_step S hj hs; omega
  · have := card_step S hj' hs'; omega
  · rfl
theorem IsSel.ex (n : Nat) (S : Nat → Bool) (k : Int) : ∃ r, IsSel n S k r := by
  by_cases h : k < 0 ∨ (card n S : Int) ≤ k
  · exact ⟨-1, Or.inr ⟨rfl, h⟩⟩
  · obtain ⟨b, h1, h2, h3⟩ := exists_nth S k.toNat n (by omega)
    exact ⟨b, Or.inl ⟨b, rfl, h1, h2, by omega⟩⟩
set_option maxRecDepth 100000 in
set_option maxHeartbeats 2000000 in
theorem sel_neg (p : Nat) (k : Int) (w : World) (hk : k < 0) :
    Calls Tryd.prog 29 #[.pointer (some ⟨p, 0, none⟩), .int .i64 k] w fun e w' => e = .returned (.int .i64 (-1)) ∧ w' = w := by
  go_enter Tryd.func29, Tryd.ntmps29
  go_wp2_with fail
  go_ret
  exact ⟨rfl, rfl⟩
set_option maxRecDepth 100000 in
set_option maxHeartbeats 4000000 in
theorem sel_words (p q n k : Nat) (ws : List Nat) (w : World) (h : IsSet w p q n ws) (ht : Tab w) (hk : k ≤ 9223372036854775807) :
    Calls Tryd.prog 29 #[.pointer (some ⟨p, 0, none⟩), .int .i64 k] w fun e w' => ∃ r, e = .returned (.int .i64 r) ∧ IsSel n (mem ws) k r ∧ w' = w := by
  have hc1 := h.c1
  have hle := h.len
  have HI := hid h
  have HT := hid ht
  clear h ht
  obtain ⟨L, hL⟩ : ∃ L, L = ws.length := ⟨_, rfl⟩
  have HL := hid hL
  rw [← hL] at hc1 hle
  clear hL
  have hk0 : ¬ ((k : Int) < 0) := by omega
  go_enter Tryd.func29, Tryd.ntmps29
  go_wp2_with (go_at_call 55; refine (list_cell p _ _ _ _ hc1).mono ?_; rintro e w1 ⟨rfl, hww⟩; subst hww)
  go_loop [1, 13] (fun kk i => ∃ d m : Nat, d ≤ L ∧ i = .int .i64 d ∧ kk = .int .i64 m ∧ cnt d ws + m = k) (fun _ i => L - (intOf i).toNat)
  case atStart => exact ⟨0, k, Nat.zero_le _, rfl, rfl, by rw [cnt_zero]; omega⟩
  case round =>
    obtain ⟨d, m, hd, rfl, rfl, hsum⟩ := hrel
    have HS := hid hsum
    have hmk : m ≤ k := by omega
    clear hsum
    by_cases hlt : d < L
    · have hi : d < ws.length := by rw [← HL.out]; exact hlt
      have hx := HI.out.cw d hi
      obtain ⟨x, hxe⟩ : ∃ x, x = ws.getD d 0 := ⟨_, rfl⟩
      have hxb := HI.out.wd.getD d
      rw [← hxe] at hx hxb
      have hol := ones_lt x
      have HO := hid (fun W => ones_any x W hxb)
      have HXB := hid hxb
      have HX := hid hxe
      have HD := hid hi
      obtain ⟨o, ho⟩ : ∃ o, o = ones x := ⟨_, rfl⟩
      rw [← ho] at HO hol
      have HOO := hid ho
      clear hxe hxb ho hi
      by_cases hge : o ≤ m
      · have HN := hid (show cnt (d + 1) ws + (m - o) = k by
          rw [cnt_succ d ws HD.out, ← HX.out, ← HOO.out]; have := HS.out; omega)
        go_wp2_with (go_at_call 57; refine (HO.out _).mono ?_; rintro e w1 ⟨rfl, hww⟩; subst hww)
        go_round
        case rel => exact ⟨d + 1, m - o, by omega, by go_num, by go_num, HN.out⟩
        case measure => simp [intOf]; omega
      · have hmo : m < o := by omega
        clear hge
        go_wp2_with (go_at_call 57; refine (HO.out _).mono ?_; rintro e w1 ⟨rfl, hww⟩; subst hww)
        go_loop [6, 27] (fun r t => ∃ j : Nat, j ≤ m ∧ t = .int .i64 j ∧ r = .int .u64 ((loN j x : Nat) : Int)) (fun _ t => m - (intOf t).toNat)
        case atStart => exact ⟨0, Nat.zero_le _, rfl, rfl⟩
        case round =>
          obtain ⟨j, hj, rfl, rfl⟩ := hrel
          have hyb := loN_lt x HXB.out j
          by_cases hjm : j < m
          · have HSUC : Hid (loN (j + 1) x = lo (loN j x)) := rfl
            have hlo := lo_num (loN j x) hyb
            obtain ⟨y, hy⟩ : ∃ y, y = loN j x := ⟨_, rfl⟩
            rw [← hy] at hlo HSUC ⊢
            obtain ⟨z, hz⟩ : ∃ z, z = lo y := ⟨_, rfl⟩
            rw [← hz] at hlo HSUC
            have HSS := hid HSUC.out
            clear hy hz HSUC hyb
            go_wp2_with fail
            go_round
            case rel => exact ⟨j + 1, by omega, by go_num, by rw [HSS.out]⟩
            case measure => simp [intOf]; omega
          · have e : j = m := by omega
            subst e
            have hrk := ctz_rank x HXB.out j (by rw [← ones_pop, ← HOO.out]; exact hmo)
            have HTZ := hid (fun W (h : Tab W) => tz_all (loN j x) W hyb h)
            have hct := ctz_le (loN j x) hyb
            obtain ⟨y, hy⟩ : ∃ y, y = loN j x := ⟨_, rfl⟩
            rw [← hy] at hrk HTZ hct ⊢
            obtain ⟨t, htt⟩ : ∃ t, t = Lib.ctz 64 y := ⟨_, rfl⟩
            rw [← htt] at hrk HTZ hct
            have HRK := hid hrk
            clear hrk hy htt hyb
            go_wp2_with (go_at_call 58; refine (HTZ.out _ HT.out).mono ?_; rintro e w1 ⟨rfl, hww⟩; subst hww)
            go_ret
            refine ⟨_, rfl, Or.inl ⟨64 * d + t, by omega, ?_, ?_, ?_⟩, rfl⟩
            · apply Classical.byContradiction
              intro c0
              have := HI.out.cl (64 * d + t) (by omega)
              rw [mem_at ws d t HRK.out.2.1, ← HX.out, HRK.out.1] at this
              cases this
            · rw [mem_at ws d t HRK.out.2.1, ← HX.out]; exact HRK.out.1
            · have a := HRK.out.2.2
              have b := HS.out
              rw [card_at ws d t hct (by have := HD.out; omega), ← HX.out, a]
              omega
    · have e : d = L := by omega
      subst e
      go_wp2_with fail
      go_ret
      refine ⟨_, rfl, Or.inr ⟨rfl, Or.inr ?_⟩, rfl⟩
      rw [← isSet_card HI.out, ← HL.out]
      have := HS.out
      omega
theorem IsSel.turn {n : Nat} {S T : Nat → Bool} {k r : Int} (h : IsSel n S k r) (e : ∀ i, S i = T i) : IsSel n T k r := by
  have : S = T := funext e
  subst this; exact h
/-- Select. -/
theorem sel_set {p q n : Nat} {S : Nat → Bool} (k r : Int) (w : World) (h : SetAt w p q n S) (ht : Tab w) (hk : k ≤ 9223372036854775807) (hr : IsSel n S k r) :
    Calls Tryd.prog 29 #[.pointer (some ⟨p, 0, none⟩), .int .i64 k] w fun e w' => e = .returned (.int .i64 r) ∧ w' = w := by
  obtain ⟨ws, x, hx⟩ := h
  by_cases h0 : k < 0
  · refine (sel_neg p k w h0).mono ?_
    rintro e w' ⟨rfl, rfl⟩
    exact ⟨ret_int (IsSel.one (Or.inr ⟨rfl, Or.inl h0⟩) hr), rfl⟩
  · obtain ⟨m, rfl⟩ := Int.eq_ofNat_of_zero_le (show 0 ≤ k by omega)
    refine (sel_words p q n m ws w x ht (by omega)).mono ?_
    rintro e w' ⟨r', rfl, hs, rfl⟩
    exact ⟨ret_int ((hs.turn hx).one hr), rfl⟩
end Go.Proofs.YtkagdmhijjfnnaaDoor
