import Derived.Test.YtkagdmhijjfnnabDoorNew
import Derived.Test.YtkagdmhijjfnnabDoorPop
namespace Go.Proofs.YtkagdmhijjfnnabDoor
open Go.RowKit Bs
theorem mp_bound (g : Nat → Nat) (hg : small g) : ∀ (k x : Nat), mp k g x ≤ 68 * rep k 1
  | 0, _ => by simp [mp, rep]
  | k + 1, x => by
    have h := hg (x % 256) (Nat.mod_lt _ (by decide))
    have := mp_bound g hg k (x / 256)
    rw [mp, rep]; omega
theorem rep1 : rep 8 1 = 72340172838076673 := by decide
theorem o3_pop (x : Nat) : o3 (o2 (o1 x)) = mp 8 (pop 8) x := by
  have e1 : o1 x = mp 8 s1 x := by unfold o1; rw [← rep55]; exact t1 8 x
  have e2 : o2 (mp 8 s1 x) = mp 8 (fun b => s2 (s1 b)) x := by
    unfold o2
    rw [← rep33, t2 8, mp_comp s1 s2 (fun b hb => (b4 ⟨b, hb⟩).1)]
  rw [e1, e2]
  have hb := mp_bound _ small_s 8 x
  rw [rep1] at hb
  unfold o3
  rw [Nat.mod_eq_of_lt (by omega), ← rep0f, t3 _ small_s 8 x]
  exact mp_congr _ _ (fun b hb => b3 ⟨b, hb⟩) 8 x
/-- OnesCount64 counts the bits. -/
theorem ones_pop (x : Nat) : ones x = pop 64 x := by
  unfold ones
  rw [o3_pop]
  unfold o4 o5 o6
  have hz : mp 8 (pop 8) x = pop 8 (x % 256) + 256 * (pop 8 (x / 256 % 256) + 256 * (pop 8 (x / 256 / 256 % 256) + 256 * (pop 8 (x / 256 / 256 / 256 % 256) + 256 * (pop 8 (x / 256 / 256 / 256 / 256 % 256) + 256 * (pop 8 (x / 256 / 256 / 256 / 256 / 256 % 256) + 256 * (pop 8 (x / 256 / 256 / 256 / 256 / 256 / 256 % 256) + 256 * (pop 8 (x / 256 / 256 / 256 / 256 / 256 / 256 / 256 % 256) + 256 * 0))))))) := rfl
  simp only [pop8_mod] at hz
  rw [fold8 _ _ _ _ _ _ _ _ _ hz (pop8_le _) (pop8_le _) (pop8_le _) (pop8_le _) (pop8_le _) (pop8_le _) (pop8_le _) (pop8_le _), pop_bytes]
theorem cnt_card (ws : List Nat) : ∀ k, k ≤ ws.length → cnt k ws = card (64 * k) (mem ws)
  | 0, _ => by rw [cnt_zero]; rfl
  | k + 1, h => by
    rw [cnt_succ k ws (by omega), cnt_card ws k (by omega), show 64 * (k + 1) = 64 * k + 64 by omega, card_shift, ones_pop, pop_card]
    congr 1
    apply card_congr
    intro b hb
    rw [mem_at ws k b hb]
theorem isSet_card {w : World} {p q n : Nat} {ws : List Nat} (h : IsSet w p q n ws) : cnt ws.length ws = card n (mem ws) := by
  rw [cnt_card ws ws.length (Nat.le_refl _)]
  have hl := h.hl
  unfold nw at hl
  obtain ⟨k, hk⟩ : ∃ k, 64 * ws.length = n + k := ⟨64 * ws.length - n, by omega⟩
  rw [hk, card_more n h.cl]
/-- Count. -/
theorem count_set {p q n : Nat} {S : Nat → Bool} (w : World) (h : SetAt w p q n S) :
    Calls Tryd.prog 22 #[.pointer (some ⟨p, 0, none⟩)] w fun e w' => e = .returned (.int .i64 ((card n S : Nat) : Int)) ∧ w' = w := by
  obtain ⟨ws, x, hx⟩ := h
  refine (count_words p q n ws w x).mono ?_
  rintro e w' ⟨rfl, rfl⟩
  refine ⟨ret_int ?_, rfl⟩
  rw [isSet_card x, card_congr n (fun i _ => hx i)]
set_option maxHeartbeats 1000000 in
/-- Not. -/
theorem not_new {p q n p' q' n' : Nat} {S T : Nat → Bool} (w : World) (h : SetAt w p q n S) (h' : SetAt w p' q' n' T) :
    Calls Tryd.prog 31 #[.pointer (some ⟨p, 0, none⟩), .pointer (some ⟨p', 0, none⟩)] w fun e w' => ∃ p q, e = .returned (.pointer (some ⟨p, 0, none⟩)) ∧ Fresh w w' p q n' (fun i => T i && !S i) := by
  have HI := hid h
  have HI' := hid h'
  clear h h'
  go_enter Tryd.func31, Tryd.ntmps31
  go_wp2_with fail
  refine (clone_new _ HI'.out).mono ?_
  rintro e w2 ⟨p2, q2, rfl, f2⟩
  have F2 := hid f2
  clear f2
  go_wp2_with fail
  refine (andnotwith_any _ F2.out.at' (HI.out.low F2.out.low) (Or.inr (by have := HI.out.qlt; have := F2.out.hq; omega))).mono ?_
  rintro e w3 ⟨rfl, hs3, hg3⟩
  go_wp2_with fail
  go_ret
  exact ⟨_, _, rfl, F2.out.hp, F2.out.hq, hs3, Chg.below F2.out.low hg3 F2.out.hq F2.out.low.size⟩
def meetW (ws vs : List Nat) : Bool := (List.range (min ws.length vs.length)).any fun k => (ws.getD k 0 &&& vs.getD k 0) != 0
theorem meetW_yes (ws vs : List Nat) (k : Nat) (hk : k < min ws.length vs.length) (h : ((ws.getD k 0 &&& vs.getD k 0) != 0) = true) : meetW ws vs = true := by
  unfold meetW
  rw [List.any_eq_true]
  exact ⟨k, List.mem_range.2 hk, h⟩
theorem meetW_no (ws vs : List Nat) (h : ∀ k, k < min ws.length vs.length → ((ws.getD k 0 &&& vs.getD k 0) != 0) = false) : meetW ws vs = false := by
  unfold meetW
  rw [List.any_eq_false]
  intro k hk
  rw [List.mem_range] at hk
  rw [h k hk]; simp
theorem meetW_iff (ws vs : List Nat) (h1 : Wd ws) : meetW ws vs = true ↔ ∃ i, mem ws i = true ∧ mem vs i = true := by
  rw [← meets_iff ws vs h1]
  unfold meetW
  rw [List.any_eq_true]
  constructor
  · rintro ⟨k, hk, h⟩
    rw [List.mem_range] at hk
    exact ⟨k, by omega, by omega, by simpa using h⟩
  · rintro ⟨k, h1, h2, h⟩
    exact ⟨k, List.mem_range.2 (by omega), by simpa using h⟩
theorem meet_num (x y : Nat) (hx : x < 18446744073709551616) (hy : y < 18446744073709551616) (b : Bool) (hb : ((x &&& y) != 0) = b) : (bits .and .u64 (x : Int) (y : Int) != 0) = b := by
  rw [u64_and_nat x y hx hy, ← hb, Bool.eq_iff_iff, bne_iff_ne, bne_iff_ne]; omega
set_option maxRecDepth 100000 in
set_option maxHeartbeats 1000000 in
theorem meets_words (p q n p' q' n' : Nat) (ws vs : List Nat) (w : World) (h : IsSet w p q n ws) (h' : IsSet w p' q' n' vs) :
    Calls Tryd.prog 35 #[.pointer (some ⟨p, 0, none⟩), .pointer (some ⟨p', 0, none⟩)] w fun e w' => e = .returned (.bool (meetW ws vs)) ∧ Below w.heap.size w w' := by
  have hc1 := h.c1
  have hd1 := h'.c1
  obtain ⟨M, hM⟩ : ∃ M, M = min ws.length vs.length := ⟨_, rfl⟩
  have hmin : min (ws.length : Int) (vs.length : Int) = (M : Int) := by omega
  have HI := hid h
  have HI' := hid h'
  have hle := h.len
  have HM := hid hM
  have hM1 : M ≤ ws.length := by omega
  have hM2 : M ≤ vs.length := by omega
  clear h h' hM
  obtain ⟨r, hr⟩ : ∃ r, r = meetW ws vs := ⟨_, rfl⟩
  have HR := hid hr
  rw [← hr]
  clear hr
  go_enter Tryd.func35, Tryd.ntmps35
  go_wp2_with (first | (go_at_call_of 51 p; refine (list_cell p _ _ _ _ hc1).mono ?_; rintro e w' ⟨rfl, hww⟩; subst hww) | (go_at_call_of 51 p'; refine (list_cell p' _ _ _ _ hd1).mono ?_; rintro e w1 ⟨rfl, hww⟩; subst hww))
  rename_i W
  go_loopw [17] (fun i wr => ∃ k : Nat, k ≤ M ∧ i = .int .i64 k ∧ (∃ m, wr = w1.drewN m) ∧ ∀ j, j < k → ((ws.getD j 0 &&& vs.getD j 0) != 0) = false) (fun i _ => M - (intOf i).toNat)
  case atStart => exact ⟨0, Nat.zero_le _, rfl, ⟨0, rfl⟩, fun j hj => by omega⟩
  case round =>
    obtain ⟨k, hk, rfl, ⟨m, rfl⟩, hall⟩ := hrel
    have HA := hid hall
    clear hall
    by_cases hlt : k < M
    · have hk1 : (k : Int) < (ws.length : Int) := by omega
      have hk2 : (k : Int) < (vs.length : Int) := by omega
      have hx := HI.out.cw k (by omega)
      have hy := HI'.out.cw k (by omega)
      have hxb := HI.out.wd.getD k
      have hyb := HI'.out.wd.getD k
      obtain ⟨x, hxe⟩ : ∃ x, x = ws.getD k 0 := ⟨_, rfl⟩
      obtain ⟨y, hye⟩ : ∃ y, y = vs.getD k 0 := ⟨_, rfl⟩
      rw [← hxe] at hx hxb
      rw [← hye] at hy hyb
      have HX := hid hxe
      have HY := hid hye
      cases hb : ((x &&& y) != 0)
      · have hnum := meet_num x y hxb hyb false hb
        have HZ := hid hb
        clear hxe hye hxb hyb hb
        go_wp2_with fail
        go_quiet (fail)
        go_wp2_with fail
        go_roundw
        case rel =>
          refine ⟨k + 1, by omega, by go_num, ⟨_, rfl⟩, fun j hj => ?_⟩
          rcases Nat.lt_succ_iff_lt_or_eq.1 hj with c | c
          · exact HA.out j c
          · subst c; rw [← HX.out, ← HY.out]; exact HZ.out
        case measure => simp [intOf]; omega
      · have hnum := meet_num x y hxb hyb true hb
        have HZ := hid hb
        clear hxe hye hxb hyb hb
        go_wp2_with fail
        go_quiet (fail)
        go_wp2_with fail
        go_ret
        refine ⟨ret_bool ?_, below_drewN (belowDrewN m) _⟩
        rw [HR.out, meetW_yes ws vs k (by rw [← HM.out]; exact hlt) (by rw [← HX.out, ← HY.out]; exact HZ.out)]
    · have e : k = M := by omega
      subst e
      go_wp2_with fail
      go_ret
      refine ⟨ret_bool ?_, belowDrewN _⟩
      rw [HR.out, meetW_no ws vs (by rw [← HM.out]; exact HA.out)]
theorem meets_yes {p q n p' q' n' : Nat} {S T : Nat → Bool} (w : World) (h : SetAt w p q n S) (h' : SetAt w p' q' n' T) (he : ∃ i, S i = true ∧ T i = true) :
    Calls Tryd.prog 35 #[.pointer (some ⟨p, 0, none⟩), .pointer (some ⟨p', 0, none⟩)] w fun e w' => e = .returned (.bool true) ∧ Below w.heap.size w w' := by
  obtain ⟨ws, x, hx⟩ := h
  obtain ⟨vs, y, hy⟩ := h'
  refine (meets_words p q n p' q' n' ws vs w x y).mono ?_
  rintro e w' ⟨rfl, hb⟩
  refine ⟨ret_bool ?_, hb⟩
  rw [meetW_iff ws vs x.wd]
  obtain ⟨i, a, b⟩ := he
  exact ⟨i, by rw [hx]; exact a, by rw [hy]; exact b⟩
theorem meets_no {p q n p' q' n' : Nat} {S T : Nat → Bool} (w : World) (h : SetAt w p q n S) (h' : SetAt w p' q' n' T) (he : ∀ i, S i = true → T i = false) :
    Calls Tryd.prog 35 #[.pointer (some ⟨p, 0, none⟩), .pointer (some ⟨p', 0, none⟩)] w fun e w' => e = .returned (.bool false) ∧ Below w.heap.size w w' := by
  obtain ⟨ws, x, hx⟩ := h
  obtain ⟨vs, y, hy⟩ := h'
  refine (meets_words p q n p' q' n' ws vs w x y).mono ?_
  rintro e w' ⟨rfl, hb⟩
  refine ⟨ret_bool ?_, hb⟩
  cases hm : meetW ws vs
  · rfl
  · obtain ⟨i, a, b⟩ := (meetW_iff ws vs x.wd).1 hm
    rw [hx] at a
    rw [hy, he i a] at b
    cases b
theorem subset_yes {p q n p' q' n' : Nat} {S T : Nat → Bool} (w : World) (h : SetAt w p q n S) (h' : SetAt w p' q' n' T) (he : ∀ i, S i = true → T i = true) :
    Calls Tryd.prog 34 #[.pointer (some ⟨p, 0, none⟩), .pointer (some ⟨p', 0, none⟩)] w fun e w' => e = .returned (.bool true) ∧ w' = w := by
  obtain ⟨ws, x, hx⟩ := h
  obtain ⟨vs, y, hy⟩ := h'
  refine (subset_words p q n p' q' n' ws vs w x y).mono ?_
  rintro e w' ⟨rfl, rfl⟩
  refine ⟨ret_bool ?_, rfl⟩
  exact (subW_iff ws vs x.wd y.wd).2 (fun i => by rw [hx, hy]; exact he i)
theorem subset_no {p q n p' q' n' : Nat} {S T : Nat → Bool} (w : World) (h : SetAt w p q n S) (h' : SetAt w p' q' n' T) (he : ∃ i, S i = true ∧ T i = false) :
    Calls Tryd.prog 34 #[.pointer (some ⟨p, 0, none⟩), .pointer (some ⟨p', 0, none⟩)] w fun e w' => e = .returned (.bool false) ∧ w' = w := by
  obtain ⟨ws, x, hx⟩ := h
  obtain ⟨vs, y, hy⟩ := h'
  refine (subset_words p q n p' q' n' ws vs w x y).mono ?_
  rintro e w' ⟨rfl, rfl⟩
  refine ⟨ret_bool ?_, rfl⟩
  cases hm : subW ws vs
  · rfl
  · obtain ⟨i, a, b⟩ := he
    have := (subW_iff ws vs x.wd y.wd).1 hm i (by rw [hx]; exact a)
    rw [hy, b] at this
    cases this
theorem equal_no {p q n p' q' n' : Nat} {S T : Nat → Bool} (w : World) (h : SetAt w p q n S) (h' : SetAt w p' q' n' T) (he : ∃ i, S i ≠ T i) :
    Calls Tryd.prog 33 #[.pointer (some ⟨p, 0, none⟩), .pointer (some ⟨p', 0, none⟩)] w fun e w' => e = .returned (.bool false) ∧ w' = w := by
  obtain ⟨ws, x, hx⟩ := h
  obtain ⟨vs, y, hy⟩ := h'
  refine (equal_words p q n p' q' n' ws vs w x y).mono ?_
  rintro e w' ⟨rfl, rfl⟩
  refine ⟨ret_bool ?_, rfl⟩
  cases hm : (subW ws vs && subW vs ws)
  · rfl
  · rw [Bool.and_eq_true] at hm
    obtain ⟨i, c⟩ := he
    have a := (subW_iff ws vs x.wd y.wd).1 hm.1 i
    have b := (subW_iff vs ws y.wd x.wd).1 hm.2 i
    rw [hx, hy] at a b
    exfalso; apply c
    cases e1 : S i <;> cases e2 : T i <;> simp_all
set_option maxRecDepth 100000 in
set_option maxHeartbeats 1000000 in
/-- Xor: the walk, at the words. -/
theorem xor_new {p q n p' q' n' : Nat} {S T : Nat → Bool} (w : World) (h : SetAt w p q n S) (h' : SetAt w p' q' n' T) :
    Calls Tryd.prog 30 #[.pointer (some ⟨p, 0, none⟩), .pointer (some ⟨p', 0, none⟩)] w fun e w' => ∃ p q, e = .returned (.pointer (some ⟨p, 0, none⟩)) ∧ Fresh w w' p q (max n n') (fun i => S i ^^ T i) := by
  have HI := hid h
  have HI' := hid h'
  clear h h'
  go_enter Tryd.func30, Tryd.ntmps30
  go_wp2_with fail
  refine (size_any _ HI'.out).mono ?_
  rintro e w1 ⟨rfl, hww⟩
  subst hww
  go_wp2_with fail
  refine (widened_set n' _ HI.out HI'.out.hn).mono ?_
  rintro e w2 ⟨rfl, hs, hb⟩
  obtain ⟨ws, x, hx⟩ := hs
  obtain ⟨vs, y, hy⟩ := HI'.out.low hb
  have hyq : q' < w1.heap.size := HI'.out.qlt
  have hc1 := x.c1
  have hd1 := y.c1
  have hle := y.len
  have hlen : vs.length ≤ ws.length := by rw [x.hl, y.hl]; unfold nw; omega
  have HX := hid x
  have HY := hid y
  have HXM := hid hx
  have HYM := hid hy
  have HB := hid hb
  have HQ := hid hyq
  obtain ⟨L, hL⟩ : ∃ L, L = vs.length := ⟨_, rfl⟩
  rw [← hL] at hd1 hle hlen
  have HL := hid hL
  clear x y hx hy hb hyq hL
  go_wp2_with fail
  refine (list_cell p' _ _ _ _ hd1).mono ?_
  rintro e w3 ⟨rfl, hww⟩
  subst hww
  go_wp2_with fail
  go_loopw [15] (fun i wr => ∃ k : Nat, k ≤ L ∧ i = .int .i64 k ∧ Chg w1.heap.size w3 wr ∧ wr.heap[w1.heap.size]? = some (.cells (row (part (· ^^^ ·) k ws vs)) 56 (0, 0))) (fun i _ => L - (intOf i).toNat)
  case atStart => exact ⟨0, Nat.zero_le _, rfl, Chg.refl _ _, by rw [part_zero]; exact HX.out.hq⟩
  case round =>
    obtain ⟨k, hk, rfl, hg, hrow⟩ := hrel
    by_cases hlt : k < L
    · have hi1 : k < ws.length := by omega
      have hi2 : k < vs.length := by rw [← HL.out]; exact hlt
      have hx := cell_part hrow hi1
      have hy := (hg.cell (p := ⟨q', k, none⟩) (by have := HQ.out; show q' ≠ w1.heap.size; omega) HY.out.qlt).trans (HY.out.cw k hi2)
      have hc1' := (hg.cell (p := ⟨w1.heap.size + 1, 1, none⟩) (by show w1.heap.size + 1 ≠ w1.heap.size; omega) HX.out.plt).trans hc1
      have hfz := frozen_of_row _ w1.heap.size k _ _ hrow
      have hxb := HX.out.wd.getD k
      have hyb := HY.out.wd.getD k
      have HG := hid hg
      have HR := hid hrow
      obtain ⟨x, hxe⟩ : ∃ x, x = ws.getD k 0 := ⟨_, rfl⟩
      obtain ⟨y, hye⟩ : ∃ y, y = vs.getD k 0 := ⟨_, rfl⟩
      rw [← hxe] at hx hxb
      rw [← hye] at hy hyb
      have HXE := hid hxe
      have HYE := hid hye
      have HXB := hid hxb
      have HYB := hid hyb
      have HI1 := hid hi1
      clear hg hrow hxe hye hxb hyb
      go_wp2
      go_roundw
      case rel => exact ⟨k + 1, by omega, by go_num, HG.out.trans (Chg.setCell _ _), round_part HR.out HI1.out HXE.out HYE.out (u64_xor_nat x y HXB.out HYB.out)⟩
      case measure => simp [intOf]; omega
    · have e : k = L := by omega
      have hm : k = min ws.length vs.length := by rw [← HL.out, e]; omega
      rw [part_all (· ^^^ ·) k ws vs hm (fun x _ => Nat.xor_zero x)] at hrow
      have hmem : ∀ i, mem (opW (· ^^^ ·) ws vs) i = (S i ^^ T i) := fun i => by
        rw [mem_xor, HXM.out, HYM.out]
        cases b : T i
        · simp
        · have h1 := HI'.out.bound i b
          have : i / 64 < ws.length := by rw [HX.out.hl]; unfold nw; omega
          simp [this]
      have hset : SetAt wr (w1.heap.size + 1) w1.heap.size (max n n') (fun i => S i ^^ T i) := ⟨_, HX.out.put hg hrow (length_opW _ _ _) (HX.out.wd.opW HY.out.wd xor_lt) (fun i hi => by
        rw [hmem, HI.out.cl i (by omega), HI'.out.cl i (by omega)]; rfl), hmem⟩
      have hlow := Chg.below HB.out hg (Nat.le_refl _) HB.out.size
      have HSET := hid hset
      have HLOW := hid hlow
      clear hg hrow hmem hset hlow hm
      go_wp2
      go_ret
      exact ⟨_, _, rfl, by omega, Nat.le_refl _, HSET.out, HLOW.out⟩
end Go.Proofs.YtkagdmhijjfnnabDoor
