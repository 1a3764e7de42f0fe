import Derived.Test.YtkagdmhijjfnnaaDoorMgAM
namespace Go.Proofs.YtkagdmhijjfnnaaDoor
open Go.RowKit Bs
set_option linter.unusedVariables false
theorem SO.cl {w : World} {v : Value} {q n : Nat} {S : Nat → Bool} (h : SO w v q n S) (i : Nat) (hi : n ≤ i) : S i = false := by
  cases e : S i
  · rfl
  · have := h.bound i e; omega
theorem SO.qlt {w : World} {v : Value} {q n : Nat} {S : Nat → Bool} (h : SO w v q n S) : v = .pointer none ∨ q < w.heap.size := by
  rcases h with h | ⟨p, _, h⟩
  · exact Or.inl h.1
  · exact Or.inr h.qlt
theorem andwith_f {p q n : Nat} {v : Value} {q' n' : Nat} {S T : Nat → Bool} (w0 w : World) (h : SetAt w p q n S) (h0 : SO w0 v q' n' T) (hb : Below w0.heap.size w0 w) (hq : w0.heap.size ≤ q) :
    Calls Tryd.prog 46 #[.pointer (some ⟨p, 0, none⟩), v] w fun e w' => e = .returned (.tuple #[]) ∧ SetAt w' p q n (fun i => S i && T i) ∧ Chg q w w' := by
  rcases h0.qlt with e | e
  · rcases h0 with ⟨a, b, c⟩ | ⟨p', a, c⟩
    · exact andwith_o (q' := q + 1) w h (Or.inl ⟨a, b, c⟩) (Or.inl (by omega))
    · rw [e] at a; cases a
  · exact andwith_o w h (h0.low hb) (Or.inl (by omega))
theorem orwith_f {p q n : Nat} {v : Value} {q' n' : Nat} {S T : Nat → Bool} (w0 w : World) (h : SetAt w p q n S) (h0 : SO w0 v q' n' T) (hb : Below w0.heap.size w0 w) (hq : w0.heap.size ≤ q) :
    Calls Tryd.prog 45 #[.pointer (some ⟨p, 0, none⟩), v] w fun e w' => e = .returned (.tuple #[]) ∧ SetAt w' p q n (fun i => (S i || T i) && decide (i < n)) ∧ Chg q w w' := by
  rcases h0.qlt with e | e
  · rcases h0 with ⟨a, b, c⟩ | ⟨p', a, c⟩
    · exact orwith_o (q' := q + 1) w h (Or.inl ⟨a, b, c⟩) (Or.inl (by omega))
    · rw [e] at a; cases a
  · exact orwith_o w h (h0.low hb) (Or.inl (by omega))
theorem andnotwith_f {p q n : Nat} {v : Value} {q' n' : Nat} {S T : Nat → Bool} (w0 w : World) (h : SetAt w p q n S) (h0 : SO w0 v q' n' T) (hb : Below w0.heap.size w0 w) (hq : w0.heap.size ≤ q) :
    Calls Tryd.prog 41 #[.pointer (some ⟨p, 0, none⟩), v] w fun e w' => e = .returned (.tuple #[]) ∧ SetAt w' p q n (fun i => S i && !T i) ∧ Chg q w w' := by
  rcases h0.qlt with e | e
  · rcases h0 with ⟨a, b, c⟩ | ⟨p', a, c⟩
    · exact andnotwith_o (q' := q + 1) w h (Or.inl ⟨a, b, c⟩) (Or.inl (by omega))
    · rw [e] at a; cases a
  · exact andnotwith_o w h (h0.low hb) (Or.inl (by omega))
set_option maxHeartbeats 1000000 in
theorem and_o {v v' : Value} {q n q' n' : Nat} {S T : Nat → Bool} (w : World) (h : SO w v q n S) (h' : SO w v' q' n' T) :
    Calls Tryd.prog 19 #[v, v'] w fun e w' => ∃ p q, e = .returned (.pointer (some ⟨p, 0, none⟩)) ∧ Fresh w w' p q (max n n') (fun i => S i && T i) := by
  have HI := hid h
  have HI' := hid h'
  clear h h'
  go_enter Tryd.func19, Tryd.ntmps19
  go_wp2_with fail
  refine (size_o _ HI'.out).mono ?_
  rintro e w1 ⟨rfl, rfl⟩
  go_wp2_with fail
  refine (widened_o n' _ HI.out HI'.out.hn).mono ?_
  rintro e w2 ⟨rfl, hs, hb⟩
  have HS := hid hs
  have HB := hid hb
  clear hs hb
  go_wp2_with fail
  refine (andwith_f _ _ HS.out HI'.out HB.out (Nat.le_refl _)).mono ?_
  rintro e w3 ⟨rfl, hs3, hg3⟩
  go_wp2_with fail
  go_ret
  exact ⟨_, _, rfl, by omega, Nat.le_refl _, hs3, Chg.below HB.out hg3 (Nat.le_refl _) HB.out.size⟩
set_option maxHeartbeats 1000000 in
theorem or_o {v v' : Value} {q n q' n' : Nat} {S T : Nat → Bool} (w : World) (h : SO w v q n S) (h' : SO w v' q' n' T) :
    Calls Tryd.prog 17 #[v, v'] w fun e w' => ∃ p q, e = .returned (.pointer (some ⟨p, 0, none⟩)) ∧ Fresh w w' p q (max n n') (fun i => S i || T i) := by
  have HI := hid h
  have HI' := hid h'
  clear h h'
  go_enter Tryd.func17, Tryd.ntmps17
  go_wp2_with fail
  refine (size_o _ HI'.out).mono ?_
  rintro e w1 ⟨rfl, rfl⟩
  go_wp2_with fail
  refine (widened_o n' _ HI.out HI'.out.hn).mono ?_
  rintro e w2 ⟨rfl, hs, hb⟩
  have HS := hid hs
  have HB := hid hb
  clear hs hb
  go_wp2_with fail
  refine (orwith_f _ _ HS.out HI'.out HB.out (Nat.le_refl _)).mono ?_
  rintro e w3 ⟨rfl, hs3, hg3⟩
  replace hs3 := hs3.turn (T := fun i => S i || T i) (fun i => by
    cases a : S i
    · cases b : T i
      · simp
      · have := HI'.out.bound i b
        simp; omega
    · have := HI.out.bound i a
      simp; omega)
  go_wp2_with fail
  go_ret
  exact ⟨_, _, rfl, by omega, Nat.le_refl _, hs3, Chg.below HB.out hg3 (Nat.le_refl _) HB.out.size⟩
set_option maxHeartbeats 1000000 in
theorem andnot_o {v v' : Value} {q n q' n' : Nat} {S T : Nat → Bool} (w : World) (h : SO w v q n S) (h' : SO w v' q' n' T) :
    Calls Tryd.prog 21 #[v, v'] w fun e w' => ∃ p q, e = .returned (.pointer (some ⟨p, 0, none⟩)) ∧ Fresh w w' p q (max n n') (fun i => S i && !T i) := by
  have HI := hid h
  have HI' := hid h'
  clear h h'
  go_enter Tryd.func21, Tryd.ntmps21
  go_wp2_with fail
  refine (size_o _ HI'.out).mono ?_
  rintro e w1 ⟨rfl, rfl⟩
  go_wp2_with fail
  refine (widened_o n' _ HI.out HI'.out.hn).mono ?_
  rintro e w2 ⟨rfl, hs, hb⟩
  have HS := hid hs
  have HB := hid hb
  clear hs hb
  go_wp2_with fail
  refine (andnotwith_f _ _ HS.out HI'.out HB.out (Nat.le_refl _)).mono ?_
  rintro e w3 ⟨rfl, hs3, hg3⟩
  go_wp2_with fail
  go_ret
  exact ⟨_, _, rfl, by omega, Nat.le_refl _, hs3, Chg.below HB.out hg3 (Nat.le_refl _) HB.out.size⟩
set_option maxHeartbeats 1000000 in
theorem not_o {v v' : Value} {q n q' n' : Nat} {S T : Nat → Bool} (w : World) (h : SO w v q n S) (h' : SO w v' q' n' T) :
    Calls Tryd.prog 16 #[v, v'] w fun e w' => ∃ p q, e = .returned (.pointer (some ⟨p, 0, none⟩)) ∧ Fresh w w' p q n' (fun i => T i && !S i) := by
  have HI := hid h
  have HI' := hid h'
  clear h h'
  go_enter Tryd.func16, Tryd.ntmps16
  go_wp2_with fail
  refine (clone_o _ HI'.out).mono ?_
  rintro e w2 ⟨p2, q2, rfl, f2⟩
  have F2 := hid f2
  clear f2
  go_wp2_with fail
  refine (andnotwith_f _ _ F2.out.at' HI.out F2.out.low F2.out.hq).mono ?_
  rintro e w3 ⟨rfl, hs3, hg3⟩
  go_wp2_with fail
  go_ret
  exact ⟨_, _, rfl, F2.out.hp, F2.out.hq, hs3, Chg.below F2.out.low hg3 F2.out.hq F2.out.low.size⟩
set_option maxRecDepth 100000 in
set_option maxHeartbeats 1000000 in
/-- Xor: the walk, at the words. -/
theorem xor_sr {v : Value} {q n p' q' n' : Nat} {S T : Nat → Bool} (w : World) (h : SO w v q n S) (h' : SetAt w p' q' n' T) :
    Calls Tryd.prog 20 #[v, .pointer (some ⟨p', 0, none⟩)] w fun e w' => ∃ p q, e = .returned (.pointer (some ⟨p, 0, none⟩)) ∧ Fresh w w' p q (max n n') (fun i => S i ^^ T i) := by
  have HI := hid h
  have HI' := hid h'
  clear h h'
  go_enter Tryd.func20, Tryd.ntmps20
  go_wp2_with fail
  refine (size_any _ HI'.out).mono ?_
  rintro e w1 ⟨rfl, hww⟩
  subst hww
  go_wp2_with fail
  refine (widened_o n' _ HI.out HI'.out.hn).mono ?_
  rintro e w2 ⟨rfl, hs, hb⟩
  obtain ⟨ws, x, hx⟩ := hs
  obtain ⟨vs, y, hy⟩ := HI'.out.low hb
  have hyq : q' < w1.heap.size := HI'.out.qlt
  have hc1 := x.c1
  have hd1 := y.c1
  have hle := y.len
  have hlen : vs.length ≤ ws.length := by rw [x.hl, y.hl]; unfold nw; omega
  have HX := hid x
  have HY := hid y
  have HXM := hid hx
  have HYM := hid hy
  have HB := hid hb
  have HQ := hid hyq
  obtain ⟨L, hL⟩ : ∃ L, L = vs.length := ⟨_, rfl⟩
  rw [← hL] at hd1 hle hlen
  have HL := hid hL
  clear x y hx hy hb hyq hL
  go_wp2_with fail
  refine (list_cell p' _ _ _ _ hd1).mono ?_
  rintro e w3 ⟨rfl, hww⟩
  subst hww
  go_wp2_with fail
  go_loopw [15] (fun i wr => ∃ k : Nat, k ≤ L ∧ i = .int .i64 k ∧ Chg w1.heap.size w3 wr ∧ wr.heap[w1.heap.size]? = some (.cells (row (part (· ^^^ ·) k ws vs)) 59 (0, 0))) (fun i _ => L - (intOf i).toNat)
  case atStart => exact ⟨0, Nat.zero_le _, rfl, Chg.refl _ _, by rw [part_zero]; exact HX.out.hq⟩
  case round =>
    obtain ⟨k, hk, rfl, hg, hrow⟩ := hrel
    by_cases hlt : k < L
    · have hi1 : k < ws.length := by omega
      have hi2 : k < vs.length := by rw [← HL.out]; exact hlt
      have hx := cell_part hrow hi1
      have hy := (hg.cell (p := ⟨q', k, none⟩) (by have := HQ.out; show q' ≠ w1.heap.size; omega) HY.out.qlt).trans (HY.out.cw k hi2)
      have hc1' := (hg.cell (p := ⟨w1.heap.size + 1, 1, none⟩) (by show w1.heap.size + 1 ≠ w1.heap.size; omega) HX.out.plt).trans hc1
      have hfz := frozen_of_row _ w1.heap.size k _ _ hrow
      have hxb := HX.out.wd.getD k
      have hyb := HY.out.wd.getD k
      have HG := hid hg
      have HR := hid hrow
      obtain ⟨x, hxe⟩ : ∃ x, x = ws.getD k 0 := ⟨_, rfl⟩
      obtain ⟨y, hye⟩ : ∃ y, y = vs.getD k 0 := ⟨_, rfl⟩
      rw [← hxe] at hx hxb
      rw [← hye] at hy hyb
      have HXE := hid hxe
      have HYE := hid hye
      have HXB := hid hxb
      have HYB := hid hyb
      have HI1 := hid hi1
      clear hg hrow hxe hye hxb hyb
      go_wp2
      go_roundw
      case rel => exact ⟨k + 1, by omega, by go_num, HG.out.trans (Chg.setCell _ _), round_part HR.out HI1.out HXE.out HYE.out (u64_xor_nat x y HXB.out HYB.out)⟩
      case measure => simp [intOf]; omega
    · have e : k = L := by omega
      have hm : k = min ws.length vs.length := by rw [← HL.out, e]; omega
      rw [part_all (· ^^^ ·) k ws vs hm (fun x _ => Nat.xor_zero x)] at hrow
      have hmem : ∀ i, mem (opW (· ^^^ ·) ws vs) i = (S i ^^ T i) := fun i => by
        rw [mem_xor, HXM.out, HYM.out]
        cases b : T i
        · simp
        · have h1 := HI'.out.bound i b
          have : i / 64 < ws.length := by rw [HX.out.hl]; unfold nw; omega
          simp [this]
      have hset : SetAt wr (w1.heap.size + 1) w1.heap.size (max n n') (fun i => S i ^^ T i) := ⟨_, HX.out.put hg hrow (length_opW _ _ _) (HX.out.wd.opW HY.out.wd xor_lt) (fun i hi => by
        rw [hmem, HI.out.cl i (by omega), HI'.out.cl i (by omega)]; rfl), hmem⟩
      have hlow := Chg.below HB.out hg (Nat.le_refl _) HB.out.size
      have HSET := hid hset
      have HLOW := hid hlow
      clear hg hrow hmem hset hlow hm
      go_wp2
      go_ret
      exact ⟨_, _, rfl, by omega, Nat.le_refl _, HSET.out, HLOW.out⟩
set_option maxRecDepth 100000 in
set_option maxHeartbeats 1000000 in
theorem xor_nilr {v : Value} {q n : Nat} {S : Nat → Bool} (w : World) (h : SO w v q n S) :
    Calls Tryd.prog 20 #[v, .pointer none] w fun e w' => ∃ p q, e = .returned (.pointer (some ⟨p, 0, none⟩)) ∧ Fresh w w' p q n S := by
  have HI := hid h
  clear h
  go_enter Tryd.func20, Tryd.ntmps20
  go_wp2_with fail
  refine (size_nil _).mono ?_
  rintro e w1 ⟨rfl, hww⟩
  subst hww
  go_wp2_with fail
  refine (widened_o 0 _ HI.out (by omega)).mono ?_
  rintro e w2 ⟨rfl, hs, hb⟩
  rw [Nat.max_zero] at hs
  have HS := hid hs
  have HB := hid hb
  clear hs hb
  go_wp2_with fail
  refine (list_nil _).mono ?_
  rintro e w3 ⟨rfl, hww⟩
  subst hww
  go_wp2_with fail
  go_loopw [15] (fun i wr => i = .int .i64 0 ∧ wr = w3) (fun _ _ => 0)
  case atStart => exact ⟨rfl, rfl⟩
  case round =>
    obtain ⟨rfl, rfl⟩ := hrel
    go_wp2
    go_ret
    exact ⟨_, _, rfl, by omega, Nat.le_refl _, HS.out, HB.out⟩
theorem xor_o {v v' : Value} {q n q' n' : Nat} {S T : Nat → Bool} (w : World) (h : SO w v q n S) (h' : SO w v' q' n' T) :
    Calls Tryd.prog 20 #[v, v'] w fun e w' => ∃ p q, e = .returned (.pointer (some ⟨p, 0, none⟩)) ∧ Fresh w w' p q (max n n') (fun i => S i ^^ T i) := by
  rcases h' with ⟨rfl, rfl, hT⟩ | ⟨p', rfl, h'⟩
  · refine (xor_nilr w h).mono ?_
    rintro e w' ⟨p, q, rfl, f⟩
    exact ⟨p, q, rfl, f.hp, f.hq, by rw [Nat.max_zero]; exact f.at'.turn (fun i => by simp [hT]), f.low⟩
  · exact xor_sr w h h'
end Go.Proofs.YtkagdmhijjfnnaaDoor
namespace Go.Proofs.YtkagdmhijjfnnaaDoor
open Go.RowKit Bs
set_option linter.unusedVariables false
set_option maxRecDepth 100000 in
set_option maxHeartbeats 1000000 in
theorem subset_nilr (p q n : Nat) (ws : List Nat) (w : World) (h : IsSet w p q n ws) :
    Calls Tryd.prog 24 #[.pointer (some ⟨p, 0, none⟩), .pointer none] w fun e w' => e = .returned (.bool (subW ws [])) ∧ w' = w := by
  have hc1 := h.c1
  have HI := hid h
  have hle := h.len
  clear h
  obtain ⟨r, hr⟩ : ∃ r, r = subW ws [] := ⟨_, rfl⟩
  have HR := hid hr
  rw [← hr]
  clear hr
  obtain ⟨L, hL⟩ : ∃ L, L = ws.length := ⟨_, rfl⟩
  have HL := hid hL
  rw [← hL] at hc1 hle
  clear hL
  go_enter Tryd.func24, Tryd.ntmps24
  go_wp2_with (first | (go_at_call_of 55 p; refine (list_cell p _ _ _ _ hc1).mono ?_; rintro e w' ⟨rfl, rfl⟩) | (go_at_call 55; refine (list_nil _).mono ?_; rintro e w' ⟨rfl, rfl⟩))
  go_loop [13] (fun i => ∃ k : Nat, k ≤ L ∧ i = .int .i64 k ∧ ∀ j, j < k → anot (ws.getD j 0) (([] : List Nat).getD j 0) = 0) (fun i => L - (intOf i).toNat)
  case atStart => exact ⟨0, Nat.zero_le _, rfl, fun j hj => by omega⟩
  case round =>
    obtain ⟨k, hk, rfl, hall⟩ := hrel
    have HA := hid hall
    clear hall
    by_cases hlt : k < L
    · have hi1 : k < ws.length := by rw [← HL.out]; exact hlt
      have hx := HI.out.cw k hi1
      obtain ⟨x, hxe⟩ : ∃ x, x = ws.getD k 0 := ⟨_, rfl⟩
      rw [← hxe] at hx
      have HX := hid hxe
      have HXB := hid (HI.out.wd.getD k)
      have hk0 : ¬ ((k : Int) < 0) := by omega
      have HY := hid (show ([] : List Nat).getD k 0 = 0 by simp)
      cases hb : (x != 0)
      · have hnum := nat_num x false hb
        have HZ := hid hb
        clear hxe hb hi1
        go_wp2
        go_round
        case rel =>
          refine ⟨k + 1, by omega, by go_num, fun j hj => ?_⟩
          rcases Nat.lt_succ_iff_lt_or_eq.1 hj with c | c
          · exact HA.out j c
          · subst c
            rw [HY.out, anot_zero _ HXB.out, ← HX.out]; simpa using HZ.out
        case measure => simp [intOf]; omega
      · have hnum := nat_num x true hb
        have HZ := hid hb
        have hi := hid hi1
        clear hxe hb hi1
        go_wp2
        go_ret
        refine ⟨ret_bool ?_, rfl⟩
        rw [HR.out, subW_no ws [] k hi.out (by rw [HY.out, anot_zero _ HXB.out, ← HX.out]; simpa using HZ.out)]
    · have e : k = L := by omega
      go_wp2
      go_ret
      refine ⟨ret_bool ?_, rfl⟩
      rw [HR.out, subW_yes ws [] (by rw [← HL.out, ← e]; exact HA.out)]
theorem list_o {v : Value} {q n : Nat} {S : Nat → Bool} (w : World) (h : SO w v q n S) : ∃ a l, Calls Tryd.prog 55 #[v] w fun e w' => e = .returned (.slice a l l) ∧ w' = w := by
  rcases h with ⟨rfl, _, _⟩ | ⟨p, rfl, ws, x, _⟩
  · exact ⟨_, _, list_nil w⟩
  · exact ⟨_, _, list_cell p w _ _ _ x.c1⟩
set_option maxHeartbeats 1000000 in
theorem subset_nill {v : Value} {q n : Nat} {S : Nat → Bool} (w : World) (h : SO w v q n S) :
    Calls Tryd.prog 24 #[.pointer none, v] w fun e w' => e = .returned (.bool true) ∧ w' = w := by
  obtain ⟨a, l, hl⟩ := list_o w h
  have HL := hid hl
  clear hl h
  go_enter Tryd.func24, Tryd.ntmps24
  go_wp2_with fail
  refine HL.out.mono ?_
  rintro e w1 ⟨rfl, hww⟩
  subst hww
  go_wp2_with fail
  refine (list_nil _).mono ?_
  rintro e w2 ⟨rfl, hww⟩
  subst hww
  go_wp2_with fail
  go_loopw [13] (fun i wr => i = .int .i64 0 ∧ wr = w2) (fun _ _ => 0)
  case atStart => exact ⟨rfl, rfl⟩
  case round =>
    obtain ⟨rfl, rfl⟩ := hrel
    go_wp2
    go_ret
    exact ⟨rfl, rfl⟩
theorem subset_o {v v' : Value} {q n q' n' : Nat} {S T : Nat → Bool} (b : Bool) (w : World) (h : SO w v q n S) (h' : SO w v' q' n' T) (hb : b = true ↔ ∀ i, S i = true → T i = true) :
    Calls Tryd.prog 24 #[v, v'] w fun e w' => e = .returned (.bool b) ∧ w' = w := by
  rcases h with ⟨rfl, rfl, hS⟩ | ⟨p, rfl, h⟩
  · obtain rfl : b = true := hb.2 (fun i hi => by rw [hS] at hi; cases hi)
    exact subset_nill w h'
  · rcases h' with ⟨rfl, rfl, hT⟩ | ⟨p', rfl, h'⟩
    · obtain ⟨ws, x, hx⟩ := h
      refine (subset_nilr p q n ws w x).mono ?_
      rintro e w' ⟨rfl, rfl⟩
      refine ⟨ret_bool ?_, rfl⟩
      rw [Bool.eq_iff_iff, subW_iff ws [] x.wd (fun a ha => by cases ha), hb]
      constructor
      · intro k i hi
        have := k i (by rw [hx]; exact hi)
        simp [mem] at this
      · intro k i hi
        have := k i (by rw [← hx]; exact hi)
        rw [hT] at this; cases this
    · exact subset_is b w h h' hb
set_option maxHeartbeats 1000000 in
theorem equal_o {v v' : Value} {q n q' n' : Nat} {S T : Nat → Bool} (b : Bool) (w : World) (h : SO w v q n S) (h' : SO w v' q' n' T) (hb : b = true ↔ ∀ i, S i = T i) :
    Calls Tryd.prog 18 #[v, v'] w fun e w' => e = .returned (.bool b) ∧ w' = w := by
  obtain ⟨b1, e1⟩ : ∃ b1 : Bool, b1 = true ↔ ∀ i, S i = true → T i = true := by
    by_cases c : ∀ i, S i = true → T i = true
    · exact ⟨true, by simpa using c⟩
    · exact ⟨false, by simpa using c⟩
  obtain ⟨b2, e2⟩ : ∃ b2 : Bool, b2 = true ↔ ∀ i, T i = true → S i = true := by
    by_cases c : ∀ i, T i = true → S i = true
    · exact ⟨true, by simpa using c⟩
    · exact ⟨false, by simpa using c⟩
  have c1 := subset_o b1 w h h' e1
  have c2 := subset_o b2 w h' h e2
  have hbb : b = (b1 && b2) := by
    rw [Bool.eq_iff_iff, Bool.and_eq_true, e1, e2, hb]
    constructor
    · intro k
      exact ⟨fun i hi => by rw [← k]; exact hi, fun i hi => by rw [k]; exact hi⟩
    · rintro ⟨k1, k2⟩ i
      rw [Bool.eq_iff_iff]
      exact ⟨k1 i, k2 i⟩
  clear h h' hb e1 e2
  cases b1
  · have C1 := hid c1
    have HBB := hid hbb
    clear c1 c2 hbb
    go_enter Tryd.func18, Tryd.ntmps18
    go_wp2_with fail
    refine C1.out.mono ?_
    rintro e w1 ⟨rfl, rfl⟩
    go_wp2_with fail
    go_ret
    exact ⟨by rw [HBB.out]; simp, rfl⟩
  · have C1 := hid c1
    have C2 := hid c2
    have HBB := hid hbb
    clear c1 c2 hbb
    go_enter Tryd.func18, Tryd.ntmps18
    go_wp2_with fail
    refine C1.out.mono ?_
    rintro e w1 ⟨rfl, rfl⟩
    go_wp2_with fail
    refine C2.out.mono ?_
    rintro e w1 ⟨rfl, rfl⟩
    go_wp2_with fail
    go_ret
    exact ⟨by rw [HBB.out]; simp, rfl⟩
theorem count_o {v : Value} {q n : Nat} {S : Nat → Bool} (w : World) (h : SO w v q n S) : Calls Tryd.prog 23 #[v] w fun e w' => e = .returned (.int .i64 ((card n S : Nat) : Int)) ∧ w' = w := by
  rcases h with ⟨rfl, rfl, _⟩ | ⟨p, rfl, h⟩
  · exact count_nil w
  · exact count_set w h
end Go.Proofs.YtkagdmhijjfnnaaDoor
namespace Go.Proofs.YtkagdmhijjfnnaaDoor
open Go.RowKit Bs
set_option linter.unusedVariables false
/-- A list of numbers in a block from lo on. -/
def Hl (w : World) (lo : Nat) (v : Value) (zs : List Int) : Prop := ∃ a cap, v = .slice a zs.length cap ∧ (zs = [] ∨ ∃ b off, a = some ⟨b, off, none⟩ ∧ lo ≤ b ∧ b < w.heap.size ∧ ∀ j, j < zs.length → w.cell? ⟨b, off + j, none⟩ = some (.int .i64 (zs.getD j 0)))
theorem Hl.low {w w' : World} {lo : Nat} {v : Value} {zs : List Int} (h : Hl w lo v zs) (k : Below w.heap.size w w') : Hl w' lo v zs := by
  obtain ⟨a, cap, rfl, h⟩ := h
  refine ⟨a, cap, rfl, ?_⟩
  rcases h with h | ⟨b, off, rfl, h1, h2, h3⟩
  · exact Or.inl h
  · exact Or.inr ⟨b, off, rfl, h1, Nat.lt_of_lt_of_le h2 k.size, fun j hj => (k.cell (p := ⟨b, off + j, none⟩) h2).trans (h3 j hj)⟩
theorem Hl.keep {w w' : World} {lo q : Nat} {v : Value} {zs : List Int} (h : Hl w lo v zs) (k : Chg q w w') (hq : q < lo) : Hl w' lo v zs := by
  obtain ⟨a, cap, rfl, h⟩ := h
  refine ⟨a, cap, rfl, ?_⟩
  rcases h with h | ⟨b, off, rfl, h1, h2, h3⟩
  · exact Or.inl h
  · exact Or.inr ⟨b, off, rfl, h1, Nat.lt_of_lt_of_le h2 k.size, fun j hj => (k.cell (p := ⟨b, off + j, none⟩) (by show b ≠ q; omega) h2).trans (h3 j hj)⟩
theorem Hl.mono {w : World} {lo lo' : Nat} {v : Value} {zs : List Int} (h : Hl w lo v zs) (hl : lo' ≤ lo) : Hl w lo' v zs := by
  obtain ⟨a, cap, rfl, h⟩ := h
  refine ⟨a, cap, rfl, ?_⟩
  rcases h with h | ⟨b, off, rfl, h1, h2, h3⟩
  · exact Or.inl h
  · exact Or.inr ⟨b, off, rfl, Nat.le_trans hl h1, h2, h3⟩
theorem hl_own {w : World} {base : Nat} {v : Value} {zs : List Int} (h : w.ownsRow base 3 1 v zs.length (zs.map (Value.int .i64))) : Hl w base v zs := by
  have ob := owns_block h
  rcases (holds_of_owns h).ex with ⟨rfl, rfl⟩ | ⟨b, off, cap, rfl, hc⟩
  · exact ⟨none, 0, rfl, Or.inl rfl⟩
  · refine ⟨_, cap, rfl, ?_⟩
    by_cases hz : zs = []
    · exact Or.inl hz
    · have hl : 0 < zs.length := List.length_pos_iff.2 hz
      exact Or.inr ⟨b, off, rfl, ob b rfl, block_lt_of_cell (hc 0 hl), hc⟩
theorem card_out {n : Nat} {S : Nat → Bool} {i j : Nat} (hi : S i = true) (hj : S j = true) (h : card i S = card j S) : i = j := by
  have a : ∀ {x y : Nat}, S x = true → x < y → card x S < card y S := by
    intro x y hx hxy
    have h1 : card (x + 1) S = card x S + 1 := by simp [card, hx]
    have := card_mono S (show x + 1 ≤ y by omega)
    omega
  rcases Nat.lt_trichotomy i j with c | c | c
  · have := a hi c; omega
  · exact c
  · have := a hj c; omega
/-- The members in their order are one list. -/
theorem MsOf.one {n : Nat} {S : Nat → Bool} {l m : List Int} (h : MsOf n S l) (k : MsOf n S m) : l = m := by
  have hl : l.length = m.length := by rw [h.len, k.len]
  apply List.ext_getElem hl
  intro t h1 h2
  obtain ⟨i, a1, a2, a3, a4⟩ := h.get t h1
  obtain ⟨j, b1, b2, b3, b4⟩ := k.get t h2
  have e := card_out (n := n) a3 b3 (by rw [a4, b4])
  have c1 : l.getD t 0 = l[t] := by simp [List.getD_eq_getElem?_getD, List.getElem?_eq_getElem h1]
  have c2 : m.getD t 0 = m[t] := by simp [List.getD_eq_getElem?_getD, List.getElem?_eq_getElem h2]
  rw [← c1, ← c2, a1, b1, e]
theorem MsOf.le {n : Nat} {S : Nat → Bool} {l : List Int} (h : MsOf n S l) : l.length ≤ n := by rw [h.len]; exact card_le _ _
theorem members_own {p q n : Nat} {S : Nat → Bool} (w : World) (h : SetAt w p q n S) (ht : Tab w) :
    Calls Tryd.prog 27 #[.pointer (some ⟨p, 0, none⟩)] w fun e w' => ∃ v ms, e = .returned v ∧ Hl w' w.heap.size v ms ∧ MsOf n S ms ∧ Below w.heap.size w w' := by
  have hb := h.bound
  obtain ⟨ws, x, hx⟩ := h
  have e : mem ws = S := funext hx
  subst e
  refine (members_words p q n ws w x ht).mono ?_
  rintro e w' ⟨v, rfl, own, hbl⟩
  refine ⟨v, _, rfl, hl_own own, ⟨?_, ?_⟩, hbl⟩
  · rw [length_msL ws _ (Nat.le_refl _), isSet_card x]
  · intro t ht
    rw [length_msL ws _ (Nat.le_refl _)] at ht
    obtain ⟨i, h1, h2, h3⟩ := msL_get ws x.wd ws.length (Nat.le_refl _) t ht
    exact ⟨i, h1, hb i h2, h2, h3⟩
set_option maxRecDepth 100000 in
set_option maxHeartbeats 1000000 in
theorem members_nil (w : World) :
    Calls Tryd.prog 27 #[.pointer none] w fun e w' => ∃ v, e = .returned v ∧ Hl w' w.heap.size v [] ∧ Below w.heap.size w w' := by
  obtain ⟨i0, hi0, hz0, hz1, hz2⟩ := info3
  obtain ⟨c, hc⟩ : ∃ c : Nat, c = 0 := ⟨_, rfl⟩
  have HCB : Hid (Calls Tryd.prog 56 #[.slice none 0 0] w fun e w' => e = .returned (.int .i64 (c : Int)) ∧ w' = w) := by rw [hc]; exact countBits_nil w
  have hcb : c ≤ 0 := by omega
  clear hc
  obtain ⟨wm, hmk, hmo, hmg⟩ := run_make_own (P := Tryd.prog) w w.heap.size 28 3 i0 (.int .i64 0) 1 Tryd.underlying28 hi0 hz0 hz1 .i64 .i64 c (by rw [hz2]; omega) (by unfold maxLen; omega) (Nat.le_refl _)
  have hmb : Below w.heap.size w wm := (Below.refl _ _).grown hmg (Nat.le_refl _) (fun k hk => by cases hk)
  have HMO := hid hmo
  have HMB := hid hmb
  clear hmo hmg hmb
  go_enter Tryd.func27, Tryd.ntmps27
  go_wp2_with (first | (go_at_call 55; refine (list_nil _).mono ?_; rintro e w1 ⟨rfl, hww⟩; subst hww) | (go_at_call 56; refine HCB.out.mono ?_; rintro e w1 ⟨rfl, hww⟩; subst hww))
  clear hmk
  have HO := hid (hl_own (zs := []) HMO.out)
  clear HMO
  go_loopw [4, 14] (fun v i wr => v = .slice (some ⟨w1.heap.size, 0, none⟩) 0 c ∧ i = .int .i64 0 ∧ wr = wm) (fun _ _ _ => 0)
  case atStart => exact ⟨rfl, rfl, rfl⟩
  case round =>
    obtain ⟨rfl, rfl, rfl⟩ := hrel
    go_wp2
    go_ret
    exact ⟨_, rfl, HO.out, HMB.out⟩
theorem members_o {v : Value} {q n : Nat} {S : Nat → Bool} (w : World) (h : SO w v q n S) (ht : Tab w) :
    Calls Tryd.prog 27 #[v] w fun e w' => ∃ v ms, e = .returned v ∧ Hl w' w.heap.size v ms ∧ MsOf n S ms ∧ Below w.heap.size w w' := by
  rcases h with ⟨rfl, rfl, hS⟩ | ⟨p, rfl, h⟩
  · refine (members_nil w).mono ?_
    rintro e w' ⟨v, rfl, a, b⟩
    exact ⟨v, [], rfl, a, ⟨rfl, fun t ht => by cases ht⟩, b⟩
  · exact members_own w h ht
set_option maxHeartbeats 1000000 in
/-- SameInts of one list twice. -/
theorem same_yes (lo lo' : Nat) (v v' : Value) (zs : List Int) (w : World) (hL : zs.length ≤ 65536) (h : Hl w lo v zs) (h' : Hl w lo' v' zs) :
    Calls Tryd.prog 87 #[v, v'] w fun e w' => e = .returned (.bool true) ∧ ∃ m, w' = w.drewN m := by
  obtain ⟨a, cap, rfl, h⟩ := h
  obtain ⟨a', cap', rfl, h'⟩ := h'
  obtain ⟨L, hLe⟩ : ∃ L, L = zs.length := ⟨_, rfl⟩
  have HL := hid hLe
  have H := hid h
  have H' := hid h'
  rw [← hLe] at hL ⊢
  clear hLe h h'
  go_enter Tryd.func87, Tryd.ntmps87
  go_wp2
  go_loopw [5] (fun i wr => ∃ k : Nat, k ≤ L ∧ i = .int .i64 k ∧ ∃ m, wr = w.drewN m) (fun i _ => L - (intOf i).toNat)
  case atStart => exact ⟨0, Nat.zero_le _, rfl, 0, rfl⟩
  case round =>
    obtain ⟨k, hk, rfl, m, rfl⟩ := hrel
    by_cases hlt : k < L
    · have hk2 : k < zs.length := by rw [← HL.out]; exact hlt
      rcases H.out with e | ⟨b, off, rfl, _, _, hc⟩
      · rw [e] at hk2; cases hk2
      rcases H'.out with e | ⟨b', off', rfl, _, _, hc'⟩
      · rw [e] at hk2; cases hk2
      have hx := hc k hk2
      have hy := hc' k hk2
      generalize zs.getD k 0 = z at hx hy
      clear hc hc' hk2
      go_wp2_with fail
      go_quiet (fail)
      go_wp2_with fail
      go_roundw
      case rel => exact ⟨k + 1, by omega, by go_num, _, rfl⟩
      case measure => simp [intOf]; omega
    · go_wp2_with fail
      go_ret
      exact ⟨rfl, _, rfl⟩
end Go.Proofs.YtkagdmhijjfnnaaDoor
