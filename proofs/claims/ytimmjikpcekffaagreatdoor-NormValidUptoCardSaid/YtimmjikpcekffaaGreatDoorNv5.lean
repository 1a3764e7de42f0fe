import Derived.Test.YtimmjikpcekffaaGreatDoorMgAD
namespace Go.Proofs.YtimmjikpcekffaaGreatDoor.L
open Go.RowKit
set_option linter.unusedVariables false
set_option linter.unusedSimpArgs false
/-- A literal of kind LitIn. -/
def InP (mv ns : Int) (kd tk ts : Int) (ty : ByteArray) (tl rl nu : Int) (xa : Option Addr) (xn xc : Nat) (na : Option Addr) (nn nc : Nat) (ok os : Int) (oy : ByteArray) (ol of : Int) (ky : ByteArray) (sl : Int) (tx : List ByteArray) (nm : List Int) : Prop :=
  if ttB mv tk ts ty tl = true then (∀ k, 1 ≤ k → k < tx.length → Op.bytesLess (tx.getD (k - 1) ByteArray.empty).toList (tx.getD k ByteArray.empty).toList = true) ∧ (¬ ∃ k, k < tx.length ∧ lgB (tx.getD k ByteArray.empty) = true) ∧ Same kd tk ts ty tl rl nu xa xn xc na nn nc ok os oy ol of ky sl kd tk ts ty tl 0 0 xa xn xc none 0 0 0 0 ByteArray.empty 0 0 ByteArray.empty 0
  else tnB mv ns tk ts ty tl = true ∧ (∀ k, 1 ≤ k → k < nm.length → nm.getD (k - 1) 0 < nm.getD k 0) ∧ (¬ ∃ k, k < nm.length ∧ farB (nm.getD k 0) = true) ∧ Same kd tk ts ty tl rl nu xa xn xc na nn nc ok os oy ol of ky sl kd tk ts ty tl 0 0 none 0 0 na nn nc 0 0 ByteArray.empty 0 0 ByteArray.empty 0
set_option maxHeartbeats 16000000 in
set_option maxRecDepth 100000 in
theorem tin_any (mv ns : Int) (kd tk ts : Int) (ty : ByteArray) (tl rl nu : Int) (xa : Option Addr) (xn xc : Nat) (na : Option Addr) (nn nc : Nat) (ok os : Int) (oy : ByteArray) (ol of : Int) (ky : ByteArray) (sl : Int) (tx : List ByteArray) (nm : List Int) (w : World) (hs : ty.size ≤ maxLen) (hx : xn = tx.length) (hn : nn = nm.length) (rx : RdS w xa tx) (rn : RdI w na nm) (bx : xn ≤ 140737488355328) (bn : nn ≤ 140737488355328) (hz : ∀ k, (tx.getD k ByteArray.empty).size ≤ maxLen) :
    Calls Tryz.prog 84 #[.agg #[.int .i64 mv, .int .i64 ns], .agg #[.int .i64 kd, .int .i64 tk, .int .i64 ts, .string ty, .int .i64 tl, .int .i64 rl, .int .i64 nu, .slice xa xn xc, .slice na nn nc, .int .i64 ok, .int .i64 os, .string oy, .int .i64 ol, .int .i64 of, .string ky, .int .i64 sl]] w fun e w' => (∃ b, e = .returned (.bool b) ∧ (b = true ↔ InP mv ns kd tk ts ty tl rl nu xa xn xc na nn nc ok os oy ol of ky sl tx nm)) ∧ Below w.heap.size w w' := by
  have TT := hid (fun W => ttext_any mv ns tk ts ty tl W hs)
  have TN := hid (fun W => tnum_any mv ns tk ts ty tl W hs)
  have RS := hid (fun W (hb : Below w.heap.size w W) => rises_s xa xc xn tx hx W (rx.low hb (Nat.le_refl _)) bx)
  have RI := hid (fun W (hb : Below w.heap.size w W) => rises_i na nc nn nm hn W (rn.low hb (Nat.le_refl _)) bn)
  have CS := hid (fun W (hb : Below w.heap.size w W) => contains_s xa xc xn tx hx W (rx.low hb (Nat.le_refl _)) bx hz)
  have CI := hid (fun W (hb : Below w.heap.size w W) => contains_i na nc nn nm hn W (rn.low hb (Nat.le_refl _)) bn)
  unfold InP
  clear hx hn rx rn hz
  cases hT : ttB mv tk ts ty tl
  · simp only [Bool.false_eq_true, if_false]
    have LX : Below w.heap.size w ((w.alloc (.cells #[.int .i64 mv, .int .i64 ns] 61)).alloc (.cells #[.int .i64 kd, .int .i64 tk, .int .i64 ts, .string ty, .int .i64 tl, .int .i64 rl, .int .i64 nu, .slice xa xn xc, .slice na nn nc, .int .i64 ok, .int .i64 os, .string oy, .int .i64 ol, .int .i64 of, .string ky, .int .i64 sl] 49)) := (((Below.refl _ w).alloc (by simp) _).alloc (by simp) _)
    have X0 : Bs ((w.alloc (.cells #[.int .i64 mv, .int .i64 ns] 61)).alloc (.cells #[.int .i64 kd, .int .i64 tk, .int .i64 ts, .string ty, .int .i64 tl, .int .i64 rl, .int .i64 nu, .slice xa xn xc, .slice na nn nc, .int .i64 ok, .int .i64 os, .string oy, .int .i64 ol, .int .i64 of, .string ky, .int .i64 sl] 49)) w.heap.size [.int .i64 mv, .int .i64 ns] := by simpa using bs_2_0 w #[.int .i64 mv, .int .i64 ns] 61 #[.int .i64 kd, .int .i64 tk, .int .i64 ts, .string ty, .int .i64 tl, .int .i64 rl, .int .i64 nu, .slice xa xn xc, .slice na nn nc, .int .i64 ok, .int .i64 os, .string oy, .int .i64 ol, .int .i64 of, .string ky, .int .i64 sl] 49
    have X1 : Bs ((w.alloc (.cells #[.int .i64 mv, .int .i64 ns] 61)).alloc (.cells #[.int .i64 kd, .int .i64 tk, .int .i64 ts, .string ty, .int .i64 tl, .int .i64 rl, .int .i64 nu, .slice xa xn xc, .slice na nn nc, .int .i64 ok, .int .i64 os, .string oy, .int .i64 ol, .int .i64 of, .string ky, .int .i64 sl] 49)) (w.heap.size + 1) [.int .i64 kd, .int .i64 tk, .int .i64 ts, .string ty, .int .i64 tl, .int .i64 rl, .int .i64 nu, .slice xa xn xc, .slice na nn nc, .int .i64 ok, .int .i64 os, .string oy, .int .i64 ol, .int .i64 of, .string ky, .int .i64 sl] := by simpa using bs_2_1 w #[.int .i64 mv, .int .i64 ns] 61 #[.int .i64 kd, .int .i64 tk, .int .i64 ts, .string ty, .int .i64 tl, .int .i64 rl, .int .i64 nu, .slice xa xn xc, .slice na nn nc, .int .i64 ok, .int .i64 os, .string oy, .int .i64 ol, .int .i64 of, .string ky, .int .i64 sl] 49
    have HX := hid (And.intro LX (And.intro X0 X1))
    clear LX X0 X1
    go_enter Tryz.func84, Tryz.ntmps84
    go_wp2_with fail
    generalize ((w.alloc (.cells #[.int .i64 mv, .int .i64 ns] 61)).alloc (.cells #[.int .i64 kd, .int .i64 tk, .int .i64 ts, .string ty, .int .i64 tl, .int .i64 rl, .int .i64 nu, .slice xa xn xc, .slice na nn nc, .int .i64 ok, .int .i64 os, .string oy, .int .i64 ol, .int .i64 of, .string ky, .int .i64 sl] 49)) = x0 at *
    have C0 := TT.out x0
    rw [hT] at C0
    refine (C0).mono ?_
    rintro e x1 ⟨rfl, hb⟩
    replace HX := hid (And.intro (HX.out.1.trans (hb.mono HX.out.1.size)) (And.intro (HX.out.2.1.low hb) (HX.out.2.2.low hb)))
    clear hb
    have c0_0_0 := HX.out.2.1.2 0 _ rfl
    have c0_0_1 := HX.out.2.1.2 1 _ rfl
    have z0_0 := HX.out.2.1.1
    have c0_1_0 := HX.out.2.2.2 0 _ rfl
    have c0_1_1 := HX.out.2.2.2 1 _ rfl
    have c0_1_2 := HX.out.2.2.2 2 _ rfl
    have c0_1_3 := HX.out.2.2.2 3 _ rfl
    have c0_1_4 := HX.out.2.2.2 4 _ rfl
    have c0_1_5 := HX.out.2.2.2 5 _ rfl
    have c0_1_6 := HX.out.2.2.2 6 _ rfl
    have c0_1_7 := HX.out.2.2.2 7 _ rfl
    have c0_1_8 := HX.out.2.2.2 8 _ rfl
    have c0_1_9 := HX.out.2.2.2 9 _ rfl
    have c0_1_10 := HX.out.2.2.2 10 _ rfl
    have c0_1_11 := HX.out.2.2.2 11 _ rfl
    have c0_1_12 := HX.out.2.2.2 12 _ rfl
    have c0_1_13 := HX.out.2.2.2 13 _ rfl
    have c0_1_14 := HX.out.2.2.2 14 _ rfl
    have c0_1_15 := HX.out.2.2.2 15 _ rfl
    have z0_1 := HX.out.2.2.1
    clear C0
    cases hN : tnB mv ns tk ts ty tl
    · have C1 := TN.out x1
      rw [hN] at C1
      go_wp2_with fail
      refine (C1).mono ?_
      rintro e x2 ⟨rfl, hb⟩
      replace HX := hid (And.intro (HX.out.1.trans (hb.mono HX.out.1.size)) (And.intro (HX.out.2.1.low hb) (HX.out.2.2.low hb)))
      clear hb
      have c1_0_0 := HX.out.2.1.2 0 _ rfl
      have c1_0_1 := HX.out.2.1.2 1 _ rfl
      have z1_0 := HX.out.2.1.1
      have c1_1_0 := HX.out.2.2.2 0 _ rfl
      have c1_1_1 := HX.out.2.2.2 1 _ rfl
      have c1_1_2 := HX.out.2.2.2 2 _ rfl
      have c1_1_3 := HX.out.2.2.2 3 _ rfl
      have c1_1_4 := HX.out.2.2.2 4 _ rfl
      have c1_1_5 := HX.out.2.2.2 5 _ rfl
      have c1_1_6 := HX.out.2.2.2 6 _ rfl
      have c1_1_7 := HX.out.2.2.2 7 _ rfl
      have c1_1_8 := HX.out.2.2.2 8 _ rfl
      have c1_1_9 := HX.out.2.2.2 9 _ rfl
      have c1_1_10 := HX.out.2.2.2 10 _ rfl
      have c1_1_11 := HX.out.2.2.2 11 _ rfl
      have c1_1_12 := HX.out.2.2.2 12 _ rfl
      have c1_1_13 := HX.out.2.2.2 13 _ rfl
      have c1_1_14 := HX.out.2.2.2 14 _ rfl
      have c1_1_15 := HX.out.2.2.2 15 _ rfl
      have z1_1 := HX.out.2.2.1
      go_wp2_with fail
      go_ret
      refine ⟨⟨_, rfl, ?_⟩, HX.out.1⟩
      simp [hN]
    · have C1 := TN.out x1
      rw [hN] at C1
      go_wp2_with fail
      refine (C1).mono ?_
      rintro e x2 ⟨rfl, hb⟩
      replace HX := hid (And.intro (HX.out.1.trans (hb.mono HX.out.1.size)) (And.intro (HX.out.2.1.low hb) (HX.out.2.2.low hb)))
      clear hb
      have c1_0_0 := HX.out.2.1.2 0 _ rfl
      have c1_0_1 := HX.out.2.1.2 1 _ rfl
      have z1_0 := HX.out.2.1.1
      have c1_1_0 := HX.out.2.2.2 0 _ rfl
      have c1_1_1 := HX.out.2.2.2 1 _ rfl
      have c1_1_2 := HX.out.2.2.2 2 _ rfl
      have c1_1_3 := HX.out.2.2.2 3 _ rfl
      have c1_1_4 := HX.out.2.2.2 4 _ rfl
      have c1_1_5 := HX.out.2.2.2 5 _ rfl
      have c1_1_6 := HX.out.2.2.2 6 _ rfl
      have c1_1_7 := HX.out.2.2.2 7 _ rfl
      have c1_1_8 := HX.out.2.2.2 8 _ rfl
      have c1_1_9 := HX.out.2.2.2 9 _ rfl
      have c1_1_10 := HX.out.2.2.2 10 _ rfl
      have c1_1_11 := HX.out.2.2.2 11 _ rfl
      have c1_1_12 := HX.out.2.2.2 12 _ rfl
      have c1_1_13 := HX.out.2.2.2 13 _ rfl
      have c1_1_14 := HX.out.2.2.2 14 _ rfl
      have c1_1_15 := HX.out.2.2.2 15 _ rfl
      have z1_1 := HX.out.2.2.1
      go_wp2_with fail
      refine (RI.out x2 HX.out.1).mono ?_
      rintro e x3 ⟨⟨b1, rfl, e1⟩, hb⟩
      replace HX := hid (And.intro (HX.out.1.trans (hb.mono HX.out.1.size)) (And.intro (HX.out.2.1.low hb) (HX.out.2.2.low hb)))
      clear hb
      have c2_0_0 := HX.out.2.1.2 0 _ rfl
      have c2_0_1 := HX.out.2.1.2 1 _ rfl
      have z2_0 := HX.out.2.1.1
      have c2_1_0 := HX.out.2.2.2 0 _ rfl
      have c2_1_1 := HX.out.2.2.2 1 _ rfl
      have c2_1_2 := HX.out.2.2.2 2 _ rfl
      have c2_1_3 := HX.out.2.2.2 3 _ rfl
      have c2_1_4 := HX.out.2.2.2 4 _ rfl
      have c2_1_5 := HX.out.2.2.2 5 _ rfl
      have c2_1_6 := HX.out.2.2.2 6 _ rfl
      have c2_1_7 := HX.out.2.2.2 7 _ rfl
      have c2_1_8 := HX.out.2.2.2 8 _ rfl
      have c2_1_9 := HX.out.2.2.2 9 _ rfl
      have c2_1_10 := HX.out.2.2.2 10 _ rfl
      have c2_1_11 := HX.out.2.2.2 11 _ rfl
      have c2_1_12 := HX.out.2.2.2 12 _ rfl
      have c2_1_13 := HX.out.2.2.2 13 _ rfl
      have c2_1_14 := HX.out.2.2.2 14 _ rfl
      have c2_1_15 := HX.out.2.2.2 15 _ rfl
      have z2_1 := HX.out.2.2.1
      have E1 := hid e1
      clear e1
      cases b1
      · go_wp2_with fail
        go_ret
        refine ⟨⟨_, rfl, ?_⟩, HX.out.1⟩
        have e1 := E1.out
        constructor
        · intro h; cases h
        · intro h; exact absurd (e1.2 (h.2.1)) (by decide)
      · skip
        go_wp2_with fail
        refine (CI.out x3 HX.out.1).mono ?_
        rintro e x4 ⟨⟨b2, rfl, e2⟩, hb⟩
        replace HX := hid (And.intro (HX.out.1.trans (hb.mono HX.out.1.size)) (And.intro (HX.out.2.1.low hb) (HX.out.2.2.low hb)))
        clear hb
        have c3_0_0 := HX.out.2.1.2 0 _ rfl
        have c3_0_1 := HX.out.2.1.2 1 _ rfl
        have z3_0 := HX.out.2.1.1
        have c3_1_0 := HX.out.2.2.2 0 _ rfl
        have c3_1_1 := HX.out.2.2.2 1 _ rfl
        have c3_1_2 := HX.out.2.2.2 2 _ rfl
        have c3_1_3 := HX.out.2.2.2 3 _ rfl
        have c3_1_4 := HX.out.2.2.2 4 _ rfl
        have c3_1_5 := HX.out.2.2.2 5 _ rfl
        have c3_1_6 := HX.out.2.2.2 6 _ rfl
        have c3_1_7 := HX.out.2.2.2 7 _ rfl
        have c3_1_8 := HX.out.2.2.2 8 _ rfl
        have c3_1_9 := HX.out.2.2.2 9 _ rfl
        have c3_1_10 := HX.out.2.2.2 10 _ rfl
        have c3_1_11 := HX.out.2.2.2 11 _ rfl
        have c3_1_12 := HX.out.2.2.2 12 _ rfl
        have c3_1_13 := HX.out.2.2.2 13 _ rfl
        have c3_1_14 := HX.out.2.2.2 14 _ rfl
        have c3_1_15 := HX.out.2.2.2 15 _ rfl
        have z3_1 := HX.out.2.2.1
        have E2 := hid e2
        clear e2
        cases b2
        · skip
          go_wp2_with fail
          refine (same_any kd tk ts ty tl rl nu xa xn xc na nn nc ok os oy ol of ky sl kd tk ts ty tl 0 0 none 0 0 na nn nc 0 0 ByteArray.empty 0 0 ByteArray.empty 0 x4).mono ?_
          rintro e x5 ⟨⟨b3, rfl, e3⟩, hb⟩
          replace HX := hid (And.intro (HX.out.1.trans (hb.mono HX.out.1.size)) (And.intro (HX.out.2.1.low hb) (HX.out.2.2.low hb)))
          clear hb
          have c4_0_0 := HX.out.2.1.2 0 _ rfl
          have c4_0_1 := HX.out.2.1.2 1 _ rfl
          have z4_0 := HX.out.2.1.1
          have c4_1_0 := HX.out.2.2.2 0 _ rfl
          have c4_1_1 := HX.out.2.2.2 1 _ rfl
          have c4_1_2 := HX.out.2.2.2 2 _ rfl
          have c4_1_3 := HX.out.2.2.2 3 _ rfl
          have c4_1_4 := HX.out.2.2.2 4 _ rfl
          have c4_1_5 := HX.out.2.2.2 5 _ rfl
          have c4_1_6 := HX.out.2.2.2 6 _ rfl
          have c4_1_7 := HX.out.2.2.2 7 _ rfl
          have c4_1_8 := HX.out.2.2.2 8 _ rfl
          have c4_1_9 := HX.out.2.2.2 9 _ rfl
          have c4_1_10 := HX.out.2.2.2 10 _ rfl
          have c4_1_11 := HX.out.2.2.2 11 _ rfl
          have c4_1_12 := HX.out.2.2.2 12 _ rfl
          have c4_1_13 := HX.out.2.2.2 13 _ rfl
          have c4_1_14 := HX.out.2.2.2 14 _ rfl
          have c4_1_15 := HX.out.2.2.2 15 _ rfl
          have z4_1 := HX.out.2.2.1
          have E3 := hid e3
          clear e3
          go_wp2_with fail
          go_ret
          refine ⟨⟨_, rfl, ?_⟩, HX.out.1⟩
          have e1 := E1.out.1 (by first | rfl | trivial)
          have e2 : ¬ _ := fun h => absurd (E2.out.2 h) (by decide)
          rw [E3.out]
          exact ⟨fun h => ⟨hN, e1, e2, h⟩, fun h => h.2.2.2⟩
        · go_wp2_with fail
          go_ret
          refine ⟨⟨_, rfl, ?_⟩, HX.out.1⟩
          constructor
          · intro h; cases h
          · intro h; exact absurd (E2.out.1 (by first | rfl | trivial)) (h.2.2.1)
  · simp only [if_true]
    have LX : Below w.heap.size w ((w.alloc (.cells #[.int .i64 mv, .int .i64 ns] 61)).alloc (.cells #[.int .i64 kd, .int .i64 tk, .int .i64 ts, .string ty, .int .i64 tl, .int .i64 rl, .int .i64 nu, .slice xa xn xc, .slice na nn nc, .int .i64 ok, .int .i64 os, .string oy, .int .i64 ol, .int .i64 of, .string ky, .int .i64 sl] 49)) := (((Below.refl _ w).alloc (by simp) _).alloc (by simp) _)
    have X0 : Bs ((w.alloc (.cells #[.int .i64 mv, .int .i64 ns] 61)).alloc (.cells #[.int .i64 kd, .int .i64 tk, .int .i64 ts, .string ty, .int .i64 tl, .int .i64 rl, .int .i64 nu, .slice xa xn xc, .slice na nn nc, .int .i64 ok, .int .i64 os, .string oy, .int .i64 ol, .int .i64 of, .string ky, .int .i64 sl] 49)) w.heap.size [.int .i64 mv, .int .i64 ns] := by simpa using bs_2_0 w #[.int .i64 mv, .int .i64 ns] 61 #[.int .i64 kd, .int .i64 tk, .int .i64 ts, .string ty, .int .i64 tl, .int .i64 rl, .int .i64 nu, .slice xa xn xc, .slice na nn nc, .int .i64 ok, .int .i64 os, .string oy, .int .i64 ol, .int .i64 of, .string ky, .int .i64 sl] 49
    have X1 : Bs ((w.alloc (.cells #[.int .i64 mv, .int .i64 ns] 61)).alloc (.cells #[.int .i64 kd, .int .i64 tk, .int .i64 ts, .string ty, .int .i64 tl, .int .i64 rl, .int .i64 nu, .slice xa xn xc, .slice na nn nc, .int .i64 ok, .int .i64 os, .string oy, .int .i64 ol, .int .i64 of, .string ky, .int .i64 sl] 49)) (w.heap.size + 1) [.int .i64 kd, .int .i64 tk, .int .i64 ts, .string ty, .int .i64 tl, .int .i64 rl, .int .i64 nu, .slice xa xn xc, .slice na nn nc, .int .i64 ok, .int .i64 os, .string oy, .int .i64 ol, .int .i64 of, .string ky, .int .i64 sl] := by simpa using bs_2_1 w #[.int .i64 mv, .int .i64 ns] 61 #[.int .i64 kd, .int .i64 tk, .int .i64 ts, .string ty, .int .i64 tl, .int .i64 rl, .int .i64 nu, .slice xa xn xc, .slice na nn nc, .int .i64 ok, .int .i64 os, .string oy, .int .i64 ol, .int .i64 of, .string ky, .int .i64 sl] 49
    have HX := hid (And.intro LX (And.intro X0 X1))
    clear LX X0 X1
    go_enter Tryz.func84, Tryz.ntmps84
    go_wp2_with fail
    generalize ((w.alloc (.cells #[.int .i64 mv, .int .i64 ns] 61)).alloc (.cells #[.int .i64 kd, .int .i64 tk, .int .i64 ts, .string ty, .int .i64 tl, .int .i64 rl, .int .i64 nu, .slice xa xn xc, .slice na nn nc, .int .i64 ok, .int .i64 os, .string oy, .int .i64 ol, .int .i64 of, .string ky, .int .i64 sl] 49)) = x0 at *
    have C0 := TT.out x0
    rw [hT] at C0
    refine (C0).mono ?_
    rintro e x1 ⟨rfl, hb⟩
    replace HX := hid (And.intro (HX.out.1.trans (hb.mono HX.out.1.size)) (And.intro (HX.out.2.1.low hb) (HX.out.2.2.low hb)))
    clear hb
    have c0_0_0 := HX.out.2.1.2 0 _ rfl
    have c0_0_1 := HX.out.2.1.2 1 _ rfl
    have z0_0 := HX.out.2.1.1
    have c0_1_0 := HX.out.2.2.2 0 _ rfl
    have c0_1_1 := HX.out.2.2.2 1 _ rfl
    have c0_1_2 := HX.out.2.2.2 2 _ rfl
    have c0_1_3 := HX.out.2.2.2 3 _ rfl
    have c0_1_4 := HX.out.2.2.2 4 _ rfl
    have c0_1_5 := HX.out.2.2.2 5 _ rfl
    have c0_1_6 := HX.out.2.2.2 6 _ rfl
    have c0_1_7 := HX.out.2.2.2 7 _ rfl
    have c0_1_8 := HX.out.2.2.2 8 _ rfl
    have c0_1_9 := HX.out.2.2.2 9 _ rfl
    have c0_1_10 := HX.out.2.2.2 10 _ rfl
    have c0_1_11 := HX.out.2.2.2 11 _ rfl
    have c0_1_12 := HX.out.2.2.2 12 _ rfl
    have c0_1_13 := HX.out.2.2.2 13 _ rfl
    have c0_1_14 := HX.out.2.2.2 14 _ rfl
    have c0_1_15 := HX.out.2.2.2 15 _ rfl
    have z0_1 := HX.out.2.2.1
    clear C0
    go_wp2_with fail
    refine (RS.out x1 HX.out.1).mono ?_
    rintro e x2 ⟨⟨b1, rfl, e1⟩, hb⟩
    replace HX := hid (And.intro (HX.out.1.trans (hb.mono HX.out.1.size)) (And.intro (HX.out.2.1.low hb) (HX.out.2.2.low hb)))
    clear hb
    have c1_0_0 := HX.out.2.1.2 0 _ rfl
    have c1_0_1 := HX.out.2.1.2 1 _ rfl
    have z1_0 := HX.out.2.1.1
    have c1_1_0 := HX.out.2.2.2 0 _ rfl
    have c1_1_1 := HX.out.2.2.2 1 _ rfl
    have c1_1_2 := HX.out.2.2.2 2 _ rfl
    have c1_1_3 := HX.out.2.2.2 3 _ rfl
    have c1_1_4 := HX.out.2.2.2 4 _ rfl
    have c1_1_5 := HX.out.2.2.2 5 _ rfl
    have c1_1_6 := HX.out.2.2.2 6 _ rfl
    have c1_1_7 := HX.out.2.2.2 7 _ rfl
    have c1_1_8 := HX.out.2.2.2 8 _ rfl
    have c1_1_9 := HX.out.2.2.2 9 _ rfl
    have c1_1_10 := HX.out.2.2.2 10 _ rfl
    have c1_1_11 := HX.out.2.2.2 11 _ rfl
    have c1_1_12 := HX.out.2.2.2 12 _ rfl
    have c1_1_13 := HX.out.2.2.2 13 _ rfl
    have c1_1_14 := HX.out.2.2.2 14 _ rfl
    have c1_1_15 := HX.out.2.2.2 15 _ rfl
    have z1_1 := HX.out.2.2.1
    have E1 := hid e1
    clear e1
    cases b1
    · go_wp2_with fail
      go_ret
      refine ⟨⟨_, rfl, ?_⟩, HX.out.1⟩
      have e1 := E1.out
      constructor
      · intro h; cases h
      · intro h; exact absurd (e1.2 (h.1)) (by decide)
    · skip
      go_wp2_with fail
      refine (CS.out x2 HX.out.1).mono ?_
      rintro e x3 ⟨⟨b2, rfl, e2⟩, hb⟩
      replace HX := hid (And.intro (HX.out.1.trans (hb.mono HX.out.1.size)) (And.intro (HX.out.2.1.low hb) (HX.out.2.2.low hb)))
      clear hb
      have c2_0_0 := HX.out.2.1.2 0 _ rfl
      have c2_0_1 := HX.out.2.1.2 1 _ rfl
      have z2_0 := HX.out.2.1.1
      have c2_1_0 := HX.out.2.2.2 0 _ rfl
      have c2_1_1 := HX.out.2.2.2 1 _ rfl
      have c2_1_2 := HX.out.2.2.2 2 _ rfl
      have c2_1_3 := HX.out.2.2.2 3 _ rfl
      have c2_1_4 := HX.out.2.2.2 4 _ rfl
      have c2_1_5 := HX.out.2.2.2 5 _ rfl
      have c2_1_6 := HX.out.2.2.2 6 _ rfl
      have c2_1_7 := HX.out.2.2.2 7 _ rfl
      have c2_1_8 := HX.out.2.2.2 8 _ rfl
      have c2_1_9 := HX.out.2.2.2 9 _ rfl
      have c2_1_10 := HX.out.2.2.2 10 _ rfl
      have c2_1_11 := HX.out.2.2.2 11 _ rfl
      have c2_1_12 := HX.out.2.2.2 12 _ rfl
      have c2_1_13 := HX.out.2.2.2 13 _ rfl
      have c2_1_14 := HX.out.2.2.2 14 _ rfl
      have c2_1_15 := HX.out.2.2.2 15 _ rfl
      have z2_1 := HX.out.2.2.1
      have E2 := hid e2
      clear e2
      cases b2
      · skip
        go_wp2_with fail
        refine (same_any kd tk ts ty tl rl nu xa xn xc na nn nc ok os oy ol of ky sl kd tk ts ty tl 0 0 xa xn xc none 0 0 0 0 ByteArray.empty 0 0 ByteArray.empty 0 x3).mono ?_
        rintro e x4 ⟨⟨b3, rfl, e3⟩, hb⟩
        replace HX := hid (And.intro (HX.out.1.trans (hb.mono HX.out.1.size)) (And.intro (HX.out.2.1.low hb) (HX.out.2.2.low hb)))
        clear hb
        have c3_0_0 := HX.out.2.1.2 0 _ rfl
        have c3_0_1 := HX.out.2.1.2 1 _ rfl
        have z3_0 := HX.out.2.1.1
        have c3_1_0 := HX.out.2.2.2 0 _ rfl
        have c3_1_1 := HX.out.2.2.2 1 _ rfl
        have c3_1_2 := HX.out.2.2.2 2 _ rfl
        have c3_1_3 := HX.out.2.2.2 3 _ rfl
        have c3_1_4 := HX.out.2.2.2 4 _ rfl
        have c3_1_5 := HX.out.2.2.2 5 _ rfl
        have c3_1_6 := HX.out.2.2.2 6 _ rfl
        have c3_1_7 := HX.out.2.2.2 7 _ rfl
        have c3_1_8 := HX.out.2.2.2 8 _ rfl
        have c3_1_9 := HX.out.2.2.2 9 _ rfl
        have c3_1_10 := HX.out.2.2.2 10 _ rfl
        have c3_1_11 := HX.out.2.2.2 11 _ rfl
        have c3_1_12 := HX.out.2.2.2 12 _ rfl
        have c3_1_13 := HX.out.2.2.2 13 _ rfl
        have c3_1_14 := HX.out.2.2.2 14 _ rfl
        have c3_1_15 := HX.out.2.2.2 15 _ rfl
        have z3_1 := HX.out.2.2.1
        have E3 := hid e3
        clear e3
        go_wp2_with fail
        go_ret
        refine ⟨⟨_, rfl, ?_⟩, HX.out.1⟩
        have e1 := E1.out.1 (by first | rfl | trivial)
        have e2 : ¬ _ := fun h => absurd (E2.out.2 h) (by decide)
        rw [E3.out]
        exact ⟨fun h => ⟨e1, e2, h⟩, fun h => h.2.2⟩
      · go_wp2_with fail
        go_ret
        refine ⟨⟨_, rfl, ?_⟩, HX.out.1⟩
        constructor
        · intro h; cases h
        · intro h; exact absurd (E2.out.1 (by first | rfl | trivial)) (h.2.1)
end Go.Proofs.YtimmjikpcekffaaGreatDoor.L
