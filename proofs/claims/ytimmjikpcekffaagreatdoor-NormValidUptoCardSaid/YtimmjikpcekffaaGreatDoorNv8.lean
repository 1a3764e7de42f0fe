import Derived.Test.YtimmjikpcekffaaGreatDoorNv7
namespace Go.Proofs.YtimmjikpcekffaaGreatDoor.L
open Go.RowKit
set_option linter.unusedVariables false
set_option linter.unusedSimpArgs false
set_option maxHeartbeats 16000000 in
set_option maxRecDepth 100000 in
theorem tlit_1_1 (mv ns : Int) (kd tk ts : Int) (ty : ByteArray) (tl rl nu : Int) (xa : Option Addr) (xn xc : Nat) (na : Option Addr) (nn nc : Nat) (ok os : Int) (oy : ByteArray) (ol of : Int) (ky : ByteArray) (sl : Int) (tx : List ByteArray) (nm : List Int) (w : World) (hm : (mv == 2) = true) (k1 : (kd == 1) = true) (hs : ty.size ≤ maxLen) (ho : oy.size ≤ maxLen) (hy : ky.size ≤ maxLen) (hx : xn = tx.length) (hn : nn = nm.length) (rx : RdS w xa tx) (rn : RdI w na nm) (bx : xn ≤ 140737488355328) (bn : nn ≤ 140737488355328) (hz : ∀ k, (tx.getD k ByteArray.empty).size ≤ maxLen) : Calls Tryz.prog 56 #[.agg #[.int .i64 mv, .int .i64 ns], .agg #[.int .i64 kd, .int .i64 tk, .int .i64 ts, .string ty, .int .i64 tl, .int .i64 rl, .int .i64 nu, .slice xa xn xc, .slice na nn nc, .int .i64 ok, .int .i64 os, .string oy, .int .i64 ol, .int .i64 of, .string ky, .int .i64 sl]] w fun e w' => (∃ b, e = .returned (.bool b) ∧ (b = true ↔ LitP mv ns kd tk ts ty tl rl nu xa xn xc na nn nc ok os oy ol of ky sl tx nm)) ∧ Below w.heap.size w w' := by
  have HXN := hid hx
  have HNN := hid hn
  clear hx hn
  have HLX := hid (show Below w.heap.size w ((w.alloc (.cells #[.int .i64 mv, .int .i64 ns] 61)).alloc (.cells #[.int .i64 kd, .int .i64 tk, .int .i64 ts, .string ty, .int .i64 tl, .int .i64 rl, .int .i64 nu, .slice xa xn xc, .slice na nn nc, .int .i64 ok, .int .i64 os, .string oy, .int .i64 ol, .int .i64 of, .string ky, .int .i64 sl] 49)) from (((Below.refl _ w).alloc (by simp) _).alloc (by simp) _))
  have X0 : Bs ((w.alloc (.cells #[.int .i64 mv, .int .i64 ns] 61)).alloc (.cells #[.int .i64 kd, .int .i64 tk, .int .i64 ts, .string ty, .int .i64 tl, .int .i64 rl, .int .i64 nu, .slice xa xn xc, .slice na nn nc, .int .i64 ok, .int .i64 os, .string oy, .int .i64 ol, .int .i64 of, .string ky, .int .i64 sl] 49)) w.heap.size [.int .i64 mv, .int .i64 ns] := by simpa using bs_2_0 w _ _ _ _
  have X1 : Bs ((w.alloc (.cells #[.int .i64 mv, .int .i64 ns] 61)).alloc (.cells #[.int .i64 kd, .int .i64 tk, .int .i64 ts, .string ty, .int .i64 tl, .int .i64 rl, .int .i64 nu, .slice xa xn xc, .slice na nn nc, .int .i64 ok, .int .i64 os, .string oy, .int .i64 ol, .int .i64 of, .string ky, .int .i64 sl] 49)) (w.heap.size + 1) [.int .i64 kd, .int .i64 tk, .int .i64 ts, .string ty, .int .i64 tl, .int .i64 rl, .int .i64 nu, .slice xa xn xc, .slice na nn nc, .int .i64 ok, .int .i64 os, .string oy, .int .i64 ol, .int .i64 of, .string ky, .int .i64 sl] := by simpa using bs_2_1 w _ _ _ _
  go_enter Tryz.func56, Tryz.ntmps56
  go_upto_region 1 with (fail)
  generalize ((w.alloc (.cells #[.int .i64 mv, .int .i64 ns] 61)).alloc (.cells #[.int .i64 kd, .int .i64 tk, .int .i64 ts, .string ty, .int .i64 tl, .int .i64 rl, .int .i64 nu, .slice xa xn xc, .slice na nn nc, .int .i64 ok, .int .i64 os, .string oy, .int .i64 ol, .int .i64 of, .string ky, .int .i64 sl] 49)) = x0 at *
  have c0 := bs2 X0
  have z0 := X0.1
  have c1 := bs16 X1
  have z1 := X1.1
  have C := hid (tin_any mv ns kd tk ts ty tl rl nu xa xn xc na nn nc ok os oy ol of ky sl tx nm x0 hs HXN.out HNN.out (rx.low HLX.out (Nat.le_refl _)) (rn.low HLX.out (Nat.le_refl _)) bx bn hz)
  go_wp2_with fail
  refine C.out.mono ?_
  rintro e x1 ⟨⟨bb, rfl, ebb⟩, hb⟩
  replace HLX := hid (HLX.out.trans (hb.mono HLX.out.size))
  replace X0 := X0.low hb
  replace X1 := X1.low hb
  clear hb C
  have EBB := hid ebb
  clear ebb
  clear c0 z0
  have c0 := bs2 X0
  have z0 := X0.1
  clear c1 z1
  have c1 := bs16 X1
  have z1 := X1.1
  go_wp2_with fail
  go_ret
  refine ⟨⟨_, rfl, ?_⟩, HLX.out⟩
  rw [EBB.out]
  clear X0 c0 z0 X1 c1 z1
  unfold LitP
  simp [hm, k1]

set_option maxHeartbeats 16000000 in
set_option maxRecDepth 100000 in
theorem tlit_1_2 (mv ns : Int) (kd tk ts : Int) (ty : ByteArray) (tl rl nu : Int) (xa : Option Addr) (xn xc : Nat) (na : Option Addr) (nn nc : Nat) (ok os : Int) (oy : ByteArray) (ol of : Int) (ky : ByteArray) (sl : Int) (tx : List ByteArray) (nm : List Int) (w : World) (hm : (mv == 2) = true) (k1 : (kd == 1) = false) (k2 : (kd == 2) = true) (hs : ty.size ≤ maxLen) (ho : oy.size ≤ maxLen) (hy : ky.size ≤ maxLen) (hx : xn = tx.length) (hn : nn = nm.length) (rx : RdS w xa tx) (rn : RdI w na nm) (bx : xn ≤ 140737488355328) (bn : nn ≤ 140737488355328) (hz : ∀ k, (tx.getD k ByteArray.empty).size ≤ maxLen) : Calls Tryz.prog 56 #[.agg #[.int .i64 mv, .int .i64 ns], .agg #[.int .i64 kd, .int .i64 tk, .int .i64 ts, .string ty, .int .i64 tl, .int .i64 rl, .int .i64 nu, .slice xa xn xc, .slice na nn nc, .int .i64 ok, .int .i64 os, .string oy, .int .i64 ol, .int .i64 of, .string ky, .int .i64 sl]] w fun e w' => (∃ b, e = .returned (.bool b) ∧ (b = true ↔ LitP mv ns kd tk ts ty tl rl nu xa xn xc na nn nc ok os oy ol of ky sl tx nm)) ∧ Below w.heap.size w w' := by
  have HXN := hid hx
  have HNN := hid hn
  clear hx hn
  have HLX := hid (show Below w.heap.size w ((w.alloc (.cells #[.int .i64 mv, .int .i64 ns] 61)).alloc (.cells #[.int .i64 kd, .int .i64 tk, .int .i64 ts, .string ty, .int .i64 tl, .int .i64 rl, .int .i64 nu, .slice xa xn xc, .slice na nn nc, .int .i64 ok, .int .i64 os, .string oy, .int .i64 ol, .int .i64 of, .string ky, .int .i64 sl] 49)) from (((Below.refl _ w).alloc (by simp) _).alloc (by simp) _))
  have X0 : Bs ((w.alloc (.cells #[.int .i64 mv, .int .i64 ns] 61)).alloc (.cells #[.int .i64 kd, .int .i64 tk, .int .i64 ts, .string ty, .int .i64 tl, .int .i64 rl, .int .i64 nu, .slice xa xn xc, .slice na nn nc, .int .i64 ok, .int .i64 os, .string oy, .int .i64 ol, .int .i64 of, .string ky, .int .i64 sl] 49)) w.heap.size [.int .i64 mv, .int .i64 ns] := by simpa using bs_2_0 w _ _ _ _
  have X1 : Bs ((w.alloc (.cells #[.int .i64 mv, .int .i64 ns] 61)).alloc (.cells #[.int .i64 kd, .int .i64 tk, .int .i64 ts, .string ty, .int .i64 tl, .int .i64 rl, .int .i64 nu, .slice xa xn xc, .slice na nn nc, .int .i64 ok, .int .i64 os, .string oy, .int .i64 ol, .int .i64 of, .string ky, .int .i64 sl] 49)) (w.heap.size + 1) [.int .i64 kd, .int .i64 tk, .int .i64 ts, .string ty, .int .i64 tl, .int .i64 rl, .int .i64 nu, .slice xa xn xc, .slice na nn nc, .int .i64 ok, .int .i64 os, .string oy, .int .i64 ol, .int .i64 of, .string ky, .int .i64 sl] := by simpa using bs_2_1 w _ _ _ _
  go_enter Tryz.func56, Tryz.ntmps56
  go_upto_region 1 with (fail)
  generalize ((w.alloc (.cells #[.int .i64 mv, .int .i64 ns] 61)).alloc (.cells #[.int .i64 kd, .int .i64 tk, .int .i64 ts, .string ty, .int .i64 tl, .int .i64 rl, .int .i64 nu, .slice xa xn xc, .slice na nn nc, .int .i64 ok, .int .i64 os, .string oy, .int .i64 ol, .int .i64 of, .string ky, .int .i64 sl] 49)) = x0 at *
  have c0 := bs2 X0
  have z0 := X0.1
  have c1 := bs16 X1
  have z1 := X1.1
  have C := hid (tnum_any mv ns tk ts ty tl x0 hs)
  go_wp2_with fail
  refine C.out.mono ?_
  rintro e x1 ⟨rfl, hb⟩
  replace HLX := hid (HLX.out.trans (hb.mono HLX.out.size))
  replace X0 := X0.low hb
  replace X1 := X1.low hb
  clear hb C
  clear c0 z0
  have c0 := bs2 X0
  have z0 := X0.1
  clear c1 z1
  have c1 := bs16 X1
  have z1 := X1.1
  cases h1 : (tnB mv ns tk ts ty tl)
  · go_wp2_with fail
    go_ret
    refine ⟨⟨_, rfl, ?_⟩, HLX.out⟩
    clear X0 c0 z0 X1 c1 z1
    unfold LitP
    simp [hm, k1, k2, h1]
  · have C := hid (bounded_any rl nu x1)
    go_wp2_with fail
    refine C.out.mono ?_
    rintro e x2 ⟨rfl, hb⟩
    replace HLX := hid (HLX.out.trans (hb.mono HLX.out.size))
    replace X0 := X0.low hb
    replace X1 := X1.low hb
    clear hb C
    clear c0 z0
    have c0 := bs2 X0
    have z0 := X0.1
    clear c1 z1
    have c1 := bs16 X1
    have z1 := X1.1
    cases h2 : (bdB rl nu)
    · go_wp2_with fail
      go_ret
      refine ⟨⟨_, rfl, ?_⟩, HLX.out⟩
      clear X0 c0 z0 X1 c1 z1
      unfold LitP
      simp [hm, k1, k2, h1, h2]
    · have C := hid (same_any kd tk ts ty tl rl nu xa xn xc na nn nc ok os oy ol of ky sl kd tk ts ty tl rl nu none 0 0 none 0 0 0 0 ByteArray.empty 0 0 ByteArray.empty 0 x2)
      go_wp2_with fail
      refine C.out.mono ?_
      rintro e x3 ⟨⟨bb, rfl, ebb⟩, hb⟩
      replace HLX := hid (HLX.out.trans (hb.mono HLX.out.size))
      replace X0 := X0.low hb
      replace X1 := X1.low hb
      clear hb C
      have EBB := hid ebb
      clear ebb
      clear c0 z0
      have c0 := bs2 X0
      have z0 := X0.1
      clear c1 z1
      have c1 := bs16 X1
      have z1 := X1.1
      go_wp2_with fail
      go_ret
      refine ⟨⟨_, rfl, ?_⟩, HLX.out⟩
      rw [EBB.out]
      clear X0 c0 z0 X1 c1 z1
      unfold LitP
      simp [hm, k1, k2, h1, h2]

set_option maxHeartbeats 16000000 in
set_option maxRecDepth 100000 in
theorem tlit_1_3 (mv ns : Int) (kd tk ts : Int) (ty : ByteArray) (tl rl nu : Int) (xa : Option Addr) (xn xc : Nat) (na : Option Addr) (nn nc : Nat) (ok os : Int) (oy : ByteArray) (ol of : Int) (ky : ByteArray) (sl : Int) (tx : List ByteArray) (nm : List Int) (w : World) (hm : (mv == 2) = true) (k1 : (kd == 1) = false) (k2 : (kd == 2) = false) (k3 : (kd == 3) = true) (hs : ty.size ≤ maxLen) (ho : oy.size ≤ maxLen) (hy : ky.size ≤ maxLen) (hx : xn = tx.length) (hn : nn = nm.length) (rx : RdS w xa tx) (rn : RdI w na nm) (bx : xn ≤ 140737488355328) (bn : nn ≤ 140737488355328) (hz : ∀ k, (tx.getD k ByteArray.empty).size ≤ maxLen) : Calls Tryz.prog 56 #[.agg #[.int .i64 mv, .int .i64 ns], .agg #[.int .i64 kd, .int .i64 tk, .int .i64 ts, .string ty, .int .i64 tl, .int .i64 rl, .int .i64 nu, .slice xa xn xc, .slice na nn nc, .int .i64 ok, .int .i64 os, .string oy, .int .i64 ol, .int .i64 of, .string ky, .int .i64 sl]] w fun e w' => (∃ b, e = .returned (.bool b) ∧ (b = true ↔ LitP mv ns kd tk ts ty tl rl nu xa xn xc na nn nc ok os oy ol of ky sl tx nm)) ∧ Below w.heap.size w w' := by
  have HXN := hid hx
  have HNN := hid hn
  clear hx hn
  have HLX := hid (show Below w.heap.size w ((w.alloc (.cells #[.int .i64 mv, .int .i64 ns] 61)).alloc (.cells #[.int .i64 kd, .int .i64 tk, .int .i64 ts, .string ty, .int .i64 tl, .int .i64 rl, .int .i64 nu, .slice xa xn xc, .slice na nn nc, .int .i64 ok, .int .i64 os, .string oy, .int .i64 ol, .int .i64 of, .string ky, .int .i64 sl] 49)) from (((Below.refl _ w).alloc (by simp) _).alloc (by simp) _))
  have X0 : Bs ((w.alloc (.cells #[.int .i64 mv, .int .i64 ns] 61)).alloc (.cells #[.int .i64 kd, .int .i64 tk, .int .i64 ts, .string ty, .int .i64 tl, .int .i64 rl, .int .i64 nu, .slice xa xn xc, .slice na nn nc, .int .i64 ok, .int .i64 os, .string oy, .int .i64 ol, .int .i64 of, .string ky, .int .i64 sl] 49)) w.heap.size [.int .i64 mv, .int .i64 ns] := by simpa using bs_2_0 w _ _ _ _
  have X1 : Bs ((w.alloc (.cells #[.int .i64 mv, .int .i64 ns] 61)).alloc (.cells #[.int .i64 kd, .int .i64 tk, .int .i64 ts, .string ty, .int .i64 tl, .int .i64 rl, .int .i64 nu, .slice xa xn xc, .slice na nn nc, .int .i64 ok, .int .i64 os, .string oy, .int .i64 ol, .int .i64 of, .string ky, .int .i64 sl] 49)) (w.heap.size + 1) [.int .i64 kd, .int .i64 tk, .int .i64 ts, .string ty, .int .i64 tl, .int .i64 rl, .int .i64 nu, .slice xa xn xc, .slice na nn nc, .int .i64 ok, .int .i64 os, .string oy, .int .i64 ol, .int .i64 of, .string ky, .int .i64 sl] := by simpa using bs_2_1 w _ _ _ _
  go_enter Tryz.func56, Tryz.ntmps56
  go_upto_region 1 with (fail)
  generalize ((w.alloc (.cells #[.int .i64 mv, .int .i64 ns] 61)).alloc (.cells #[.int .i64 kd, .int .i64 tk, .int .i64 ts, .string ty, .int .i64 tl, .int .i64 rl, .int .i64 nu, .slice xa xn xc, .slice na nn nc, .int .i64 ok, .int .i64 os, .string oy, .int .i64 ol, .int .i64 of, .string ky, .int .i64 sl] 49)) = x0 at *
  have c0 := bs2 X0
  have z0 := X0.1
  have c1 := bs16 X1
  have z1 := X1.1
  have C := hid (tpod_any mv ns kd tk ts ty tl rl nu xa xn xc na nn nc ok os oy ol of ky sl x0 hs ho)
  go_wp2_with fail
  refine C.out.mono ?_
  rintro e x1 ⟨rfl, hb⟩
  replace HLX := hid (HLX.out.trans (hb.mono HLX.out.size))
  replace X0 := X0.low hb
  replace X1 := X1.low hb
  clear hb C
  clear c0 z0
  have c0 := bs2 X0
  have z0 := X0.1
  clear c1 z1
  have c1 := bs16 X1
  have z1 := X1.1
  cases h1 : (pdB mv ns kd tk ts ty tl rl nu xa xn xc na nn nc ok os oy ol of ky sl)
  · go_wp2_with fail
    go_ret
    refine ⟨⟨_, rfl, ?_⟩, HLX.out⟩
    clear X0 c0 z0 X1 c1 z1
    unfold LitP
    simp [hm, k1, k2, k3, h1]
  · have C := hid (same_any kd tk ts ty tl rl nu xa xn xc na nn nc ok os oy ol of ky sl kd tk ts ty tl rl 0 none 0 0 none 0 0 ok os oy ol 0 ByteArray.empty 0 x1)
    go_wp2_with fail
    refine C.out.mono ?_
    rintro e x2 ⟨⟨bb, rfl, ebb⟩, hb⟩
    replace HLX := hid (HLX.out.trans (hb.mono HLX.out.size))
    replace X0 := X0.low hb
    replace X1 := X1.low hb
    clear hb C
    have EBB := hid ebb
    clear ebb
    clear c0 z0
    have c0 := bs2 X0
    have z0 := X0.1
    clear c1 z1
    have c1 := bs16 X1
    have z1 := X1.1
    go_wp2_with fail
    go_ret
    refine ⟨⟨_, rfl, ?_⟩, HLX.out⟩
    rw [EBB.out]
    clear X0 c0 z0 X1 c1 z1
    unfold LitP
    simp [hm, k1, k2, k3, h1]

set_option maxHeartbeats 16000000 in
set_option maxRecDepth 100000 in
theorem tlit_1_4 (mv ns : Int) (kd tk ts : Int) (ty : ByteArray) (tl rl nu : Int) (xa : Option Addr) (xn xc : Nat) (na : Option Addr) (nn nc : Nat) (ok os : Int) (oy : ByteArray) (ol of : Int) (ky : ByteArray) (sl : Int) (tx : List ByteArray) (nm : List Int) (w : World) (hm : (mv == 2) = true) (k1 : (kd == 1) = false) (k2 : (kd == 2) = false) (k3 : (kd == 3) = false) (k4 : (kd == 4) = true) (hs : ty.size ≤ maxLen) (ho : oy.size ≤ maxLen) (hy : ky.size ≤ maxLen) (hx : xn = tx.length) (hn : nn = nm.length) (rx : RdS w xa tx) (rn : RdI w na nm) (bx : xn ≤ 140737488355328) (bn : nn ≤ 140737488355328) (hz : ∀ k, (tx.getD k ByteArray.empty).size ≤ maxLen) : Calls Tryz.prog 56 #[.agg #[.int .i64 mv, .int .i64 ns], .agg #[.int .i64 kd, .int .i64 tk, .int .i64 ts, .string ty, .int .i64 tl, .int .i64 rl, .int .i64 nu, .slice xa xn xc, .slice na nn nc, .int .i64 ok, .int .i64 os, .string oy, .int .i64 ol, .int .i64 of, .string ky, .int .i64 sl]] w fun e w' => (∃ b, e = .returned (.bool b) ∧ (b = true ↔ LitP mv ns kd tk ts ty tl rl nu xa xn xc na nn nc ok os oy ol of ky sl tx nm)) ∧ Below w.heap.size w w' := by
  have HXN := hid hx
  have HNN := hid hn
  clear hx hn
  have HLX := hid (show Below w.heap.size w ((w.alloc (.cells #[.int .i64 mv, .int .i64 ns] 61)).alloc (.cells #[.int .i64 kd, .int .i64 tk, .int .i64 ts, .string ty, .int .i64 tl, .int .i64 rl, .int .i64 nu, .slice xa xn xc, .slice na nn nc, .int .i64 ok, .int .i64 os, .string oy, .int .i64 ol, .int .i64 of, .string ky, .int .i64 sl] 49)) from (((Below.refl _ w).alloc (by simp) _).alloc (by simp) _))
  have X0 : Bs ((w.alloc (.cells #[.int .i64 mv, .int .i64 ns] 61)).alloc (.cells #[.int .i64 kd, .int .i64 tk, .int .i64 ts, .string ty, .int .i64 tl, .int .i64 rl, .int .i64 nu, .slice xa xn xc, .slice na nn nc, .int .i64 ok, .int .i64 os, .string oy, .int .i64 ol, .int .i64 of, .string ky, .int .i64 sl] 49)) w.heap.size [.int .i64 mv, .int .i64 ns] := by simpa using bs_2_0 w _ _ _ _
  have X1 : Bs ((w.alloc (.cells #[.int .i64 mv, .int .i64 ns] 61)).alloc (.cells #[.int .i64 kd, .int .i64 tk, .int .i64 ts, .string ty, .int .i64 tl, .int .i64 rl, .int .i64 nu, .slice xa xn xc, .slice na nn nc, .int .i64 ok, .int .i64 os, .string oy, .int .i64 ol, .int .i64 of, .string ky, .int .i64 sl] 49)) (w.heap.size + 1) [.int .i64 kd, .int .i64 tk, .int .i64 ts, .string ty, .int .i64 tl, .int .i64 rl, .int .i64 nu, .slice xa xn xc, .slice na nn nc, .int .i64 ok, .int .i64 os, .string oy, .int .i64 ol, .int .i64 of, .string ky, .int .i64 sl] := by simpa using bs_2_1 w _ _ _ _
  go_enter Tryz.func56, Tryz.ntmps56
  go_upto_region 1 with (fail)
  generalize ((w.alloc (.cells #[.int .i64 mv, .int .i64 ns] 61)).alloc (.cells #[.int .i64 kd, .int .i64 tk, .int .i64 ts, .string ty, .int .i64 tl, .int .i64 rl, .int .i64 nu, .slice xa xn xc, .slice na nn nc, .int .i64 ok, .int .i64 os, .string oy, .int .i64 ol, .int .i64 of, .string ky, .int .i64 sl] 49)) = x0 at *
  have c0 := bs2 X0
  have z0 := X0.1
  have c1 := bs16 X1
  have z1 := X1.1
  have C := hid (tkeys_any mv ns kd tk ts ty tl rl nu xa xn xc na nn nc ok os oy ol of ky sl x0 hs)
  go_wp2_with fail
  refine C.out.mono ?_
  rintro e x1 ⟨rfl, hb⟩
  replace HLX := hid (HLX.out.trans (hb.mono HLX.out.size))
  replace X0 := X0.low hb
  replace X1 := X1.low hb
  clear hb C
  clear c0 z0
  have c0 := bs2 X0
  have z0 := X0.1
  clear c1 z1
  have c1 := bs16 X1
  have z1 := X1.1
  cases h1 : (kyB mv tk ts ty tl of)
  · go_wp2_with fail
    go_ret
    refine ⟨⟨_, rfl, ?_⟩, HLX.out⟩
    clear X0 c0 z0 X1 c1 z1
    unfold LitP
    simp [hm, k1, k2, k3, k4, h1]
  · have C := hid (same_any kd tk ts ty tl rl nu xa xn xc na nn nc ok os oy ol of ky sl kd tk ts ty tl 0 0 none 0 0 none 0 0 0 0 ByteArray.empty 0 of ByteArray.empty 0 x1)
    go_wp2_with fail
    refine C.out.mono ?_
    rintro e x2 ⟨⟨bb, rfl, ebb⟩, hb⟩
    replace HLX := hid (HLX.out.trans (hb.mono HLX.out.size))
    replace X0 := X0.low hb
    replace X1 := X1.low hb
    clear hb C
    have EBB := hid ebb
    clear ebb
    clear c0 z0
    have c0 := bs2 X0
    have z0 := X0.1
    clear c1 z1
    have c1 := bs16 X1
    have z1 := X1.1
    go_wp2_with fail
    go_ret
    refine ⟨⟨_, rfl, ?_⟩, HLX.out⟩
    rw [EBB.out]
    clear X0 c0 z0 X1 c1 z1
    unfold LitP
    simp [hm, k1, k2, k3, k4, h1]

set_option maxHeartbeats 16000000 in
set_option maxRecDepth 100000 in
theorem tlit_1_5 (mv ns : Int) (kd tk ts : Int) (ty : ByteArray) (tl rl nu : Int) (xa : Option Addr) (xn xc : Nat) (na : Option Addr) (nn nc : Nat) (ok os : Int) (oy : ByteArray) (ol of : Int) (ky : ByteArray) (sl : Int) (tx : List ByteArray) (nm : List Int) (w : World) (hm : (mv == 2) = true) (k1 : (kd == 1) = false) (k2 : (kd == 2) = false) (k3 : (kd == 3) = false) (k4 : (kd == 4) = false) (k5 : (kd == 5) = true) (hs : ty.size ≤ maxLen) (ho : oy.size ≤ maxLen) (hy : ky.size ≤ maxLen) (hx : xn = tx.length) (hn : nn = nm.length) (rx : RdS w xa tx) (rn : RdI w na nm) (bx : xn ≤ 140737488355328) (bn : nn ≤ 140737488355328) (hz : ∀ k, (tx.getD k ByteArray.empty).size ≤ maxLen) : Calls Tryz.prog 56 #[.agg #[.int .i64 mv, .int .i64 ns], .agg #[.int .i64 kd, .int .i64 tk, .int .i64 ts, .string ty, .int .i64 tl, .int .i64 rl, .int .i64 nu, .slice xa xn xc, .slice na nn nc, .int .i64 ok, .int .i64 os, .string oy, .int .i64 ol, .int .i64 of, .string ky, .int .i64 sl]] w fun e w' => (∃ b, e = .returned (.bool b) ∧ (b = true ↔ LitP mv ns kd tk ts ty tl rl nu xa xn xc na nn nc ok os oy ol of ky sl tx nm)) ∧ Below w.heap.size w w' := by
  have HXN := hid hx
  have HNN := hid hn
  clear hx hn
  have HLX := hid (show Below w.heap.size w ((w.alloc (.cells #[.int .i64 mv, .int .i64 ns] 61)).alloc (.cells #[.int .i64 kd, .int .i64 tk, .int .i64 ts, .string ty, .int .i64 tl, .int .i64 rl, .int .i64 nu, .slice xa xn xc, .slice na nn nc, .int .i64 ok, .int .i64 os, .string oy, .int .i64 ol, .int .i64 of, .string ky, .int .i64 sl] 49)) from (((Below.refl _ w).alloc (by simp) _).alloc (by simp) _))
  have X0 : Bs ((w.alloc (.cells #[.int .i64 mv, .int .i64 ns] 61)).alloc (.cells #[.int .i64 kd, .int .i64 tk, .int .i64 ts, .string ty, .int .i64 tl, .int .i64 rl, .int .i64 nu, .slice xa xn xc, .slice na nn nc, .int .i64 ok, .int .i64 os, .string oy, .int .i64 ol, .int .i64 of, .string ky, .int .i64 sl] 49)) w.heap.size [.int .i64 mv, .int .i64 ns] := by simpa using bs_2_0 w _ _ _ _
  have X1 : Bs ((w.alloc (.cells #[.int .i64 mv, .int .i64 ns] 61)).alloc (.cells #[.int .i64 kd, .int .i64 tk, .int .i64 ts, .string ty, .int .i64 tl, .int .i64 rl, .int .i64 nu, .slice xa xn xc, .slice na nn nc, .int .i64 ok, .int .i64 os, .string oy, .int .i64 ol, .int .i64 of, .string ky, .int .i64 sl] 49)) (w.heap.size + 1) [.int .i64 kd, .int .i64 tk, .int .i64 ts, .string ty, .int .i64 tl, .int .i64 rl, .int .i64 nu, .slice xa xn xc, .slice na nn nc, .int .i64 ok, .int .i64 os, .string oy, .int .i64 ol, .int .i64 of, .string ky, .int .i64 sl] := by simpa using bs_2_1 w _ _ _ _
  go_enter Tryz.func56, Tryz.ntmps56
  go_upto_region 1 with (fail)
  generalize ((w.alloc (.cells #[.int .i64 mv, .int .i64 ns] 61)).alloc (.cells #[.int .i64 kd, .int .i64 tk, .int .i64 ts, .string ty, .int .i64 tl, .int .i64 rl, .int .i64 nu, .slice xa xn xc, .slice na nn nc, .int .i64 ok, .int .i64 os, .string oy, .int .i64 ol, .int .i64 of, .string ky, .int .i64 sl] 49)) = x0 at *
  have c0 := bs2 X0
  have z0 := X0.1
  have c1 := bs16 X1
  have z1 := X1.1
  have C := hid (tsought_any mv ns tk ts ty tl x0 hs)
  go_wp2_with fail
  refine C.out.mono ?_
  rintro e x1 ⟨rfl, hb⟩
  replace HLX := hid (HLX.out.trans (hb.mono HLX.out.size))
  replace X0 := X0.low hb
  replace X1 := X1.low hb
  clear hb C
  clear c0 z0
  have c0 := bs2 X0
  have z0 := X0.1
  clear c1 z1
  have c1 := bs16 X1
  have z1 := X1.1
  cases h1 : (tsB mv tk ts ty tl)
  · go_wp2_with fail
    go_ret
    refine ⟨⟨_, rfl, ?_⟩, HLX.out⟩
    clear X0 c0 z0 X1 c1 z1
    unfold LitP
    simp [hm, k1, k2, k3, k4, k5, h1]
  · have C := hid (same_any kd tk ts ty tl rl nu xa xn xc na nn nc ok os oy ol of ky sl kd tk ts ty tl 0 0 none 0 0 none 0 0 0 0 ByteArray.empty 0 0 ByteArray.empty 0 x1)
    go_wp2_with fail
    refine C.out.mono ?_
    rintro e x2 ⟨⟨bb, rfl, ebb⟩, hb⟩
    replace HLX := hid (HLX.out.trans (hb.mono HLX.out.size))
    replace X0 := X0.low hb
    replace X1 := X1.low hb
    clear hb C
    have EBB := hid ebb
    clear ebb
    clear c0 z0
    have c0 := bs2 X0
    have z0 := X0.1
    clear c1 z1
    have c1 := bs16 X1
    have z1 := X1.1
    go_wp2_with fail
    go_ret
    refine ⟨⟨_, rfl, ?_⟩, HLX.out⟩
    rw [EBB.out]
    clear X0 c0 z0 X1 c1 z1
    unfold LitP
    simp [hm, k1, k2, k3, k4, k5, h1]

set_option maxHeartbeats 16000000 in
set_option maxRecDepth 100000 in
theorem tlit_1_6 (mv ns : Int) (kd tk ts : Int) (ty : ByteArray) (tl rl nu : Int) (xa : Option Addr) (xn xc : Nat) (na : Option Addr) (nn nc : Nat) (ok os : Int) (oy : ByteArray) (ol of : Int) (ky : ByteArray) (sl : Int) (tx : List ByteArray) (nm : List Int) (w : World) (hm : (mv == 2) = true) (k1 : (kd == 1) = false) (k2 : (kd == 2) = false) (k3 : (kd == 3) = false) (k4 : (kd == 4) = false) (k5 : (kd == 5) = false) (k6 : (kd == 6) = true) (hs : ty.size ≤ maxLen) (ho : oy.size ≤ maxLen) (hy : ky.size ≤ maxLen) (hx : xn = tx.length) (hn : nn = nm.length) (rx : RdS w xa tx) (rn : RdI w na nm) (bx : xn ≤ 140737488355328) (bn : nn ≤ 140737488355328) (hz : ∀ k, (tx.getD k ByteArray.empty).size ≤ maxLen) : Calls Tryz.prog 56 #[.agg #[.int .i64 mv, .int .i64 ns], .agg #[.int .i64 kd, .int .i64 tk, .int .i64 ts, .string ty, .int .i64 tl, .int .i64 rl, .int .i64 nu, .slice xa xn xc, .slice na nn nc, .int .i64 ok, .int .i64 os, .string oy, .int .i64 ol, .int .i64 of, .string ky, .int .i64 sl]] w fun e w' => (∃ b, e = .returned (.bool b) ∧ (b = true ↔ LitP mv ns kd tk ts ty tl rl nu xa xn xc na nn nc ok os oy ol of ky sl tx nm)) ∧ Below w.heap.size w w' := by
  have HXN := hid hx
  have HNN := hid hn
  clear hx hn
  have HLX := hid (show Below w.heap.size w ((w.alloc (.cells #[.int .i64 mv, .int .i64 ns] 61)).alloc (.cells #[.int .i64 kd, .int .i64 tk, .int .i64 ts, .string ty, .int .i64 tl, .int .i64 rl, .int .i64 nu, .slice xa xn xc, .slice na nn nc, .int .i64 ok, .int .i64 os, .string oy, .int .i64 ol, .int .i64 of, .string ky, .int .i64 sl] 49)) from (((Below.refl _ w).alloc (by simp) _).alloc (by simp) _))
  have X0 : Bs ((w.alloc (.cells #[.int .i64 mv, .int .i64 ns] 61)).alloc (.cells #[.int .i64 kd, .int .i64 tk, .int .i64 ts, .string ty, .int .i64 tl, .int .i64 rl, .int .i64 nu, .slice xa xn xc, .slice na nn nc, .int .i64 ok, .int .i64 os, .string oy, .int .i64 ol, .int .i64 of, .string ky, .int .i64 sl] 49)) w.heap.size [.int .i64 mv, .int .i64 ns] := by simpa using bs_2_0 w _ _ _ _
  have X1 : Bs ((w.alloc (.cells #[.int .i64 mv, .int .i64 ns] 61)).alloc (.cells #[.int .i64 kd, .int .i64 tk, .int .i64 ts, .string ty, .int .i64 tl, .int .i64 rl, .int .i64 nu, .slice xa xn xc, .slice na nn nc, .int .i64 ok, .int .i64 os, .string oy, .int .i64 ol, .int .i64 of, .string ky, .int .i64 sl] 49)) (w.heap.size + 1) [.int .i64 kd, .int .i64 tk, .int .i64 ts, .string ty, .int .i64 tl, .int .i64 rl, .int .i64 nu, .slice xa xn xc, .slice na nn nc, .int .i64 ok, .int .i64 os, .string oy, .int .i64 ol, .int .i64 of, .string ky, .int .i64 sl] := by simpa using bs_2_1 w _ _ _ _
  go_enter Tryz.func56, Tryz.ntmps56
  go_upto_region 1 with (fail)
  generalize ((w.alloc (.cells #[.int .i64 mv, .int .i64 ns] 61)).alloc (.cells #[.int .i64 kd, .int .i64 tk, .int .i64 ts, .string ty, .int .i64 tl, .int .i64 rl, .int .i64 nu, .slice xa xn xc, .slice na nn nc, .int .i64 ok, .int .i64 os, .string oy, .int .i64 ol, .int .i64 of, .string ky, .int .i64 sl] 49)) = x0 at *
  have c0 := bs2 X0
  have z0 := X0.1
  have c1 := bs16 X1
  have z1 := X1.1
  have C := hid (short_any ky x0 hy)
  go_wp2_with fail
  refine C.out.mono ?_
  rintro e x1 ⟨rfl, hb⟩
  replace HLX := hid (HLX.out.trans (hb.mono HLX.out.size))
  replace X0 := X0.low hb
  replace X1 := X1.low hb
  clear hb C
  clear c0 z0
  have c0 := bs2 X0
  have z0 := X0.1
  clear c1 z1
  have c1 := bs16 X1
  have z1 := X1.1
  cases h1 : (!lgB ky)
  · go_wp2_with fail
    go_ret
    refine ⟨⟨_, rfl, ?_⟩, HLX.out⟩
    clear X0 c0 z0 X1 c1 z1
    unfold LitP
    simp [hm, k1, k2, k3, k4, k5, k6, h1]
  · have C := hid (same_any kd tk ts ty tl rl nu xa xn xc na nn nc ok os oy ol of ky sl kd 0 0 ByteArray.empty 0 0 0 none 0 0 none 0 0 0 0 ByteArray.empty 0 0 ky 0 x1)
    go_wp2_with fail
    refine C.out.mono ?_
    rintro e x2 ⟨⟨bb, rfl, ebb⟩, hb⟩
    replace HLX := hid (HLX.out.trans (hb.mono HLX.out.size))
    replace X0 := X0.low hb
    replace X1 := X1.low hb
    clear hb C
    have EBB := hid ebb
    clear ebb
    clear c0 z0
    have c0 := bs2 X0
    have z0 := X0.1
    clear c1 z1
    have c1 := bs16 X1
    have z1 := X1.1
    go_wp2_with fail
    go_ret
    refine ⟨⟨_, rfl, ?_⟩, HLX.out⟩
    rw [EBB.out]
    clear X0 c0 z0 X1 c1 z1
    unfold LitP
    simp [hm, k1, k2, k3, k4, k5, k6, h1]

set_option maxHeartbeats 16000000 in
set_option maxRecDepth 100000 in
theorem tlit_1_7 (mv ns : Int) (kd tk ts : Int) (ty : ByteArray) (tl rl nu : Int) (xa : Option Addr) (xn xc : Nat) (na : Option Addr) (nn nc : Nat) (ok os : Int) (oy : ByteArray) (ol of : Int) (ky : ByteArray) (sl : Int) (tx : List ByteArray) (nm : List Int) (w : World) (hm : (mv == 2) = true) (k1 : (kd == 1) = false) (k2 : (kd == 2) = false) (k3 : (kd == 3) = false) (k4 : (kd == 4) = false) (k5 : (kd == 5) = false) (k6 : (kd == 6) = false) (k7 : (kd == 7) = true) (hs : ty.size ≤ maxLen) (ho : oy.size ≤ maxLen) (hy : ky.size ≤ maxLen) (hx : xn = tx.length) (hn : nn = nm.length) (rx : RdS w xa tx) (rn : RdI w na nm) (bx : xn ≤ 140737488355328) (bn : nn ≤ 140737488355328) (hz : ∀ k, (tx.getD k ByteArray.empty).size ≤ maxLen) : Calls Tryz.prog 56 #[.agg #[.int .i64 mv, .int .i64 ns], .agg #[.int .i64 kd, .int .i64 tk, .int .i64 ts, .string ty, .int .i64 tl, .int .i64 rl, .int .i64 nu, .slice xa xn xc, .slice na nn nc, .int .i64 ok, .int .i64 os, .string oy, .int .i64 ol, .int .i64 of, .string ky, .int .i64 sl]] w fun e w' => (∃ b, e = .returned (.bool b) ∧ (b = true ↔ LitP mv ns kd tk ts ty tl rl nu xa xn xc na nn nc ok os oy ol of ky sl tx nm)) ∧ Below w.heap.size w w' := by
  have HXN := hid hx
  have HNN := hid hn
  clear hx hn
  have HLX := hid (show Below w.heap.size w ((w.alloc (.cells #[.int .i64 mv, .int .i64 ns] 61)).alloc (.cells #[.int .i64 kd, .int .i64 tk, .int .i64 ts, .string ty, .int .i64 tl, .int .i64 rl, .int .i64 nu, .slice xa xn xc, .slice na nn nc, .int .i64 ok, .int .i64 os, .string oy, .int .i64 ol, .int .i64 of, .string ky, .int .i64 sl] 49)) from (((Below.refl _ w).alloc (by simp) _).alloc (by simp) _))
  have X0 : Bs ((w.alloc (.cells #[.int .i64 mv, .int .i64 ns] 61)).alloc (.cells #[.int .i64 kd, .int .i64 tk, .int .i64 ts, .string ty, .int .i64 tl, .int .i64 rl, .int .i64 nu, .slice xa xn xc, .slice na nn nc, .int .i64 ok, .int .i64 os, .string oy, .int .i64 ol, .int .i64 of, .string ky, .int .i64 sl] 49)) w.heap.size [.int .i64 mv, .int .i64 ns] := by simpa using bs_2_0 w _ _ _ _
  have X1 : Bs ((w.alloc (.cells #[.int .i64 mv, .int .i64 ns] 61)).alloc (.cells #[.int .i64 kd, .int .i64 tk, .int .i64 ts, .string ty, .int .i64 tl, .int .i64 rl, .int .i64 nu, .slice xa xn xc, .slice na nn nc, .int .i64 ok, .int .i64 os, .string oy, .int .i64 ol, .int .i64 of, .string ky, .int .i64 sl] 49)) (w.heap.size + 1) [.int .i64 kd, .int .i64 tk, .int .i64 ts, .string ty, .int .i64 tl, .int .i64 rl, .int .i64 nu, .slice xa xn xc, .slice na nn nc, .int .i64 ok, .int .i64 os, .string oy, .int .i64 ol, .int .i64 of, .string ky, .int .i64 sl] := by simpa using bs_2_1 w _ _ _ _
  go_enter Tryz.func56, Tryz.ntmps56
  go_upto_region 1 with (fail)
  generalize ((w.alloc (.cells #[.int .i64 mv, .int .i64 ns] 61)).alloc (.cells #[.int .i64 kd, .int .i64 tk, .int .i64 ts, .string ty, .int .i64 tl, .int .i64 rl, .int .i64 nu, .slice xa xn xc, .slice na nn nc, .int .i64 ok, .int .i64 os, .string oy, .int .i64 ol, .int .i64 of, .string ky, .int .i64 sl] 49)) = x0 at *
  have c0 := bs2 X0
  have z0 := X0.1
  have c1 := bs16 X1
  have z1 := X1.1
  have C := hid (short_any ky x0 hy)
  go_wp2_with fail
  refine C.out.mono ?_
  rintro e x1 ⟨rfl, hb⟩
  replace HLX := hid (HLX.out.trans (hb.mono HLX.out.size))
  replace X0 := X0.low hb
  replace X1 := X1.low hb
  clear hb C
  clear c0 z0
  have c0 := bs2 X0
  have z0 := X0.1
  clear c1 z1
  have c1 := bs16 X1
  have z1 := X1.1
  cases h1 : (!lgB ky)
  · go_wp2_with fail
    go_ret
    refine ⟨⟨_, rfl, ?_⟩, HLX.out⟩
    clear X0 c0 z0 X1 c1 z1
    unfold LitP
    simp [hm, k1, k2, k3, k4, k5, k6, k7, h1]
  · have C := hid (has_any mv ns sl x1)
    go_wp2_with fail
    refine C.out.mono ?_
    rintro e x2 ⟨rfl, hb⟩
    replace HLX := hid (HLX.out.trans (hb.mono HLX.out.size))
    replace X0 := X0.low hb
    replace X1 := X1.low hb
    clear hb C
    clear c0 z0
    have c0 := bs2 X0
    have z0 := X0.1
    clear c1 z1
    have c1 := bs16 X1
    have z1 := X1.1
    cases h2 : (hsB ns sl)
    · go_wp2_with fail
      go_ret
      refine ⟨⟨_, rfl, ?_⟩, HLX.out⟩
      clear X0 c0 z0 X1 c1 z1
      unfold LitP
      simp [hm, k1, k2, k3, k4, k5, k6, k7, h1, h2]
    · have C := hid (same_any kd tk ts ty tl rl nu xa xn xc na nn nc ok os oy ol of ky sl kd 0 0 ByteArray.empty 0 0 0 none 0 0 none 0 0 0 0 ByteArray.empty 0 0 ky sl x2)
      go_wp2_with fail
      refine C.out.mono ?_
      rintro e x3 ⟨⟨bb, rfl, ebb⟩, hb⟩
      replace HLX := hid (HLX.out.trans (hb.mono HLX.out.size))
      replace X0 := X0.low hb
      replace X1 := X1.low hb
      clear hb C
      have EBB := hid ebb
      clear ebb
      clear c0 z0
      have c0 := bs2 X0
      have z0 := X0.1
      clear c1 z1
      have c1 := bs16 X1
      have z1 := X1.1
      go_wp2_with fail
      go_ret
      refine ⟨⟨_, rfl, ?_⟩, HLX.out⟩
      rw [EBB.out]
      clear X0 c0 z0 X1 c1 z1
      unfold LitP
      simp [hm, k1, k2, k3, k4, k5, k6, k7, h1, h2]

set_option maxHeartbeats 16000000 in
set_option maxRecDepth 100000 in
theorem tlit_1_8 (mv ns : Int) (kd tk ts : Int) (ty : ByteArray) (tl rl nu : Int) (xa : Option Addr) (xn xc : Nat) (na : Option Addr) (nn nc : Nat) (ok os : Int) (oy : ByteArray) (ol of : Int) (ky : ByteArray) (sl : Int) (tx : List ByteArray) (nm : List Int) (w : World) (hm : (mv == 2) = true) (k1 : (kd == 1) = false) (k2 : (kd == 2) = false) (k3 : (kd == 3) = false) (k4 : (kd == 4) = false) (k5 : (kd == 5) = false) (k6 : (kd == 6) = false) (k7 : (kd == 7) = false) (hs : ty.size ≤ maxLen) (ho : oy.size ≤ maxLen) (hy : ky.size ≤ maxLen) (hx : xn = tx.length) (hn : nn = nm.length) (rx : RdS w xa tx) (rn : RdI w na nm) (bx : xn ≤ 140737488355328) (bn : nn ≤ 140737488355328) (hz : ∀ k, (tx.getD k ByteArray.empty).size ≤ maxLen) : Calls Tryz.prog 56 #[.agg #[.int .i64 mv, .int .i64 ns], .agg #[.int .i64 kd, .int .i64 tk, .int .i64 ts, .string ty, .int .i64 tl, .int .i64 rl, .int .i64 nu, .slice xa xn xc, .slice na nn nc, .int .i64 ok, .int .i64 os, .string oy, .int .i64 ol, .int .i64 of, .string ky, .int .i64 sl]] w fun e w' => (∃ b, e = .returned (.bool b) ∧ (b = true ↔ LitP mv ns kd tk ts ty tl rl nu xa xn xc na nn nc ok os oy ol of ky sl tx nm)) ∧ Below w.heap.size w w' := by
  have HXN := hid hx
  have HNN := hid hn
  clear hx hn
  have HLX := hid (show Below w.heap.size w ((w.alloc (.cells #[.int .i64 mv, .int .i64 ns] 61)).alloc (.cells #[.int .i64 kd, .int .i64 tk, .int .i64 ts, .string ty, .int .i64 tl, .int .i64 rl, .int .i64 nu, .slice xa xn xc, .slice na nn nc, .int .i64 ok, .int .i64 os, .string oy, .int .i64 ol, .int .i64 of, .string ky, .int .i64 sl] 49)) from (((Below.refl _ w).alloc (by simp) _).alloc (by simp) _))
  have X0 : Bs ((w.alloc (.cells #[.int .i64 mv, .int .i64 ns] 61)).alloc (.cells #[.int .i64 kd, .int .i64 tk, .int .i64 ts, .string ty, .int .i64 tl, .int .i64 rl, .int .i64 nu, .slice xa xn xc, .slice na nn nc, .int .i64 ok, .int .i64 os, .string oy, .int .i64 ol, .int .i64 of, .string ky, .int .i64 sl] 49)) w.heap.size [.int .i64 mv, .int .i64 ns] := by simpa using bs_2_0 w _ _ _ _
  have X1 : Bs ((w.alloc (.cells #[.int .i64 mv, .int .i64 ns] 61)).alloc (.cells #[.int .i64 kd, .int .i64 tk, .int .i64 ts, .string ty, .int .i64 tl, .int .i64 rl, .int .i64 nu, .slice xa xn xc, .slice na nn nc, .int .i64 ok, .int .i64 os, .string oy, .int .i64 ol, .int .i64 of, .string ky, .int .i64 sl] 49)) (w.heap.size + 1) [.int .i64 kd, .int .i64 tk, .int .i64 ts, .string ty, .int .i64 tl, .int .i64 rl, .int .i64 nu, .slice xa xn xc, .slice na nn nc, .int .i64 ok, .int .i64 os, .string oy, .int .i64 ol, .int .i64 of, .string ky, .int .i64 sl] := by simpa using bs_2_1 w _ _ _ _
  go_enter Tryz.func56, Tryz.ntmps56
  go_upto_region 1 with (fail)
  generalize ((w.alloc (.cells #[.int .i64 mv, .int .i64 ns] 61)).alloc (.cells #[.int .i64 kd, .int .i64 tk, .int .i64 ts, .string ty, .int .i64 tl, .int .i64 rl, .int .i64 nu, .slice xa xn xc, .slice na nn nc, .int .i64 ok, .int .i64 os, .string oy, .int .i64 ol, .int .i64 of, .string ky, .int .i64 sl] 49)) = x0 at *
  have c0 := bs2 X0
  have z0 := X0.1
  have c1 := bs16 X1
  have z1 := X1.1
  go_wp2_with fail
  go_ret
  refine ⟨⟨_, rfl, ?_⟩, HLX.out⟩
  clear X0 c0 z0 X1 c1 z1
  unfold LitP
  simp [hm, k1, k2, k3, k4, k5, k6, k7]
end Go.Proofs.YtimmjikpcekffaaGreatDoor.L
