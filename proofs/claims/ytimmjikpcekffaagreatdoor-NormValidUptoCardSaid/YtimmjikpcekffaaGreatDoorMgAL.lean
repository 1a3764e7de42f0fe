import Derived.Test.YtimmjikpcekffaaGreatDoorMgAK
import Derived.Test.YtimmjikpcekffaaGreatDoorMgAF
namespace Go.Proofs.YtimmjikpcekffaaGreatDoor.L
open Go.RowKit
set_option linter.unusedVariables false
set_option linter.unusedSimpArgs false
theorem rlit_1_4 (ns : Int) (kd tk ts : Int) (ty : ByteArray) (tl rl nu : Int) (xa : Option Addr) (xn xc : Nat) (na : Option Addr) (nn nc : Nat) (ok os : Int) (oy : ByteArray) (ol of : Int) (ky : ByteArray) (sl : Int) (tx : List ByteArray) (nm : List Int) (w : World) (k0 : decide ((127 : Int) < (ky.size : Int)) = false) (k1 : (kd == 1) = false) (k2 : (kd == 2) = false) (k3 : (kd == 3) = false) (k4 : (kd == 4) = true) (k5 : (kd == 5) = false) (k6 : (kd == 6) = false) (k7 : (kd == 7) = false) (hs : ty.size ≤ maxLen) (ho : oy.size ≤ maxLen) (hy : ky.size ≤ maxLen) (hx : xn = tx.length) (hn : nn = nm.length) (rx : RdS w xa tx) (rn : RdI w na nm) (bx : xn ≤ 140737488355328) (bn : nn ≤ 140737488355328) (hz : ∀ k, (tx.getD k ByteArray.empty).size ≤ maxLen) : Calls Tryz.prog 30 #[.agg #[.int .i64 kd, .int .i64 tk, .int .i64 ts, .string ty, .int .i64 tl, .int .i64 rl, .int .i64 nu, .slice xa xn xc, .slice na nn nc, .int .i64 ok, .int .i64 os, .string oy, .int .i64 ol, .int .i64 of, .string ky, .int .i64 sl], .bool true, .int .i64 ns] w fun e w' => (∃ b, e = .returned (.bool b) ∧ (b = true ↔ RLitP true ns kd tk ts ty tl rl nu xa xn xc na nn nc ok os oy ol of ky sl tx nm)) ∧ Below w.heap.size w w' := by
  cases q1 : (tk == 1)
  · cases q2 : (of == 1)
    · exact rlit_1_4_00 ns kd tk ts ty tl rl nu xa xn xc na nn nc ok os oy ol of ky sl tx nm w k0 k1 k2 k3 k4 k5 k6 k7 q1 (by simp at q1; simp [q1]) q2 hs ho hy hx hn rx rn bx bn hz
    · exact rlit_1_4_01 ns kd tk ts ty tl rl nu xa xn xc na nn nc ok os oy ol of ky sl tx nm w k0 k1 k2 k3 k4 k5 k6 k7 q1 (by simp at q1; simp [q1]) q2 hs ho hy hx hn rx rn bx bn hz
  · cases q2 : (of == 1)
    · exact rlit_1_4_10 ns kd tk ts ty tl rl nu xa xn xc na nn nc ok os oy ol of ky sl tx nm w k0 k1 k2 k3 k4 k5 k6 k7 q1 (by simp at q1; simp [q1]) q2 hs ho hy hx hn rx rn bx bn hz
    · exact rlit_1_4_11 ns kd tk ts ty tl rl nu xa xn xc na nn nc ok os oy ol of ky sl tx nm w k0 k1 k2 k3 k4 k5 k6 k7 q1 (by simp at q1; simp [q1]) q2 hs ho hy hx hn rx rn bx bn hz
end Go.Proofs.YtimmjikpcekffaaGreatDoor.L
namespace Go.Proofs.YtimmjikpcekffaaGreatDoor.L
open Go.RowKit
set_option linter.unusedVariables false
set_option linter.unusedSimpArgs false
set_option maxHeartbeats 16000000 in
set_option maxRecDepth 100000 in
theorem rlit_1_5 (ns : Int) (kd tk ts : Int) (ty : ByteArray) (tl rl nu : Int) (xa : Option Addr) (xn xc : Nat) (na : Option Addr) (nn nc : Nat) (ok os : Int) (oy : ByteArray) (ol of : Int) (ky : ByteArray) (sl : Int) (tx : List ByteArray) (nm : List Int) (w : World) (k0 : decide ((127 : Int) < (ky.size : Int)) = false) (k1 : (kd == 1) = false) (k2 : (kd == 2) = false) (k3 : (kd == 3) = false) (k4 : (kd == 4) = false) (k5 : (kd == 5) = true) (k6 : (kd == 6) = false) (k7 : (kd == 7) = false) (hs : ty.size ≤ maxLen) (ho : oy.size ≤ maxLen) (hy : ky.size ≤ maxLen) (hx : xn = tx.length) (hn : nn = nm.length) (rx : RdS w xa tx) (rn : RdI w na nm) (bx : xn ≤ 140737488355328) (bn : nn ≤ 140737488355328) (hz : ∀ k, (tx.getD k ByteArray.empty).size ≤ maxLen) : Calls Tryz.prog 30 #[.agg #[.int .i64 kd, .int .i64 tk, .int .i64 ts, .string ty, .int .i64 tl, .int .i64 rl, .int .i64 nu, .slice xa xn xc, .slice na nn nc, .int .i64 ok, .int .i64 os, .string oy, .int .i64 ol, .int .i64 of, .string ky, .int .i64 sl], .bool true, .int .i64 ns] w fun e w' => (∃ b, e = .returned (.bool b) ∧ (b = true ↔ RLitP true ns kd tk ts ty tl rl nu xa xn xc na nn nc ok os oy ol of ky sl tx nm)) ∧ Below w.heap.size w w' := by
  have HXN := hid hx
  have HNN := hid hn
  unfold maxLen at hy
  clear hx hn
  have HLX := hid (show Below w.heap.size w (w.alloc (.cells #[.int .i64 kd, .int .i64 tk, .int .i64 ts, .string ty, .int .i64 tl, .int .i64 rl, .int .i64 nu, .slice xa xn xc, .slice na nn nc, .int .i64 ok, .int .i64 os, .string oy, .int .i64 ol, .int .i64 of, .string ky, .int .i64 sl] 49)) from ((Below.refl _ w).alloc (by simp) _))
  have X0 : Bs (w.alloc (.cells #[.int .i64 kd, .int .i64 tk, .int .i64 ts, .string ty, .int .i64 tl, .int .i64 rl, .int .i64 nu, .slice xa xn xc, .slice na nn nc, .int .i64 ok, .int .i64 os, .string oy, .int .i64 ol, .int .i64 of, .string ky, .int .i64 sl] 49)) w.heap.size [.int .i64 kd, .int .i64 tk, .int .i64 ts, .string ty, .int .i64 tl, .int .i64 rl, .int .i64 nu, .slice xa xn xc, .slice na nn nc, .int .i64 ok, .int .i64 os, .string oy, .int .i64 ol, .int .i64 of, .string ky, .int .i64 sl] := by simpa using bs_1_0 w _ _
  go_enter Tryz.func30, Tryz.ntmps30
  go_upto_region 1 with (fail)
  generalize (w.alloc (.cells #[.int .i64 kd, .int .i64 tk, .int .i64 ts, .string ty, .int .i64 tl, .int .i64 rl, .int .i64 nu, .slice xa xn xc, .slice na nn nc, .int .i64 ok, .int .i64 os, .string oy, .int .i64 ol, .int .i64 of, .string ky, .int .i64 sl] 49)) = x0 at *
  have c0 := bs16 X0
  have z0 := X0.1
  have C := hid (rterm_any tk ts ty tl ns true x0 hs)
  go_wp2_with fail
  refine C.out.mono ?_
  rintro e x1 ⟨rfl, hb⟩
  replace HLX := hid (HLX.out.trans (hb.mono HLX.out.size))
  replace X0 := X0.low hb
  clear hb C
  clear c0 z0
  have c0 := bs16 X0
  have z0 := X0.1
  cases h1 : (rteB true ns tk ts ty tl)
  · go_wp2_with fail
    go_ret
    refine ⟨⟨_, rfl, ?_⟩, HLX.out⟩
    clear X0 c0 z0
    unfold RLitP
    simp [k0, k1, k2, k3, k4, k5, k6, k7, h1]
  · go_wp2_with fail
    go_ret
    refine ⟨⟨_, rfl, ?_⟩, HLX.out⟩
    clear X0 c0 z0
    unfold RLitP
    simp [k0, k1, k2, k3, k4, k5, k6, k7, h1]
end Go.Proofs.YtimmjikpcekffaaGreatDoor.L
namespace Go.Proofs.YtimmjikpcekffaaGreatDoor.L
open Go.RowKit
set_option linter.unusedVariables false
set_option linter.unusedSimpArgs false
set_option maxHeartbeats 16000000 in
set_option maxRecDepth 100000 in
theorem rlit_1_6 (ns : Int) (kd tk ts : Int) (ty : ByteArray) (tl rl nu : Int) (xa : Option Addr) (xn xc : Nat) (na : Option Addr) (nn nc : Nat) (ok os : Int) (oy : ByteArray) (ol of : Int) (ky : ByteArray) (sl : Int) (tx : List ByteArray) (nm : List Int) (w : World) (k0 : decide ((127 : Int) < (ky.size : Int)) = false) (k1 : (kd == 1) = false) (k2 : (kd == 2) = false) (k3 : (kd == 3) = false) (k4 : (kd == 4) = false) (k5 : (kd == 5) = false) (k6 : (kd == 6) = true) (k7 : (kd == 7) = false) (hs : ty.size ≤ maxLen) (ho : oy.size ≤ maxLen) (hy : ky.size ≤ maxLen) (hx : xn = tx.length) (hn : nn = nm.length) (rx : RdS w xa tx) (rn : RdI w na nm) (bx : xn ≤ 140737488355328) (bn : nn ≤ 140737488355328) (hz : ∀ k, (tx.getD k ByteArray.empty).size ≤ maxLen) : Calls Tryz.prog 30 #[.agg #[.int .i64 kd, .int .i64 tk, .int .i64 ts, .string ty, .int .i64 tl, .int .i64 rl, .int .i64 nu, .slice xa xn xc, .slice na nn nc, .int .i64 ok, .int .i64 os, .string oy, .int .i64 ol, .int .i64 of, .string ky, .int .i64 sl], .bool true, .int .i64 ns] w fun e w' => (∃ b, e = .returned (.bool b) ∧ (b = true ↔ RLitP true ns kd tk ts ty tl rl nu xa xn xc na nn nc ok os oy ol of ky sl tx nm)) ∧ Below w.heap.size w w' := by
  have HXN := hid hx
  have HNN := hid hn
  unfold maxLen at hy
  clear hx hn
  have HLX := hid (show Below w.heap.size w (w.alloc (.cells #[.int .i64 kd, .int .i64 tk, .int .i64 ts, .string ty, .int .i64 tl, .int .i64 rl, .int .i64 nu, .slice xa xn xc, .slice na nn nc, .int .i64 ok, .int .i64 os, .string oy, .int .i64 ol, .int .i64 of, .string ky, .int .i64 sl] 49)) from ((Below.refl _ w).alloc (by simp) _))
  have X0 : Bs (w.alloc (.cells #[.int .i64 kd, .int .i64 tk, .int .i64 ts, .string ty, .int .i64 tl, .int .i64 rl, .int .i64 nu, .slice xa xn xc, .slice na nn nc, .int .i64 ok, .int .i64 os, .string oy, .int .i64 ol, .int .i64 of, .string ky, .int .i64 sl] 49)) w.heap.size [.int .i64 kd, .int .i64 tk, .int .i64 ts, .string ty, .int .i64 tl, .int .i64 rl, .int .i64 nu, .slice xa xn xc, .slice na nn nc, .int .i64 ok, .int .i64 os, .string oy, .int .i64 ol, .int .i64 of, .string ky, .int .i64 sl] := by simpa using bs_1_0 w _ _
  go_enter Tryz.func30, Tryz.ntmps30
  go_upto_region 1 with (fail)
  generalize (w.alloc (.cells #[.int .i64 kd, .int .i64 tk, .int .i64 ts, .string ty, .int .i64 tl, .int .i64 rl, .int .i64 nu, .slice xa xn xc, .slice na nn nc, .int .i64 ok, .int .i64 os, .string oy, .int .i64 ol, .int .i64 of, .string ky, .int .i64 sl] 49)) = x0 at *
  have c0 := bs16 X0
  have z0 := X0.1
  go_wp2_with fail
  go_ret
  refine ⟨⟨_, rfl, ?_⟩, HLX.out⟩
  clear X0 c0 z0
  unfold RLitP
  simp [k0, k1, k2, k3, k4, k5, k6, k7]
end Go.Proofs.YtimmjikpcekffaaGreatDoor.L
namespace Go.Proofs.YtimmjikpcekffaaGreatDoor.L
open Go.RowKit
set_option linter.unusedVariables false
set_option linter.unusedSimpArgs false
set_option maxHeartbeats 16000000 in
set_option maxRecDepth 100000 in
theorem rlit_1_7 (ns : Int) (kd tk ts : Int) (ty : ByteArray) (tl rl nu : Int) (xa : Option Addr) (xn xc : Nat) (na : Option Addr) (nn nc : Nat) (ok os : Int) (oy : ByteArray) (ol of : Int) (ky : ByteArray) (sl : Int) (tx : List ByteArray) (nm : List Int) (w : World) (k0 : decide ((127 : Int) < (ky.size : Int)) = false) (k1 : (kd == 1) = false) (k2 : (kd == 2) = false) (k3 : (kd == 3) = false) (k4 : (kd == 4) = false) (k5 : (kd == 5) = false) (k6 : (kd == 6) = false) (k7 : (kd == 7) = true) (hs : ty.size ≤ maxLen) (ho : oy.size ≤ maxLen) (hy : ky.size ≤ maxLen) (hx : xn = tx.length) (hn : nn = nm.length) (rx : RdS w xa tx) (rn : RdI w na nm) (bx : xn ≤ 140737488355328) (bn : nn ≤ 140737488355328) (hz : ∀ k, (tx.getD k ByteArray.empty).size ≤ maxLen) : Calls Tryz.prog 30 #[.agg #[.int .i64 kd, .int .i64 tk, .int .i64 ts, .string ty, .int .i64 tl, .int .i64 rl, .int .i64 nu, .slice xa xn xc, .slice na nn nc, .int .i64 ok, .int .i64 os, .string oy, .int .i64 ol, .int .i64 of, .string ky, .int .i64 sl], .bool true, .int .i64 ns] w fun e w' => (∃ b, e = .returned (.bool b) ∧ (b = true ↔ RLitP true ns kd tk ts ty tl rl nu xa xn xc na nn nc ok os oy ol of ky sl tx nm)) ∧ Below w.heap.size w w' := by
  have HXN := hid hx
  have HNN := hid hn
  unfold maxLen at hy
  clear hx hn
  have HLX := hid (show Below w.heap.size w (w.alloc (.cells #[.int .i64 kd, .int .i64 tk, .int .i64 ts, .string ty, .int .i64 tl, .int .i64 rl, .int .i64 nu, .slice xa xn xc, .slice na nn nc, .int .i64 ok, .int .i64 os, .string oy, .int .i64 ol, .int .i64 of, .string ky, .int .i64 sl] 49)) from ((Below.refl _ w).alloc (by simp) _))
  have X0 : Bs (w.alloc (.cells #[.int .i64 kd, .int .i64 tk, .int .i64 ts, .string ty, .int .i64 tl, .int .i64 rl, .int .i64 nu, .slice xa xn xc, .slice na nn nc, .int .i64 ok, .int .i64 os, .string oy, .int .i64 ol, .int .i64 of, .string ky, .int .i64 sl] 49)) w.heap.size [.int .i64 kd, .int .i64 tk, .int .i64 ts, .string ty, .int .i64 tl, .int .i64 rl, .int .i64 nu, .slice xa xn xc, .slice na nn nc, .int .i64 ok, .int .i64 os, .string oy, .int .i64 ol, .int .i64 of, .string ky, .int .i64 sl] := by simpa using bs_1_0 w _ _
  go_enter Tryz.func30, Tryz.ntmps30
  go_upto_region 1 with (fail)
  generalize (w.alloc (.cells #[.int .i64 kd, .int .i64 tk, .int .i64 ts, .string ty, .int .i64 tl, .int .i64 rl, .int .i64 nu, .slice xa xn xc, .slice na nn nc, .int .i64 ok, .int .i64 os, .string oy, .int .i64 ol, .int .i64 of, .string ky, .int .i64 sl] 49)) = x0 at *
  have c0 := bs16 X0
  have z0 := X0.1
  go_wp2_with fail
  go_ret
  refine ⟨⟨_, rfl, ?_⟩, HLX.out⟩
  clear X0 c0 z0
  unfold RLitP
  simp [k0, k1, k2, k3, k4, k5, k6, k7]
end Go.Proofs.YtimmjikpcekffaaGreatDoor.L
namespace Go.Proofs.YtimmjikpcekffaaGreatDoor.L
open Go.RowKit
set_option linter.unusedVariables false
set_option linter.unusedSimpArgs false
set_option maxHeartbeats 16000000 in
set_option maxRecDepth 100000 in
theorem rlit_1_8 (ns : Int) (kd tk ts : Int) (ty : ByteArray) (tl rl nu : Int) (xa : Option Addr) (xn xc : Nat) (na : Option Addr) (nn nc : Nat) (ok os : Int) (oy : ByteArray) (ol of : Int) (ky : ByteArray) (sl : Int) (tx : List ByteArray) (nm : List Int) (w : World) (k0 : decide ((127 : Int) < (ky.size : Int)) = false) (k1 : (kd == 1) = false) (k2 : (kd == 2) = false) (k3 : (kd == 3) = false) (k4 : (kd == 4) = false) (k5 : (kd == 5) = false) (k6 : (kd == 6) = false) (k7 : (kd == 7) = false) (hs : ty.size ≤ maxLen) (ho : oy.size ≤ maxLen) (hy : ky.size ≤ maxLen) (hx : xn = tx.length) (hn : nn = nm.length) (rx : RdS w xa tx) (rn : RdI w na nm) (bx : xn ≤ 140737488355328) (bn : nn ≤ 140737488355328) (hz : ∀ k, (tx.getD k ByteArray.empty).size ≤ maxLen) : Calls Tryz.prog 30 #[.agg #[.int .i64 kd, .int .i64 tk, .int .i64 ts, .string ty, .int .i64 tl, .int .i64 rl, .int .i64 nu, .slice xa xn xc, .slice na nn nc, .int .i64 ok, .int .i64 os, .string oy, .int .i64 ol, .int .i64 of, .string ky, .int .i64 sl], .bool true, .int .i64 ns] w fun e w' => (∃ b, e = .returned (.bool b) ∧ (b = true ↔ RLitP true ns kd tk ts ty tl rl nu xa xn xc na nn nc ok os oy ol of ky sl tx nm)) ∧ Below w.heap.size w w' := by
  have HXN := hid hx
  have HNN := hid hn
  unfold maxLen at hy
  clear hx hn
  have HLX := hid (show Below w.heap.size w (w.alloc (.cells #[.int .i64 kd, .int .i64 tk, .int .i64 ts, .string ty, .int .i64 tl, .int .i64 rl, .int .i64 nu, .slice xa xn xc, .slice na nn nc, .int .i64 ok, .int .i64 os, .string oy, .int .i64 ol, .int .i64 of, .string ky, .int .i64 sl] 49)) from ((Below.refl _ w).alloc (by simp) _))
  have X0 : Bs (w.alloc (.cells #[.int .i64 kd, .int .i64 tk, .int .i64 ts, .string ty, .int .i64 tl, .int .i64 rl, .int .i64 nu, .slice xa xn xc, .slice na nn nc, .int .i64 ok, .int .i64 os, .string oy, .int .i64 ol, .int .i64 of, .string ky, .int .i64 sl] 49)) w.heap.size [.int .i64 kd, .int .i64 tk, .int .i64 ts, .string ty, .int .i64 tl, .int .i64 rl, .int .i64 nu, .slice xa xn xc, .slice na nn nc, .int .i64 ok, .int .i64 os, .string oy, .int .i64 ol, .int .i64 of, .string ky, .int .i64 sl] := by simpa using bs_1_0 w _ _
  go_enter Tryz.func30, Tryz.ntmps30
  go_upto_region 1 with (fail)
  generalize (w.alloc (.cells #[.int .i64 kd, .int .i64 tk, .int .i64 ts, .string ty, .int .i64 tl, .int .i64 rl, .int .i64 nu, .slice xa xn xc, .slice na nn nc, .int .i64 ok, .int .i64 os, .string oy, .int .i64 ol, .int .i64 of, .string ky, .int .i64 sl] 49)) = x0 at *
  have c0 := bs16 X0
  have z0 := X0.1
  have C := hid (rterm_any tk ts ty tl ns true x0 hs)
  go_wp2_with fail
  refine C.out.mono ?_
  rintro e x1 ⟨rfl, hb⟩
  replace HLX := hid (HLX.out.trans (hb.mono HLX.out.size))
  replace X0 := X0.low hb
  clear hb C
  clear c0 z0
  have c0 := bs16 X0
  have z0 := X0.1
  cases h1 : (rteB true ns tk ts ty tl)
  · go_wp2_with fail
    go_ret
    refine ⟨⟨_, rfl, ?_⟩, HLX.out⟩
    clear X0 c0 z0
    unfold RLitP
    simp [k0, k1, k2, k3, k4, k5, k6, k7, h1]
  · go_wp2_with fail
    go_ret
    refine ⟨⟨_, rfl, ?_⟩, HLX.out⟩
    clear X0 c0 z0
    unfold RLitP
    simp [k0, k1, k2, k3, k4, k5, k6, k7, h1]
end Go.Proofs.YtimmjikpcekffaaGreatDoor.L
