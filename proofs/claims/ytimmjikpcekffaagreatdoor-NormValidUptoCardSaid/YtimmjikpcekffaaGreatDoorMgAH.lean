import Derived.Test.YtimmjikpcekffaaGreatDoorMgAF
namespace Go.Proofs.YtimmjikpcekffaaGreatDoor.L
open Go.RowKit
set_option linter.unusedVariables false
set_option linter.unusedSimpArgs false
set_option maxHeartbeats 16000000 in
set_option maxRecDepth 100000 in
theorem rlit_0_0 (ns : Int) (kd tk ts : Int) (ty : ByteArray) (tl rl nu : Int) (xa : Option Addr) (xn xc : Nat) (na : Option Addr) (nn nc : Nat) (ok os : Int) (oy : ByteArray) (ol of : Int) (ky : ByteArray) (sl : Int) (tx : List ByteArray) (nm : List Int) (w : World) (k0 : decide ((127 : Int) < (ky.size : Int)) = true) (hs : ty.size ≤ maxLen) (ho : oy.size ≤ maxLen) (hy : ky.size ≤ maxLen) (hx : xn = tx.length) (hn : nn = nm.length) (rx : RdS w xa tx) (rn : RdI w na nm) (bx : xn ≤ 140737488355328) (bn : nn ≤ 140737488355328) (hz : ∀ k, (tx.getD k ByteArray.empty).size ≤ maxLen) : Calls Tryz.prog 30 #[.agg #[.int .i64 kd, .int .i64 tk, .int .i64 ts, .string ty, .int .i64 tl, .int .i64 rl, .int .i64 nu, .slice xa xn xc, .slice na nn nc, .int .i64 ok, .int .i64 os, .string oy, .int .i64 ol, .int .i64 of, .string ky, .int .i64 sl], .bool false, .int .i64 ns] w fun e w' => (∃ b, e = .returned (.bool b) ∧ (b = true ↔ RLitP false ns kd tk ts ty tl rl nu xa xn xc na nn nc ok os oy ol of ky sl tx nm)) ∧ Below w.heap.size w w' := by
  have HXN := hid hx
  have HNN := hid hn
  unfold maxLen at hy
  clear hx hn
  have HLX := hid (show Below w.heap.size w (w.alloc (.cells #[.int .i64 kd, .int .i64 tk, .int .i64 ts, .string ty, .int .i64 tl, .int .i64 rl, .int .i64 nu, .slice xa xn xc, .slice na nn nc, .int .i64 ok, .int .i64 os, .string oy, .int .i64 ol, .int .i64 of, .string ky, .int .i64 sl] 49)) from ((Below.refl _ w).alloc (by simp) _))
  have X0 : Bs (w.alloc (.cells #[.int .i64 kd, .int .i64 tk, .int .i64 ts, .string ty, .int .i64 tl, .int .i64 rl, .int .i64 nu, .slice xa xn xc, .slice na nn nc, .int .i64 ok, .int .i64 os, .string oy, .int .i64 ol, .int .i64 of, .string ky, .int .i64 sl] 49)) w.heap.size [.int .i64 kd, .int .i64 tk, .int .i64 ts, .string ty, .int .i64 tl, .int .i64 rl, .int .i64 nu, .slice xa xn xc, .slice na nn nc, .int .i64 ok, .int .i64 os, .string oy, .int .i64 ol, .int .i64 of, .string ky, .int .i64 sl] := by simpa using bs_1_0 w _ _
  go_enter Tryz.func30, Tryz.ntmps30
  go_upto_region 1 with (fail)
  generalize (w.alloc (.cells #[.int .i64 kd, .int .i64 tk, .int .i64 ts, .string ty, .int .i64 tl, .int .i64 rl, .int .i64 nu, .slice xa xn xc, .slice na nn nc, .int .i64 ok, .int .i64 os, .string oy, .int .i64 ol, .int .i64 of, .string ky, .int .i64 sl] 49)) = x0 at *
  have c0 := bs16 X0
  have z0 := X0.1
  go_wp2_with fail
  go_ret
  refine ⟨⟨_, rfl, ?_⟩, HLX.out⟩
  clear X0 c0 z0
  unfold RLitP
  simp [k0]
end Go.Proofs.YtimmjikpcekffaaGreatDoor.L
namespace Go.Proofs.YtimmjikpcekffaaGreatDoor.L
open Go.RowKit
set_option linter.unusedVariables false
set_option linter.unusedSimpArgs false
set_option maxHeartbeats 16000000 in
set_option maxRecDepth 100000 in
theorem rlit_0_1 (ns : Int) (kd tk ts : Int) (ty : ByteArray) (tl rl nu : Int) (xa : Option Addr) (xn xc : Nat) (na : Option Addr) (nn nc : Nat) (ok os : Int) (oy : ByteArray) (ol of : Int) (ky : ByteArray) (sl : Int) (tx : List ByteArray) (nm : List Int) (w : World) (k0 : decide ((127 : Int) < (ky.size : Int)) = false) (k1 : (kd == 1) = true) (k2 : (kd == 2) = false) (k3 : (kd == 3) = false) (k4 : (kd == 4) = false) (k5 : (kd == 5) = false) (k6 : (kd == 6) = false) (k7 : (kd == 7) = false) (hs : ty.size ≤ maxLen) (ho : oy.size ≤ maxLen) (hy : ky.size ≤ maxLen) (hx : xn = tx.length) (hn : nn = nm.length) (rx : RdS w xa tx) (rn : RdI w na nm) (bx : xn ≤ 140737488355328) (bn : nn ≤ 140737488355328) (hz : ∀ k, (tx.getD k ByteArray.empty).size ≤ maxLen) : Calls Tryz.prog 30 #[.agg #[.int .i64 kd, .int .i64 tk, .int .i64 ts, .string ty, .int .i64 tl, .int .i64 rl, .int .i64 nu, .slice xa xn xc, .slice na nn nc, .int .i64 ok, .int .i64 os, .string oy, .int .i64 ol, .int .i64 of, .string ky, .int .i64 sl], .bool false, .int .i64 ns] w fun e w' => (∃ b, e = .returned (.bool b) ∧ (b = true ↔ RLitP false ns kd tk ts ty tl rl nu xa xn xc na nn nc ok os oy ol of ky sl tx nm)) ∧ Below w.heap.size w w' := by
  have HXN := hid hx
  have HNN := hid hn
  unfold maxLen at hy
  clear hx hn
  have HLX := hid (show Below w.heap.size w (w.alloc (.cells #[.int .i64 kd, .int .i64 tk, .int .i64 ts, .string ty, .int .i64 tl, .int .i64 rl, .int .i64 nu, .slice xa xn xc, .slice na nn nc, .int .i64 ok, .int .i64 os, .string oy, .int .i64 ol, .int .i64 of, .string ky, .int .i64 sl] 49)) from ((Below.refl _ w).alloc (by simp) _))
  have X0 : Bs (w.alloc (.cells #[.int .i64 kd, .int .i64 tk, .int .i64 ts, .string ty, .int .i64 tl, .int .i64 rl, .int .i64 nu, .slice xa xn xc, .slice na nn nc, .int .i64 ok, .int .i64 os, .string oy, .int .i64 ol, .int .i64 of, .string ky, .int .i64 sl] 49)) w.heap.size [.int .i64 kd, .int .i64 tk, .int .i64 ts, .string ty, .int .i64 tl, .int .i64 rl, .int .i64 nu, .slice xa xn xc, .slice na nn nc, .int .i64 ok, .int .i64 os, .string oy, .int .i64 ol, .int .i64 of, .string ky, .int .i64 sl] := by simpa using bs_1_0 w _ _
  go_enter Tryz.func30, Tryz.ntmps30
  go_upto_region 1 with (fail)
  generalize (w.alloc (.cells #[.int .i64 kd, .int .i64 tk, .int .i64 ts, .string ty, .int .i64 tl, .int .i64 rl, .int .i64 nu, .slice xa xn xc, .slice na nn nc, .int .i64 ok, .int .i64 os, .string oy, .int .i64 ol, .int .i64 of, .string ky, .int .i64 sl] 49)) = x0 at *
  have c0 := bs16 X0
  have z0 := X0.1
  have C := hid (rterm_any tk ts ty tl ns false x0 hs)
  go_wp2_with fail
  refine C.out.mono ?_
  rintro e x1 ⟨rfl, hb⟩
  replace HLX := hid (HLX.out.trans (hb.mono HLX.out.size))
  replace X0 := X0.low hb
  clear hb C
  clear c0 z0
  have c0 := bs16 X0
  have z0 := X0.1
  cases h1 : (rteB false ns tk ts ty tl)
  · go_wp2_with fail
    go_ret
    refine ⟨⟨_, rfl, ?_⟩, HLX.out⟩
    clear X0 c0 z0
    unfold RLitP
    simp [k0, k1, k2, k3, k4, k5, k6, k7, h1]
  · have C := hid (rin_any kd tk ts ty tl rl nu xa xn xc na nn nc ok os oy ol of ky sl tx nm x1 hs ho (by unfold maxLen; exact hy) HXN.out HNN.out (rx.low HLX.out (Nat.le_refl _)) (rn.low HLX.out (Nat.le_refl _)) bx bn hz)
    go_wp2_with fail
    refine C.out.mono ?_
    rintro e x2 ⟨⟨bb, rfl, ebb⟩, hb⟩
    replace HLX := hid (HLX.out.trans (hb.mono HLX.out.size))
    replace X0 := X0.low hb
    clear hb C
    have Eh2 := hid ebb
    clear ebb
    clear c0 z0
    have c0 := bs16 X0
    have z0 := X0.1
    cases bb
    · have H2 := hid (show ¬ (RInP tk xn nn tx nm) from fun h => absurd (Eh2.out.2 h) (by decide))
      clear Eh2
      go_wp2_with fail
      go_ret
      refine ⟨⟨_, rfl, ?_⟩, HLX.out⟩
      have h2 := H2.out
      clear X0 c0 z0
      unfold RLitP
      simp [k0, k1, k2, k3, k4, k5, k6, k7, h1, h2]
    · have H2 := hid (Eh2.out.1 rfl)
      clear Eh2
      have C := hid (rest_sets kd tk ts ty tl rl nu xa xn xc na nn nc ok os oy ol of ky sl x2 bx bn)
      go_wp2_with fail
      refine C.out.mono ?_
      rintro e x3 ⟨⟨bb, rfl, ebb⟩, hb⟩
      replace HLX := hid (HLX.out.trans (hb.mono HLX.out.size))
      replace X0 := X0.low hb
      clear hb C
      have EBB := hid ebb
      clear ebb
      clear c0 z0
      have c0 := bs16 X0
      have z0 := X0.1
      go_wp2_with fail
      go_ret
      refine ⟨⟨_, rfl, ?_⟩, HLX.out⟩
      rw [EBB.out]
      have h2 := H2.out
      clear X0 c0 z0
      unfold RLitP
      simp [k0, k1, k2, k3, k4, k5, k6, k7, h1, h2]
end Go.Proofs.YtimmjikpcekffaaGreatDoor.L
namespace Go.Proofs.YtimmjikpcekffaaGreatDoor.L
open Go.RowKit
set_option linter.unusedVariables false
set_option linter.unusedSimpArgs false
set_option maxHeartbeats 16000000 in
set_option maxRecDepth 100000 in
theorem rlit_0_2 (ns : Int) (kd tk ts : Int) (ty : ByteArray) (tl rl nu : Int) (xa : Option Addr) (xn xc : Nat) (na : Option Addr) (nn nc : Nat) (ok os : Int) (oy : ByteArray) (ol of : Int) (ky : ByteArray) (sl : Int) (tx : List ByteArray) (nm : List Int) (w : World) (k0 : decide ((127 : Int) < (ky.size : Int)) = false) (k1 : (kd == 1) = false) (k2 : (kd == 2) = true) (k3 : (kd == 3) = false) (k4 : (kd == 4) = false) (k5 : (kd == 5) = false) (k6 : (kd == 6) = false) (k7 : (kd == 7) = false) (hs : ty.size ≤ maxLen) (ho : oy.size ≤ maxLen) (hy : ky.size ≤ maxLen) (hx : xn = tx.length) (hn : nn = nm.length) (rx : RdS w xa tx) (rn : RdI w na nm) (bx : xn ≤ 140737488355328) (bn : nn ≤ 140737488355328) (hz : ∀ k, (tx.getD k ByteArray.empty).size ≤ maxLen) : Calls Tryz.prog 30 #[.agg #[.int .i64 kd, .int .i64 tk, .int .i64 ts, .string ty, .int .i64 tl, .int .i64 rl, .int .i64 nu, .slice xa xn xc, .slice na nn nc, .int .i64 ok, .int .i64 os, .string oy, .int .i64 ol, .int .i64 of, .string ky, .int .i64 sl], .bool false, .int .i64 ns] w fun e w' => (∃ b, e = .returned (.bool b) ∧ (b = true ↔ RLitP false ns kd tk ts ty tl rl nu xa xn xc na nn nc ok os oy ol of ky sl tx nm)) ∧ Below w.heap.size w w' := by
  have HXN := hid hx
  have HNN := hid hn
  unfold maxLen at hy
  clear hx hn
  have HLX := hid (show Below w.heap.size w (w.alloc (.cells #[.int .i64 kd, .int .i64 tk, .int .i64 ts, .string ty, .int .i64 tl, .int .i64 rl, .int .i64 nu, .slice xa xn xc, .slice na nn nc, .int .i64 ok, .int .i64 os, .string oy, .int .i64 ol, .int .i64 of, .string ky, .int .i64 sl] 49)) from ((Below.refl _ w).alloc (by simp) _))
  have X0 : Bs (w.alloc (.cells #[.int .i64 kd, .int .i64 tk, .int .i64 ts, .string ty, .int .i64 tl, .int .i64 rl, .int .i64 nu, .slice xa xn xc, .slice na nn nc, .int .i64 ok, .int .i64 os, .string oy, .int .i64 ol, .int .i64 of, .string ky, .int .i64 sl] 49)) w.heap.size [.int .i64 kd, .int .i64 tk, .int .i64 ts, .string ty, .int .i64 tl, .int .i64 rl, .int .i64 nu, .slice xa xn xc, .slice na nn nc, .int .i64 ok, .int .i64 os, .string oy, .int .i64 ol, .int .i64 of, .string ky, .int .i64 sl] := by simpa using bs_1_0 w _ _
  go_enter Tryz.func30, Tryz.ntmps30
  go_upto_region 1 with (fail)
  generalize (w.alloc (.cells #[.int .i64 kd, .int .i64 tk, .int .i64 ts, .string ty, .int .i64 tl, .int .i64 rl, .int .i64 nu, .slice xa xn xc, .slice na nn nc, .int .i64 ok, .int .i64 os, .string oy, .int .i64 ol, .int .i64 of, .string ky, .int .i64 sl] 49)) = x0 at *
  have c0 := bs16 X0
  have z0 := X0.1
  have C := hid (rterm_any tk ts ty tl ns false x0 hs)
  go_wp2_with fail
  refine C.out.mono ?_
  rintro e x1 ⟨rfl, hb⟩
  replace HLX := hid (HLX.out.trans (hb.mono HLX.out.size))
  replace X0 := X0.low hb
  clear hb C
  clear c0 z0
  have c0 := bs16 X0
  have z0 := X0.1
  cases h1 : (rteB false ns tk ts ty tl)
  · go_wp2_with fail
    go_ret
    refine ⟨⟨_, rfl, ?_⟩, HLX.out⟩
    clear X0 c0 z0
    unfold RLitP
    simp [k0, k1, k2, k3, k4, k5, k6, k7, h1]
  · have C := hid (rrel_any kd tk ts ty tl rl nu xa xn xc na nn nc ok os oy ol of ky sl x1)
    go_wp2_with fail
    refine C.out.mono ?_
    rintro e x2 ⟨rfl, hb⟩
    replace HLX := hid (HLX.out.trans (hb.mono HLX.out.size))
    replace X0 := X0.low hb
    clear hb C
    clear c0 z0
    have c0 := bs16 X0
    have z0 := X0.1
    cases h2 : (rreB tk rl nu)
    · go_wp2_with fail
      go_ret
      refine ⟨⟨_, rfl, ?_⟩, HLX.out⟩
      clear X0 c0 z0
      unfold RLitP
      simp [k0, k1, k2, k3, k4, k5, k6, k7, h1, h2]
    · have C := hid (rest_num kd tk ts ty tl rl nu xa xn xc na nn nc ok os oy ol of ky sl x2 bx bn)
      go_wp2_with fail
      refine C.out.mono ?_
      rintro e x3 ⟨⟨bb, rfl, ebb⟩, hb⟩
      replace HLX := hid (HLX.out.trans (hb.mono HLX.out.size))
      replace X0 := X0.low hb
      clear hb C
      have EBB := hid ebb
      clear ebb
      clear c0 z0
      have c0 := bs16 X0
      have z0 := X0.1
      go_wp2_with fail
      go_ret
      refine ⟨⟨_, rfl, ?_⟩, HLX.out⟩
      rw [EBB.out]
      clear X0 c0 z0
      unfold RLitP
      simp [k0, k1, k2, k3, k4, k5, k6, k7, h1, h2]
end Go.Proofs.YtimmjikpcekffaaGreatDoor.L
namespace Go.Proofs.YtimmjikpcekffaaGreatDoor.L
open Go.RowKit
set_option linter.unusedVariables false
set_option linter.unusedSimpArgs false
set_option maxHeartbeats 16000000 in
set_option maxRecDepth 100000 in
theorem rlit_0_3 (ns : Int) (kd tk ts : Int) (ty : ByteArray) (tl rl nu : Int) (xa : Option Addr) (xn xc : Nat) (na : Option Addr) (nn nc : Nat) (ok os : Int) (oy : ByteArray) (ol of : Int) (ky : ByteArray) (sl : Int) (tx : List ByteArray) (nm : List Int) (w : World) (k0 : decide ((127 : Int) < (ky.size : Int)) = false) (k1 : (kd == 1) = false) (k2 : (kd == 2) = false) (k3 : (kd == 3) = true) (k4 : (kd == 4) = false) (k5 : (kd == 5) = false) (k6 : (kd == 6) = false) (k7 : (kd == 7) = false) (hs : ty.size ≤ maxLen) (ho : oy.size ≤ maxLen) (hy : ky.size ≤ maxLen) (hx : xn = tx.length) (hn : nn = nm.length) (rx : RdS w xa tx) (rn : RdI w na nm) (bx : xn ≤ 140737488355328) (bn : nn ≤ 140737488355328) (hz : ∀ k, (tx.getD k ByteArray.empty).size ≤ maxLen) : Calls Tryz.prog 30 #[.agg #[.int .i64 kd, .int .i64 tk, .int .i64 ts, .string ty, .int .i64 tl, .int .i64 rl, .int .i64 nu, .slice xa xn xc, .slice na nn nc, .int .i64 ok, .int .i64 os, .string oy, .int .i64 ol, .int .i64 of, .string ky, .int .i64 sl], .bool false, .int .i64 ns] w fun e w' => (∃ b, e = .returned (.bool b) ∧ (b = true ↔ RLitP false ns kd tk ts ty tl rl nu xa xn xc na nn nc ok os oy ol of ky sl tx nm)) ∧ Below w.heap.size w w' := by
  have HXN := hid hx
  have HNN := hid hn
  unfold maxLen at hy
  clear hx hn
  have HLX := hid (show Below w.heap.size w (w.alloc (.cells #[.int .i64 kd, .int .i64 tk, .int .i64 ts, .string ty, .int .i64 tl, .int .i64 rl, .int .i64 nu, .slice xa xn xc, .slice na nn nc, .int .i64 ok, .int .i64 os, .string oy, .int .i64 ol, .int .i64 of, .string ky, .int .i64 sl] 49)) from ((Below.refl _ w).alloc (by simp) _))
  have X0 : Bs (w.alloc (.cells #[.int .i64 kd, .int .i64 tk, .int .i64 ts, .string ty, .int .i64 tl, .int .i64 rl, .int .i64 nu, .slice xa xn xc, .slice na nn nc, .int .i64 ok, .int .i64 os, .string oy, .int .i64 ol, .int .i64 of, .string ky, .int .i64 sl] 49)) w.heap.size [.int .i64 kd, .int .i64 tk, .int .i64 ts, .string ty, .int .i64 tl, .int .i64 rl, .int .i64 nu, .slice xa xn xc, .slice na nn nc, .int .i64 ok, .int .i64 os, .string oy, .int .i64 ol, .int .i64 of, .string ky, .int .i64 sl] := by simpa using bs_1_0 w _ _
  go_enter Tryz.func30, Tryz.ntmps30
  go_upto_region 1 with (fail)
  generalize (w.alloc (.cells #[.int .i64 kd, .int .i64 tk, .int .i64 ts, .string ty, .int .i64 tl, .int .i64 rl, .int .i64 nu, .slice xa xn xc, .slice na nn nc, .int .i64 ok, .int .i64 os, .string oy, .int .i64 ol, .int .i64 of, .string ky, .int .i64 sl] 49)) = x0 at *
  have c0 := bs16 X0
  have z0 := X0.1
  have C := hid (rterm_any tk ts ty tl ns false x0 hs)
  go_wp2_with fail
  refine C.out.mono ?_
  rintro e x1 ⟨rfl, hb⟩
  replace HLX := hid (HLX.out.trans (hb.mono HLX.out.size))
  replace X0 := X0.low hb
  clear hb C
  clear c0 z0
  have c0 := bs16 X0
  have z0 := X0.1
  cases h1 : (rteB false ns tk ts ty tl)
  · go_wp2_with fail
    go_ret
    refine ⟨⟨_, rfl, ?_⟩, HLX.out⟩
    clear X0 c0 z0
    unfold RLitP
    simp [k0, k1, k2, k3, k4, k5, k6, k7, h1]
  · have C := hid (rterm_any ok os oy ol ns false x1 ho)
    go_wp2_with fail
    refine C.out.mono ?_
    rintro e x2 ⟨rfl, hb⟩
    replace HLX := hid (HLX.out.trans (hb.mono HLX.out.size))
    replace X0 := X0.low hb
    clear hb C
    clear c0 z0
    have c0 := bs16 X0
    have z0 := X0.1
    cases h2 : (rteB false ns ok os oy ol)
    · go_wp2_with fail
      go_ret
      refine ⟨⟨_, rfl, ?_⟩, HLX.out⟩
      clear X0 c0 z0
      unfold RLitP
      simp [k0, k1, k2, k3, k4, k5, k6, k7, h1, h2]
    · have C := hid (rpod_any kd tk ts ty tl rl nu xa xn xc na nn nc ok os oy ol of ky sl x2)
      go_wp2_with fail
      refine C.out.mono ?_
      rintro e x3 ⟨rfl, hb⟩
      replace HLX := hid (HLX.out.trans (hb.mono HLX.out.size))
      replace X0 := X0.low hb
      clear hb C
      clear c0 z0
      have c0 := bs16 X0
      have z0 := X0.1
      cases h3 : (rpoB tk rl ok os)
      · go_wp2_with fail
        go_ret
        refine ⟨⟨_, rfl, ?_⟩, HLX.out⟩
        clear X0 c0 z0
        unfold RLitP
        simp [k0, k1, k2, k3, k4, k5, k6, k7, h1, h2, h3]
      · have C := hid (rest_other kd tk ts ty tl rl nu xa xn xc na nn nc ok os oy ol of ky sl x3 bx bn)
        go_wp2_with fail
        refine C.out.mono ?_
        rintro e x4 ⟨⟨bb, rfl, ebb⟩, hb⟩
        replace HLX := hid (HLX.out.trans (hb.mono HLX.out.size))
        replace X0 := X0.low hb
        clear hb C
        have EBB := hid ebb
        clear ebb
        clear c0 z0
        have c0 := bs16 X0
        have z0 := X0.1
        go_wp2_with fail
        go_ret
        refine ⟨⟨_, rfl, ?_⟩, HLX.out⟩
        rw [EBB.out]
        clear X0 c0 z0
        unfold RLitP
        simp [k0, k1, k2, k3, k4, k5, k6, k7, h1, h2, h3]
end Go.Proofs.YtimmjikpcekffaaGreatDoor.L
namespace Go.Proofs.YtimmjikpcekffaaGreatDoor.L
open Go.RowKit
set_option linter.unusedVariables false
set_option linter.unusedSimpArgs false
set_option maxHeartbeats 16000000 in
set_option maxRecDepth 100000 in
theorem rlit_0_4_00 (ns : Int) (kd tk ts : Int) (ty : ByteArray) (tl rl nu : Int) (xa : Option Addr) (xn xc : Nat) (na : Option Addr) (nn nc : Nat) (ok os : Int) (oy : ByteArray) (ol of : Int) (ky : ByteArray) (sl : Int) (tx : List ByteArray) (nm : List Int) (w : World) (k0 : decide ((127 : Int) < (ky.size : Int)) = false) (k1 : (kd == 1) = false) (k2 : (kd == 2) = false) (k3 : (kd == 3) = false) (k4 : (kd == 4) = true) (k5 : (kd == 5) = false) (k6 : (kd == 6) = false) (k7 : (kd == 7) = false) (q1 : (tk == 1) = false) (q3 : (tk != 1) = true) (q2 : (of == 1) = false) (hs : ty.size ≤ maxLen) (ho : oy.size ≤ maxLen) (hy : ky.size ≤ maxLen) (hx : xn = tx.length) (hn : nn = nm.length) (rx : RdS w xa tx) (rn : RdI w na nm) (bx : xn ≤ 140737488355328) (bn : nn ≤ 140737488355328) (hz : ∀ k, (tx.getD k ByteArray.empty).size ≤ maxLen) : Calls Tryz.prog 30 #[.agg #[.int .i64 kd, .int .i64 tk, .int .i64 ts, .string ty, .int .i64 tl, .int .i64 rl, .int .i64 nu, .slice xa xn xc, .slice na nn nc, .int .i64 ok, .int .i64 os, .string oy, .int .i64 ol, .int .i64 of, .string ky, .int .i64 sl], .bool false, .int .i64 ns] w fun e w' => (∃ b, e = .returned (.bool b) ∧ (b = true ↔ RLitP false ns kd tk ts ty tl rl nu xa xn xc na nn nc ok os oy ol of ky sl tx nm)) ∧ Below w.heap.size w w' := by
  have HXN := hid hx
  have HNN := hid hn
  unfold maxLen at hy
  clear hx hn
  have HLX := hid (show Below w.heap.size w (w.alloc (.cells #[.int .i64 kd, .int .i64 tk, .int .i64 ts, .string ty, .int .i64 tl, .int .i64 rl, .int .i64 nu, .slice xa xn xc, .slice na nn nc, .int .i64 ok, .int .i64 os, .string oy, .int .i64 ol, .int .i64 of, .string ky, .int .i64 sl] 49)) from ((Below.refl _ w).alloc (by simp) _))
  have X0 : Bs (w.alloc (.cells #[.int .i64 kd, .int .i64 tk, .int .i64 ts, .string ty, .int .i64 tl, .int .i64 rl, .int .i64 nu, .slice xa xn xc, .slice na nn nc, .int .i64 ok, .int .i64 os, .string oy, .int .i64 ol, .int .i64 of, .string ky, .int .i64 sl] 49)) w.heap.size [.int .i64 kd, .int .i64 tk, .int .i64 ts, .string ty, .int .i64 tl, .int .i64 rl, .int .i64 nu, .slice xa xn xc, .slice na nn nc, .int .i64 ok, .int .i64 os, .string oy, .int .i64 ol, .int .i64 of, .string ky, .int .i64 sl] := by simpa using bs_1_0 w _ _
  go_enter Tryz.func30, Tryz.ntmps30
  go_upto_region 1 with (fail)
  generalize (w.alloc (.cells #[.int .i64 kd, .int .i64 tk, .int .i64 ts, .string ty, .int .i64 tl, .int .i64 rl, .int .i64 nu, .slice xa xn xc, .slice na nn nc, .int .i64 ok, .int .i64 os, .string oy, .int .i64 ol, .int .i64 of, .string ky, .int .i64 sl] 49)) = x0 at *
  have c0 := bs16 X0
  have z0 := X0.1
  have C := hid (rterm_any tk ts ty tl ns false x0 hs)
  go_wp2_with fail
  refine C.out.mono ?_
  rintro e x1 ⟨rfl, hb⟩
  replace HLX := hid (HLX.out.trans (hb.mono HLX.out.size))
  replace X0 := X0.low hb
  clear hb C
  clear c0 z0
  have c0 := bs16 X0
  have z0 := X0.1
  cases h1 : (rteB false ns tk ts ty tl)
  · go_wp2_with fail
    go_ret
    refine ⟨⟨_, rfl, ?_⟩, HLX.out⟩
    clear X0 c0 z0
    unfold RLitP
    simp [k0, k1, k2, k3, k4, k5, k6, k7, q1, q3, q2, h1]
  · have C := hid (rside_any of false x1)
    go_wp2_with fail
    refine C.out.mono ?_
    rintro e x2 ⟨rfl, hb⟩
    replace HLX := hid (HLX.out.trans (hb.mono HLX.out.size))
    replace X0 := X0.low hb
    clear hb C
    clear c0 z0
    have c0 := bs16 X0
    have z0 := X0.1
    cases h2 : (siB false of)
    · go_wp2_with fail
      go_ret
      refine ⟨⟨_, rfl, ?_⟩, HLX.out⟩
      clear X0 c0 z0
      unfold RLitP
      simp [k0, k1, k2, k3, k4, k5, k6, k7, q1, q3, q2, h1, h2]
    · have C := hid (rtext_of tk ts ty tl x2)
      go_wp2_with fail
      refine C.out.mono ?_
      rintro e x3 ⟨rfl, hb⟩
      replace HLX := hid (HLX.out.trans (hb.mono HLX.out.size))
      replace X0 := X0.low hb
      clear hb C
      clear c0 z0
      have c0 := bs16 X0
      have z0 := X0.1
      cases h3 : (rtxB tk)
      · go_wp2_with fail
        go_ret
        refine ⟨⟨_, rfl, ?_⟩, HLX.out⟩
        clear X0 c0 z0
        unfold RLitP
        simp [k0, k1, k2, k3, k4, k5, k6, k7, q1, q3, q2, h1, h2, h3]
      · have C := hid (rofpod_of tk ts ty tl x3)
        go_wp2_with fail
        refine C.out.mono ?_
        rintro e x4 ⟨rfl, hb⟩
        replace HLX := hid (HLX.out.trans (hb.mono HLX.out.size))
        replace X0 := X0.low hb
        clear hb C
        clear c0 z0
        have c0 := bs16 X0
        have z0 := X0.1
        cases h4 : (rofB tk ts)
        · go_wp2_with fail
          go_ret
          refine ⟨⟨_, rfl, ?_⟩, HLX.out⟩
          clear X0 c0 z0
          unfold RLitP
          simp [k0, k1, k2, k3, k4, k5, k6, k7, q1, q3, q2, h1, h2, h3, h4]
        · have C := hid (rest_of kd tk ts ty tl rl nu xa xn xc na nn nc ok os oy ol of ky sl x4 bx bn)
          go_wp2_with fail
          refine C.out.mono ?_
          rintro e x5 ⟨⟨bb, rfl, ebb⟩, hb⟩
          replace HLX := hid (HLX.out.trans (hb.mono HLX.out.size))
          replace X0 := X0.low hb
          clear hb C
          have EBB := hid ebb
          clear ebb
          clear c0 z0
          have c0 := bs16 X0
          have z0 := X0.1
          go_wp2_with fail
          go_ret
          refine ⟨⟨_, rfl, ?_⟩, HLX.out⟩
          rw [EBB.out]
          clear X0 c0 z0
          unfold RLitP
          simp [k0, k1, k2, k3, k4, k5, k6, k7, q1, q3, q2, h1, h2, h3, h4]
end Go.Proofs.YtimmjikpcekffaaGreatDoor.L
