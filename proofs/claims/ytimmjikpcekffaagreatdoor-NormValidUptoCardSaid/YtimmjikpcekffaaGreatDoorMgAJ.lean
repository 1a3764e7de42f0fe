import Derived.Test.YtimmjikpcekffaaGreatDoorMgAF
namespace Go.Proofs.YtimmjikpcekffaaGreatDoor.L
open Go.RowKit
set_option linter.unusedVariables false
set_option linter.unusedSimpArgs false
set_option maxHeartbeats 16000000 in
set_option maxRecDepth 100000 in
theorem rlit_0_6 (ns : Int) (kd tk ts : Int) (ty : ByteArray) (tl rl nu : Int) (xa : Option Addr) (xn xc : Nat) (na : Option Addr) (nn nc : Nat) (ok os : Int) (oy : ByteArray) (ol of : Int) (ky : ByteArray) (sl : Int) (tx : List ByteArray) (nm : List Int) (w : World) (k0 : decide ((127 : Int) < (ky.size : Int)) = false) (k1 : (kd == 1) = false) (k2 : (kd == 2) = false) (k3 : (kd == 3) = false) (k4 : (kd == 4) = false) (k5 : (kd == 5) = false) (k6 : (kd == 6) = true) (k7 : (kd == 7) = false) (hs : ty.size ≤ maxLen) (ho : oy.size ≤ maxLen) (hy : ky.size ≤ maxLen) (hx : xn = tx.length) (hn : nn = nm.length) (rx : RdS w xa tx) (rn : RdI w na nm) (bx : xn ≤ 140737488355328) (bn : nn ≤ 140737488355328) (hz : ∀ k, (tx.getD k ByteArray.empty).size ≤ maxLen) : Calls Tryz.prog 30 #[.agg #[.int .i64 kd, .int .i64 tk, .int .i64 ts, .string ty, .int .i64 tl, .int .i64 rl, .int .i64 nu, .slice xa xn xc, .slice na nn nc, .int .i64 ok, .int .i64 os, .string oy, .int .i64 ol, .int .i64 of, .string ky, .int .i64 sl], .bool false, .int .i64 ns] w fun e w' => (∃ b, e = .returned (.bool b) ∧ (b = true ↔ RLitP false ns kd tk ts ty tl rl nu xa xn xc na nn nc ok os oy ol of ky sl tx nm)) ∧ Below w.heap.size w w' := by
  have HXN := hid hx
  have HNN := hid hn
  unfold maxLen at hy
  clear hx hn
  have HLX := hid (show Below w.heap.size w (w.alloc (.cells #[.int .i64 kd, .int .i64 tk, .int .i64 ts, .string ty, .int .i64 tl, .int .i64 rl, .int .i64 nu, .slice xa xn xc, .slice na nn nc, .int .i64 ok, .int .i64 os, .string oy, .int .i64 ol, .int .i64 of, .string ky, .int .i64 sl] 49)) from ((Below.refl _ w).alloc (by simp) _))
  have X0 : Bs (w.alloc (.cells #[.int .i64 kd, .int .i64 tk, .int .i64 ts, .string ty, .int .i64 tl, .int .i64 rl, .int .i64 nu, .slice xa xn xc, .slice na nn nc, .int .i64 ok, .int .i64 os, .string oy, .int .i64 ol, .int .i64 of, .string ky, .int .i64 sl] 49)) w.heap.size [.int .i64 kd, .int .i64 tk, .int .i64 ts, .string ty, .int .i64 tl, .int .i64 rl, .int .i64 nu, .slice xa xn xc, .slice na nn nc, .int .i64 ok, .int .i64 os, .string oy, .int .i64 ol, .int .i64 of, .string ky, .int .i64 sl] := by simpa using bs_1_0 w _ _
  go_enter Tryz.func30, Tryz.ntmps30
  go_upto_region 1 with (fail)
  generalize (w.alloc (.cells #[.int .i64 kd, .int .i64 tk, .int .i64 ts, .string ty, .int .i64 tl, .int .i64 rl, .int .i64 nu, .slice xa xn xc, .slice na nn nc, .int .i64 ok, .int .i64 os, .string oy, .int .i64 ol, .int .i64 of, .string ky, .int .i64 sl] 49)) = x0 at *
  have c0 := bs16 X0
  have z0 := X0.1
  cases h1 : (tk == 0)
  · go_wp2_with fail
    go_ret
    refine ⟨⟨_, rfl, ?_⟩, HLX.out⟩
    clear X0 c0 z0
    unfold RLitP
    simp [k0, k1, k2, k3, k4, k5, k6, k7, h1]
  · cases h2 : (ts == 0)
    · go_wp2_with fail
      go_ret
      refine ⟨⟨_, rfl, ?_⟩, HLX.out⟩
      clear X0 c0 z0
      unfold RLitP
      simp [k0, k1, k2, k3, k4, k5, k6, k7, h1, h2]
    · cases h3 : (ty.toList == [])
      · go_wp2_with fail
        go_ret
        refine ⟨⟨_, rfl, ?_⟩, HLX.out⟩
        clear X0 c0 z0
        unfold RLitP
        simp [k0, k1, k2, k3, k4, k5, k6, k7, h1, h2, h3]
      · cases h4 : (tl == 0)
        · go_wp2_with fail
          go_ret
          refine ⟨⟨_, rfl, ?_⟩, HLX.out⟩
          clear X0 c0 z0
          unfold RLitP
          simp [k0, k1, k2, k3, k4, k5, k6, k7, h1, h2, h3, h4]
        · have C := hid (rest_key kd tk ts ty tl rl nu xa xn xc na nn nc ok os oy ol of ky sl x0 bx bn)
          go_wp2_with fail
          refine C.out.mono ?_
          rintro e x1 ⟨⟨bb, rfl, ebb⟩, hb⟩
          replace HLX := hid (HLX.out.trans (hb.mono HLX.out.size))
          replace X0 := X0.low hb
          clear hb C
          have Eh5 := hid ebb
          clear ebb
          clear c0 z0
          have c0 := bs16 X0
          have z0 := X0.1
          cases bb
          · have H5 := hid (show ¬ (RestP false false false false false true rl nu xn nn ok os oy ol of ky sl) from fun h => absurd (Eh5.out.2 h) (by decide))
            clear Eh5
            go_wp2_with fail
            go_ret
            refine ⟨⟨_, rfl, ?_⟩, HLX.out⟩
            have h5 := H5.out
            clear X0 c0 z0
            unfold RLitP
            simp [k0, k1, k2, k3, k4, k5, k6, k7, h1, h2, h3, h4, h5]
          · have H5 := hid (Eh5.out.1 rfl)
            clear Eh5
            cases h6 : (sl == 0)
            · go_wp2_with fail
              go_ret
              refine ⟨⟨_, rfl, ?_⟩, HLX.out⟩
              have h5 := H5.out
              clear X0 c0 z0
              unfold RLitP
              simp [k0, k1, k2, k3, k4, k5, k6, k7, h1, h2, h3, h4, h6, h5]
            · go_wp2_with fail
              go_ret
              refine ⟨⟨_, rfl, ?_⟩, HLX.out⟩
              have h5 := H5.out
              clear X0 c0 z0
              unfold RLitP
              simp [k0, k1, k2, k3, k4, k5, k6, k7, h1, h2, h3, h4, h6, h5]
end Go.Proofs.YtimmjikpcekffaaGreatDoor.L
namespace Go.Proofs.YtimmjikpcekffaaGreatDoor.L
open Go.RowKit
set_option linter.unusedVariables false
set_option linter.unusedSimpArgs false
set_option maxHeartbeats 16000000 in
set_option maxRecDepth 100000 in
theorem rlit_0_7 (ns : Int) (kd tk ts : Int) (ty : ByteArray) (tl rl nu : Int) (xa : Option Addr) (xn xc : Nat) (na : Option Addr) (nn nc : Nat) (ok os : Int) (oy : ByteArray) (ol of : Int) (ky : ByteArray) (sl : Int) (tx : List ByteArray) (nm : List Int) (w : World) (k0 : decide ((127 : Int) < (ky.size : Int)) = false) (k1 : (kd == 1) = false) (k2 : (kd == 2) = false) (k3 : (kd == 3) = false) (k4 : (kd == 4) = false) (k5 : (kd == 5) = false) (k6 : (kd == 6) = false) (k7 : (kd == 7) = true) (hs : ty.size ≤ maxLen) (ho : oy.size ≤ maxLen) (hy : ky.size ≤ maxLen) (hx : xn = tx.length) (hn : nn = nm.length) (rx : RdS w xa tx) (rn : RdI w na nm) (bx : xn ≤ 140737488355328) (bn : nn ≤ 140737488355328) (hz : ∀ k, (tx.getD k ByteArray.empty).size ≤ maxLen) : Calls Tryz.prog 30 #[.agg #[.int .i64 kd, .int .i64 tk, .int .i64 ts, .string ty, .int .i64 tl, .int .i64 rl, .int .i64 nu, .slice xa xn xc, .slice na nn nc, .int .i64 ok, .int .i64 os, .string oy, .int .i64 ol, .int .i64 of, .string ky, .int .i64 sl], .bool false, .int .i64 ns] w fun e w' => (∃ b, e = .returned (.bool b) ∧ (b = true ↔ RLitP false ns kd tk ts ty tl rl nu xa xn xc na nn nc ok os oy ol of ky sl tx nm)) ∧ Below w.heap.size w w' := by
  have HXN := hid hx
  have HNN := hid hn
  unfold maxLen at hy
  clear hx hn
  have HLX := hid (show Below w.heap.size w (w.alloc (.cells #[.int .i64 kd, .int .i64 tk, .int .i64 ts, .string ty, .int .i64 tl, .int .i64 rl, .int .i64 nu, .slice xa xn xc, .slice na nn nc, .int .i64 ok, .int .i64 os, .string oy, .int .i64 ol, .int .i64 of, .string ky, .int .i64 sl] 49)) from ((Below.refl _ w).alloc (by simp) _))
  have X0 : Bs (w.alloc (.cells #[.int .i64 kd, .int .i64 tk, .int .i64 ts, .string ty, .int .i64 tl, .int .i64 rl, .int .i64 nu, .slice xa xn xc, .slice na nn nc, .int .i64 ok, .int .i64 os, .string oy, .int .i64 ol, .int .i64 of, .string ky, .int .i64 sl] 49)) w.heap.size [.int .i64 kd, .int .i64 tk, .int .i64 ts, .string ty, .int .i64 tl, .int .i64 rl, .int .i64 nu, .slice xa xn xc, .slice na nn nc, .int .i64 ok, .int .i64 os, .string oy, .int .i64 ol, .int .i64 of, .string ky, .int .i64 sl] := by simpa using bs_1_0 w _ _
  go_enter Tryz.func30, Tryz.ntmps30
  go_upto_region 1 with (fail)
  generalize (w.alloc (.cells #[.int .i64 kd, .int .i64 tk, .int .i64 ts, .string ty, .int .i64 tl, .int .i64 rl, .int .i64 nu, .slice xa xn xc, .slice na nn nc, .int .i64 ok, .int .i64 os, .string oy, .int .i64 ol, .int .i64 of, .string ky, .int .i64 sl] 49)) = x0 at *
  have c0 := bs16 X0
  have z0 := X0.1
  cases h1 : (tk == 0)
  · go_wp2_with fail
    go_ret
    refine ⟨⟨_, rfl, ?_⟩, HLX.out⟩
    clear X0 c0 z0
    unfold RLitP
    simp [k0, k1, k2, k3, k4, k5, k6, k7, h1]
  · cases h2 : (ts == 0)
    · go_wp2_with fail
      go_ret
      refine ⟨⟨_, rfl, ?_⟩, HLX.out⟩
      clear X0 c0 z0
      unfold RLitP
      simp [k0, k1, k2, k3, k4, k5, k6, k7, h1, h2]
    · cases h3 : (ty.toList == [])
      · go_wp2_with fail
        go_ret
        refine ⟨⟨_, rfl, ?_⟩, HLX.out⟩
        clear X0 c0 z0
        unfold RLitP
        simp [k0, k1, k2, k3, k4, k5, k6, k7, h1, h2, h3]
      · cases h4 : (tl == 0)
        · go_wp2_with fail
          go_ret
          refine ⟨⟨_, rfl, ?_⟩, HLX.out⟩
          clear X0 c0 z0
          unfold RLitP
          simp [k0, k1, k2, k3, k4, k5, k6, k7, h1, h2, h3, h4]
        · have C := hid (rest_key kd tk ts ty tl rl nu xa xn xc na nn nc ok os oy ol of ky sl x0 bx bn)
          go_wp2_with fail
          refine C.out.mono ?_
          rintro e x1 ⟨⟨bb, rfl, ebb⟩, hb⟩
          replace HLX := hid (HLX.out.trans (hb.mono HLX.out.size))
          replace X0 := X0.low hb
          clear hb C
          have Eh5 := hid ebb
          clear ebb
          clear c0 z0
          have c0 := bs16 X0
          have z0 := X0.1
          cases bb
          · have H5 := hid (show ¬ (RestP false false false false false true rl nu xn nn ok os oy ol of ky sl) from fun h => absurd (Eh5.out.2 h) (by decide))
            clear Eh5
            go_wp2_with fail
            go_ret
            refine ⟨⟨_, rfl, ?_⟩, HLX.out⟩
            have h5 := H5.out
            clear X0 c0 z0
            unfold RLitP
            simp [k0, k1, k2, k3, k4, k5, k6, k7, h1, h2, h3, h4, h5]
          · have H5 := hid (Eh5.out.1 rfl)
            clear Eh5
            cases h6 : (decide (0 ≤ sl))
            · go_wp2_with fail
              go_ret
              refine ⟨⟨_, rfl, ?_⟩, HLX.out⟩
              have h5 := H5.out
              clear X0 c0 z0
              unfold RLitP
              simp [k0, k1, k2, k3, k4, k5, k6, k7, h1, h2, h3, h4, h6, h5]
            · cases h7 : (decide (sl < ns))
              · go_wp2_with fail
                go_ret
                refine ⟨⟨_, rfl, ?_⟩, HLX.out⟩
                have h5 := H5.out
                clear X0 c0 z0
                unfold RLitP
                simp [k0, k1, k2, k3, k4, k5, k6, k7, h1, h2, h3, h4, h6, h7, h5]
              · go_wp2_with fail
                go_ret
                refine ⟨⟨_, rfl, ?_⟩, HLX.out⟩
                have h5 := H5.out
                clear X0 c0 z0
                unfold RLitP
                simp [k0, k1, k2, k3, k4, k5, k6, k7, h1, h2, h3, h4, h6, h7, h5]
end Go.Proofs.YtimmjikpcekffaaGreatDoor.L
namespace Go.Proofs.YtimmjikpcekffaaGreatDoor.L
open Go.RowKit
set_option linter.unusedVariables false
set_option linter.unusedSimpArgs false
set_option maxHeartbeats 16000000 in
set_option maxRecDepth 100000 in
theorem rlit_0_8 (ns : Int) (kd tk ts : Int) (ty : ByteArray) (tl rl nu : Int) (xa : Option Addr) (xn xc : Nat) (na : Option Addr) (nn nc : Nat) (ok os : Int) (oy : ByteArray) (ol of : Int) (ky : ByteArray) (sl : Int) (tx : List ByteArray) (nm : List Int) (w : World) (k0 : decide ((127 : Int) < (ky.size : Int)) = false) (k1 : (kd == 1) = false) (k2 : (kd == 2) = false) (k3 : (kd == 3) = false) (k4 : (kd == 4) = false) (k5 : (kd == 5) = false) (k6 : (kd == 6) = false) (k7 : (kd == 7) = false) (hs : ty.size ≤ maxLen) (ho : oy.size ≤ maxLen) (hy : ky.size ≤ maxLen) (hx : xn = tx.length) (hn : nn = nm.length) (rx : RdS w xa tx) (rn : RdI w na nm) (bx : xn ≤ 140737488355328) (bn : nn ≤ 140737488355328) (hz : ∀ k, (tx.getD k ByteArray.empty).size ≤ maxLen) : Calls Tryz.prog 30 #[.agg #[.int .i64 kd, .int .i64 tk, .int .i64 ts, .string ty, .int .i64 tl, .int .i64 rl, .int .i64 nu, .slice xa xn xc, .slice na nn nc, .int .i64 ok, .int .i64 os, .string oy, .int .i64 ol, .int .i64 of, .string ky, .int .i64 sl], .bool false, .int .i64 ns] w fun e w' => (∃ b, e = .returned (.bool b) ∧ (b = true ↔ RLitP false ns kd tk ts ty tl rl nu xa xn xc na nn nc ok os oy ol of ky sl tx nm)) ∧ Below w.heap.size w w' := by
  have HXN := hid hx
  have HNN := hid hn
  unfold maxLen at hy
  clear hx hn
  have HLX := hid (show Below w.heap.size w (w.alloc (.cells #[.int .i64 kd, .int .i64 tk, .int .i64 ts, .string ty, .int .i64 tl, .int .i64 rl, .int .i64 nu, .slice xa xn xc, .slice na nn nc, .int .i64 ok, .int .i64 os, .string oy, .int .i64 ol, .int .i64 of, .string ky, .int .i64 sl] 49)) from ((Below.refl _ w).alloc (by simp) _))
  have X0 : Bs (w.alloc (.cells #[.int .i64 kd, .int .i64 tk, .int .i64 ts, .string ty, .int .i64 tl, .int .i64 rl, .int .i64 nu, .slice xa xn xc, .slice na nn nc, .int .i64 ok, .int .i64 os, .string oy, .int .i64 ol, .int .i64 of, .string ky, .int .i64 sl] 49)) w.heap.size [.int .i64 kd, .int .i64 tk, .int .i64 ts, .string ty, .int .i64 tl, .int .i64 rl, .int .i64 nu, .slice xa xn xc, .slice na nn nc, .int .i64 ok, .int .i64 os, .string oy, .int .i64 ol, .int .i64 of, .string ky, .int .i64 sl] := by simpa using bs_1_0 w _ _
  go_enter Tryz.func30, Tryz.ntmps30
  go_upto_region 1 with (fail)
  generalize (w.alloc (.cells #[.int .i64 kd, .int .i64 tk, .int .i64 ts, .string ty, .int .i64 tl, .int .i64 rl, .int .i64 nu, .slice xa xn xc, .slice na nn nc, .int .i64 ok, .int .i64 os, .string oy, .int .i64 ol, .int .i64 of, .string ky, .int .i64 sl] 49)) = x0 at *
  have c0 := bs16 X0
  have z0 := X0.1
  have C := hid (rterm_any tk ts ty tl ns false x0 hs)
  go_wp2_with fail
  refine C.out.mono ?_
  rintro e x1 ⟨rfl, hb⟩
  replace HLX := hid (HLX.out.trans (hb.mono HLX.out.size))
  replace X0 := X0.low hb
  clear hb C
  clear c0 z0
  have c0 := bs16 X0
  have z0 := X0.1
  cases h1 : (rteB false ns tk ts ty tl)
  · go_wp2_with fail
    go_ret
    refine ⟨⟨_, rfl, ?_⟩, HLX.out⟩
    clear X0 c0 z0
    unfold RLitP
    simp [k0, k1, k2, k3, k4, k5, k6, k7, h1]
  · go_wp2_with fail
    go_ret
    refine ⟨⟨_, rfl, ?_⟩, HLX.out⟩
    clear X0 c0 z0
    unfold RLitP
    simp [k0, k1, k2, k3, k4, k5, k6, k7, h1]
end Go.Proofs.YtimmjikpcekffaaGreatDoor.L
namespace Go.Proofs.YtimmjikpcekffaaGreatDoor.L
open Go.RowKit
set_option linter.unusedVariables false
set_option linter.unusedSimpArgs false
set_option maxHeartbeats 16000000 in
set_option maxRecDepth 100000 in
theorem rlit_1_0 (ns : Int) (kd tk ts : Int) (ty : ByteArray) (tl rl nu : Int) (xa : Option Addr) (xn xc : Nat) (na : Option Addr) (nn nc : Nat) (ok os : Int) (oy : ByteArray) (ol of : Int) (ky : ByteArray) (sl : Int) (tx : List ByteArray) (nm : List Int) (w : World) (k0 : decide ((127 : Int) < (ky.size : Int)) = true) (hs : ty.size ≤ maxLen) (ho : oy.size ≤ maxLen) (hy : ky.size ≤ maxLen) (hx : xn = tx.length) (hn : nn = nm.length) (rx : RdS w xa tx) (rn : RdI w na nm) (bx : xn ≤ 140737488355328) (bn : nn ≤ 140737488355328) (hz : ∀ k, (tx.getD k ByteArray.empty).size ≤ maxLen) : Calls Tryz.prog 30 #[.agg #[.int .i64 kd, .int .i64 tk, .int .i64 ts, .string ty, .int .i64 tl, .int .i64 rl, .int .i64 nu, .slice xa xn xc, .slice na nn nc, .int .i64 ok, .int .i64 os, .string oy, .int .i64 ol, .int .i64 of, .string ky, .int .i64 sl], .bool true, .int .i64 ns] w fun e w' => (∃ b, e = .returned (.bool b) ∧ (b = true ↔ RLitP true ns kd tk ts ty tl rl nu xa xn xc na nn nc ok os oy ol of ky sl tx nm)) ∧ Below w.heap.size w w' := by
  have HXN := hid hx
  have HNN := hid hn
  unfold maxLen at hy
  clear hx hn
  have HLX := hid (show Below w.heap.size w (w.alloc (.cells #[.int .i64 kd, .int .i64 tk, .int .i64 ts, .string ty, .int .i64 tl, .int .i64 rl, .int .i64 nu, .slice xa xn xc, .slice na nn nc, .int .i64 ok, .int .i64 os, .string oy, .int .i64 ol, .int .i64 of, .string ky, .int .i64 sl] 49)) from ((Below.refl _ w).alloc (by simp) _))
  have X0 : Bs (w.alloc (.cells #[.int .i64 kd, .int .i64 tk, .int .i64 ts, .string ty, .int .i64 tl, .int .i64 rl, .int .i64 nu, .slice xa xn xc, .slice na nn nc, .int .i64 ok, .int .i64 os, .string oy, .int .i64 ol, .int .i64 of, .string ky, .int .i64 sl] 49)) w.heap.size [.int .i64 kd, .int .i64 tk, .int .i64 ts, .string ty, .int .i64 tl, .int .i64 rl, .int .i64 nu, .slice xa xn xc, .slice na nn nc, .int .i64 ok, .int .i64 os, .string oy, .int .i64 ol, .int .i64 of, .string ky, .int .i64 sl] := by simpa using bs_1_0 w _ _
  go_enter Tryz.func30, Tryz.ntmps30
  go_upto_region 1 with (fail)
  generalize (w.alloc (.cells #[.int .i64 kd, .int .i64 tk, .int .i64 ts, .string ty, .int .i64 tl, .int .i64 rl, .int .i64 nu, .slice xa xn xc, .slice na nn nc, .int .i64 ok, .int .i64 os, .string oy, .int .i64 ol, .int .i64 of, .string ky, .int .i64 sl] 49)) = x0 at *
  have c0 := bs16 X0
  have z0 := X0.1
  go_wp2_with fail
  go_ret
  refine ⟨⟨_, rfl, ?_⟩, HLX.out⟩
  clear X0 c0 z0
  unfold RLitP
  simp [k0]
end Go.Proofs.YtimmjikpcekffaaGreatDoor.L
namespace Go.Proofs.YtimmjikpcekffaaGreatDoor.L
open Go.RowKit
set_option linter.unusedVariables false
set_option linter.unusedSimpArgs false
set_option maxHeartbeats 16000000 in
set_option maxRecDepth 100000 in
theorem rlit_1_1 (ns : Int) (kd tk ts : Int) (ty : ByteArray) (tl rl nu : Int) (xa : Option Addr) (xn xc : Nat) (na : Option Addr) (nn nc : Nat) (ok os : Int) (oy : ByteArray) (ol of : Int) (ky : ByteArray) (sl : Int) (tx : List ByteArray) (nm : List Int) (w : World) (k0 : decide ((127 : Int) < (ky.size : Int)) = false) (k1 : (kd == 1) = true) (k2 : (kd == 2) = false) (k3 : (kd == 3) = false) (k4 : (kd == 4) = false) (k5 : (kd == 5) = false) (k6 : (kd == 6) = false) (k7 : (kd == 7) = false) (hs : ty.size ≤ maxLen) (ho : oy.size ≤ maxLen) (hy : ky.size ≤ maxLen) (hx : xn = tx.length) (hn : nn = nm.length) (rx : RdS w xa tx) (rn : RdI w na nm) (bx : xn ≤ 140737488355328) (bn : nn ≤ 140737488355328) (hz : ∀ k, (tx.getD k ByteArray.empty).size ≤ maxLen) : Calls Tryz.prog 30 #[.agg #[.int .i64 kd, .int .i64 tk, .int .i64 ts, .string ty, .int .i64 tl, .int .i64 rl, .int .i64 nu, .slice xa xn xc, .slice na nn nc, .int .i64 ok, .int .i64 os, .string oy, .int .i64 ol, .int .i64 of, .string ky, .int .i64 sl], .bool true, .int .i64 ns] w fun e w' => (∃ b, e = .returned (.bool b) ∧ (b = true ↔ RLitP true ns kd tk ts ty tl rl nu xa xn xc na nn nc ok os oy ol of ky sl tx nm)) ∧ Below w.heap.size w w' := by
  have HXN := hid hx
  have HNN := hid hn
  unfold maxLen at hy
  clear hx hn
  have HLX := hid (show Below w.heap.size w (w.alloc (.cells #[.int .i64 kd, .int .i64 tk, .int .i64 ts, .string ty, .int .i64 tl, .int .i64 rl, .int .i64 nu, .slice xa xn xc, .slice na nn nc, .int .i64 ok, .int .i64 os, .string oy, .int .i64 ol, .int .i64 of, .string ky, .int .i64 sl] 49)) from ((Below.refl _ w).alloc (by simp) _))
  have X0 : Bs (w.alloc (.cells #[.int .i64 kd, .int .i64 tk, .int .i64 ts, .string ty, .int .i64 tl, .int .i64 rl, .int .i64 nu, .slice xa xn xc, .slice na nn nc, .int .i64 ok, .int .i64 os, .string oy, .int .i64 ol, .int .i64 of, .string ky, .int .i64 sl] 49)) w.heap.size [.int .i64 kd, .int .i64 tk, .int .i64 ts, .string ty, .int .i64 tl, .int .i64 rl, .int .i64 nu, .slice xa xn xc, .slice na nn nc, .int .i64 ok, .int .i64 os, .string oy, .int .i64 ol, .int .i64 of, .string ky, .int .i64 sl] := by simpa using bs_1_0 w _ _
  go_enter Tryz.func30, Tryz.ntmps30
  go_upto_region 1 with (fail)
  generalize (w.alloc (.cells #[.int .i64 kd, .int .i64 tk, .int .i64 ts, .string ty, .int .i64 tl, .int .i64 rl, .int .i64 nu, .slice xa xn xc, .slice na nn nc, .int .i64 ok, .int .i64 os, .string oy, .int .i64 ol, .int .i64 of, .string ky, .int .i64 sl] 49)) = x0 at *
  have c0 := bs16 X0
  have z0 := X0.1
  have C := hid (rterm_any tk ts ty tl ns true x0 hs)
  go_wp2_with fail
  refine C.out.mono ?_
  rintro e x1 ⟨rfl, hb⟩
  replace HLX := hid (HLX.out.trans (hb.mono HLX.out.size))
  replace X0 := X0.low hb
  clear hb C
  clear c0 z0
  have c0 := bs16 X0
  have z0 := X0.1
  cases h1 : (rteB true ns tk ts ty tl)
  · go_wp2_with fail
    go_ret
    refine ⟨⟨_, rfl, ?_⟩, HLX.out⟩
    clear X0 c0 z0
    unfold RLitP
    simp [k0, k1, k2, k3, k4, k5, k6, k7, h1]
  · have C := hid (rin_any kd tk ts ty tl rl nu xa xn xc na nn nc ok os oy ol of ky sl tx nm x1 hs ho (by unfold maxLen; exact hy) HXN.out HNN.out (rx.low HLX.out (Nat.le_refl _)) (rn.low HLX.out (Nat.le_refl _)) bx bn hz)
    go_wp2_with fail
    refine C.out.mono ?_
    rintro e x2 ⟨⟨bb, rfl, ebb⟩, hb⟩
    replace HLX := hid (HLX.out.trans (hb.mono HLX.out.size))
    replace X0 := X0.low hb
    clear hb C
    have Eh2 := hid ebb
    clear ebb
    clear c0 z0
    have c0 := bs16 X0
    have z0 := X0.1
    cases bb
    · have H2 := hid (show ¬ (RInP tk xn nn tx nm) from fun h => absurd (Eh2.out.2 h) (by decide))
      clear Eh2
      go_wp2_with fail
      go_ret
      refine ⟨⟨_, rfl, ?_⟩, HLX.out⟩
      have h2 := H2.out
      clear X0 c0 z0
      unfold RLitP
      simp [k0, k1, k2, k3, k4, k5, k6, k7, h1, h2]
    · have H2 := hid (Eh2.out.1 rfl)
      clear Eh2
      have C := hid (rest_sets kd tk ts ty tl rl nu xa xn xc na nn nc ok os oy ol of ky sl x2 bx bn)
      go_wp2_with fail
      refine C.out.mono ?_
      rintro e x3 ⟨⟨bb, rfl, ebb⟩, hb⟩
      replace HLX := hid (HLX.out.trans (hb.mono HLX.out.size))
      replace X0 := X0.low hb
      clear hb C
      have EBB := hid ebb
      clear ebb
      clear c0 z0
      have c0 := bs16 X0
      have z0 := X0.1
      go_wp2_with fail
      go_ret
      refine ⟨⟨_, rfl, ?_⟩, HLX.out⟩
      rw [EBB.out]
      have h2 := H2.out
      clear X0 c0 z0
      unfold RLitP
      simp [k0, k1, k2, k3, k4, k5, k6, k7, h1, h2]
end Go.Proofs.YtimmjikpcekffaaGreatDoor.L
namespace Go.Proofs.YtimmjikpcekffaaGreatDoor.L
open Go.RowKit
set_option linter.unusedVariables false
set_option linter.unusedSimpArgs false
set_option maxHeartbeats 16000000 in
set_option maxRecDepth 100000 in
theorem rlit_1_2 (ns : Int) (kd tk ts : Int) (ty : ByteArray) (tl rl nu : Int) (xa : Option Addr) (xn xc : Nat) (na : Option Addr) (nn nc : Nat) (ok os : Int) (oy : ByteArray) (ol of : Int) (ky : ByteArray) (sl : Int) (tx : List ByteArray) (nm : List Int) (w : World) (k0 : decide ((127 : Int) < (ky.size : Int)) = false) (k1 : (kd == 1) = false) (k2 : (kd == 2) = true) (k3 : (kd == 3) = false) (k4 : (kd == 4) = false) (k5 : (kd == 5) = false) (k6 : (kd == 6) = false) (k7 : (kd == 7) = false) (hs : ty.size ≤ maxLen) (ho : oy.size ≤ maxLen) (hy : ky.size ≤ maxLen) (hx : xn = tx.length) (hn : nn = nm.length) (rx : RdS w xa tx) (rn : RdI w na nm) (bx : xn ≤ 140737488355328) (bn : nn ≤ 140737488355328) (hz : ∀ k, (tx.getD k ByteArray.empty).size ≤ maxLen) : Calls Tryz.prog 30 #[.agg #[.int .i64 kd, .int .i64 tk, .int .i64 ts, .string ty, .int .i64 tl, .int .i64 rl, .int .i64 nu, .slice xa xn xc, .slice na nn nc, .int .i64 ok, .int .i64 os, .string oy, .int .i64 ol, .int .i64 of, .string ky, .int .i64 sl], .bool true, .int .i64 ns] w fun e w' => (∃ b, e = .returned (.bool b) ∧ (b = true ↔ RLitP true ns kd tk ts ty tl rl nu xa xn xc na nn nc ok os oy ol of ky sl tx nm)) ∧ Below w.heap.size w w' := by
  have HXN := hid hx
  have HNN := hid hn
  unfold maxLen at hy
  clear hx hn
  have HLX := hid (show Below w.heap.size w (w.alloc (.cells #[.int .i64 kd, .int .i64 tk, .int .i64 ts, .string ty, .int .i64 tl, .int .i64 rl, .int .i64 nu, .slice xa xn xc, .slice na nn nc, .int .i64 ok, .int .i64 os, .string oy, .int .i64 ol, .int .i64 of, .string ky, .int .i64 sl] 49)) from ((Below.refl _ w).alloc (by simp) _))
  have X0 : Bs (w.alloc (.cells #[.int .i64 kd, .int .i64 tk, .int .i64 ts, .string ty, .int .i64 tl, .int .i64 rl, .int .i64 nu, .slice xa xn xc, .slice na nn nc, .int .i64 ok, .int .i64 os, .string oy, .int .i64 ol, .int .i64 of, .string ky, .int .i64 sl] 49)) w.heap.size [.int .i64 kd, .int .i64 tk, .int .i64 ts, .string ty, .int .i64 tl, .int .i64 rl, .int .i64 nu, .slice xa xn xc, .slice na nn nc, .int .i64 ok, .int .i64 os, .string oy, .int .i64 ol, .int .i64 of, .string ky, .int .i64 sl] := by simpa using bs_1_0 w _ _
  go_enter Tryz.func30, Tryz.ntmps30
  go_upto_region 1 with (fail)
  generalize (w.alloc (.cells #[.int .i64 kd, .int .i64 tk, .int .i64 ts, .string ty, .int .i64 tl, .int .i64 rl, .int .i64 nu, .slice xa xn xc, .slice na nn nc, .int .i64 ok, .int .i64 os, .string oy, .int .i64 ol, .int .i64 of, .string ky, .int .i64 sl] 49)) = x0 at *
  have c0 := bs16 X0
  have z0 := X0.1
  have C := hid (rterm_any tk ts ty tl ns true x0 hs)
  go_wp2_with fail
  refine C.out.mono ?_
  rintro e x1 ⟨rfl, hb⟩
  replace HLX := hid (HLX.out.trans (hb.mono HLX.out.size))
  replace X0 := X0.low hb
  clear hb C
  clear c0 z0
  have c0 := bs16 X0
  have z0 := X0.1
  cases h1 : (rteB true ns tk ts ty tl)
  · go_wp2_with fail
    go_ret
    refine ⟨⟨_, rfl, ?_⟩, HLX.out⟩
    clear X0 c0 z0
    unfold RLitP
    simp [k0, k1, k2, k3, k4, k5, k6, k7, h1]
  · have C := hid (rrel_any kd tk ts ty tl rl nu xa xn xc na nn nc ok os oy ol of ky sl x1)
    go_wp2_with fail
    refine C.out.mono ?_
    rintro e x2 ⟨rfl, hb⟩
    replace HLX := hid (HLX.out.trans (hb.mono HLX.out.size))
    replace X0 := X0.low hb
    clear hb C
    clear c0 z0
    have c0 := bs16 X0
    have z0 := X0.1
    cases h2 : (rreB tk rl nu)
    · go_wp2_with fail
      go_ret
      refine ⟨⟨_, rfl, ?_⟩, HLX.out⟩
      clear X0 c0 z0
      unfold RLitP
      simp [k0, k1, k2, k3, k4, k5, k6, k7, h1, h2]
    · have C := hid (rest_num kd tk ts ty tl rl nu xa xn xc na nn nc ok os oy ol of ky sl x2 bx bn)
      go_wp2_with fail
      refine C.out.mono ?_
      rintro e x3 ⟨⟨bb, rfl, ebb⟩, hb⟩
      replace HLX := hid (HLX.out.trans (hb.mono HLX.out.size))
      replace X0 := X0.low hb
      clear hb C
      have EBB := hid ebb
      clear ebb
      clear c0 z0
      have c0 := bs16 X0
      have z0 := X0.1
      go_wp2_with fail
      go_ret
      refine ⟨⟨_, rfl, ?_⟩, HLX.out⟩
      rw [EBB.out]
      clear X0 c0 z0
      unfold RLitP
      simp [k0, k1, k2, k3, k4, k5, k6, k7, h1, h2]
end Go.Proofs.YtimmjikpcekffaaGreatDoor.L
