import Derived.Test.YtimmjikpcekffaaGreatDoorNv5
namespace Go.Proofs.YtimmjikpcekffaaGreatDoor.L
open Go.RowKit
set_option linter.unusedVariables false
set_option linter.unusedSimpArgs false
def pdB (mv ns : Int) (kd tk ts : Int) (ty : ByteArray) (tl rl nu : Int) (xa : Option Addr) (xn xc : Nat) (na : Option Addr) (nn nc : Nat) (ok os : Int) (oy : ByteArray) (ol of : Int) (ky : ByteArray) (sl : Int) : Bool := if os == 1 then (if ttB mv tk ts ty tl then rl == 1 && ttB mv ok os oy ol else tnB mv ns tk ts ty tl && ((rl == 1 || (decide (3 ≤ rl) && decide (rl ≤ 6))) && (ok == 4 && tnB mv ns ok os oy ol))) else false
def kyB (mv : Int) (tk ts : Int) (ty : ByteArray) (tl of : Int) : Bool := if of == 1 then tsB mv tk ts ty tl || ttB mv tk ts ty tl else if of == mv then tsB mv tk ts ty tl else false
set_option maxHeartbeats 4000000 in
set_option maxRecDepth 100000 in
theorem tpod_any (mv ns : Int) (kd tk ts : Int) (ty : ByteArray) (tl rl nu : Int) (xa : Option Addr) (xn xc : Nat) (na : Option Addr) (nn nc : Nat) (ok os : Int) (oy : ByteArray) (ol of : Int) (ky : ByteArray) (sl : Int) (w : World) (hs : ty.size ≤ maxLen) (ho : oy.size ≤ maxLen) : Calls Tryz.prog 87 #[.agg #[.int .i64 mv, .int .i64 ns], .agg #[.int .i64 kd, .int .i64 tk, .int .i64 ts, .string ty, .int .i64 tl, .int .i64 rl, .int .i64 nu, .slice xa xn xc, .slice na nn nc, .int .i64 ok, .int .i64 os, .string oy, .int .i64 ol, .int .i64 of, .string ky, .int .i64 sl]] w fun e w' => e = .returned (.bool (pdB mv ns kd tk ts ty tl rl nu xa xn xc na nn nc ok os oy ol of ky sl)) ∧ Below w.heap.size w w' := by
  have HLX := hid (show Below w.heap.size w ((w.alloc (.cells #[.int .i64 mv, .int .i64 ns] 61)).alloc (.cells #[.int .i64 kd, .int .i64 tk, .int .i64 ts, .string ty, .int .i64 tl, .int .i64 rl, .int .i64 nu, .slice xa xn xc, .slice na nn nc, .int .i64 ok, .int .i64 os, .string oy, .int .i64 ol, .int .i64 of, .string ky, .int .i64 sl] 49)) from (((Below.refl _ w).alloc (by simp) _).alloc (by simp) _))
  have X0 : Bs ((w.alloc (.cells #[.int .i64 mv, .int .i64 ns] 61)).alloc (.cells #[.int .i64 kd, .int .i64 tk, .int .i64 ts, .string ty, .int .i64 tl, .int .i64 rl, .int .i64 nu, .slice xa xn xc, .slice na nn nc, .int .i64 ok, .int .i64 os, .string oy, .int .i64 ol, .int .i64 of, .string ky, .int .i64 sl] 49)) w.heap.size [.int .i64 mv, .int .i64 ns] := by simpa using bs_2_0 w _ _ _ _
  have X1 : Bs ((w.alloc (.cells #[.int .i64 mv, .int .i64 ns] 61)).alloc (.cells #[.int .i64 kd, .int .i64 tk, .int .i64 ts, .string ty, .int .i64 tl, .int .i64 rl, .int .i64 nu, .slice xa xn xc, .slice na nn nc, .int .i64 ok, .int .i64 os, .string oy, .int .i64 ol, .int .i64 of, .string ky, .int .i64 sl] 49)) (w.heap.size + 1) [.int .i64 kd, .int .i64 tk, .int .i64 ts, .string ty, .int .i64 tl, .int .i64 rl, .int .i64 nu, .slice xa xn xc, .slice na nn nc, .int .i64 ok, .int .i64 os, .string oy, .int .i64 ol, .int .i64 of, .string ky, .int .i64 sl] := by simpa using bs_2_1 w _ _ _ _
  go_enter Tryz.func87, Tryz.ntmps87
  go_upto_region 1 with (fail)
  generalize ((w.alloc (.cells #[.int .i64 mv, .int .i64 ns] 61)).alloc (.cells #[.int .i64 kd, .int .i64 tk, .int .i64 ts, .string ty, .int .i64 tl, .int .i64 rl, .int .i64 nu, .slice xa xn xc, .slice na nn nc, .int .i64 ok, .int .i64 os, .string oy, .int .i64 ol, .int .i64 of, .string ky, .int .i64 sl] 49)) = x0 at *
  have c0 := bs2 X0
  have z0 := X0.1
  have c1 := bs16 X1
  have z1 := X1.1
  cases h1 : (os == 1)
  · go_wp2_with fail
    go_ret
    exact ⟨by first | rfl | (simp [pdB, h1]), HLX.out⟩
  · have C := hid (ttext_any mv ns tk ts ty tl x0 hs)
    go_wp2_with fail
    refine C.out.mono ?_
    rintro e x1 ⟨rfl, hb⟩
    replace HLX := hid (HLX.out.trans (hb.mono HLX.out.size))
    replace X0 := X0.low hb
    replace X1 := X1.low hb
    clear hb C
    clear c0 z0
    have c0 := bs2 X0
    have z0 := X0.1
    clear c1 z1
    have c1 := bs16 X1
    have z1 := X1.1
    cases h2 : (ttB mv tk ts ty tl)
    · cases h3 : (rl == 1)
      · cases h4 : (decide (3 ≤ rl))
        · have C := hid (tnum_any mv ns tk ts ty tl x1 hs)
          go_wp2_with fail
          refine C.out.mono ?_
          rintro e x2 ⟨rfl, hb⟩
          replace HLX := hid (HLX.out.trans (hb.mono HLX.out.size))
          replace X0 := X0.low hb
          replace X1 := X1.low hb
          clear hb C
          clear c0 z0
          have c0 := bs2 X0
          have z0 := X0.1
          clear c1 z1
          have c1 := bs16 X1
          have z1 := X1.1
          cases h5 : (tnB mv ns tk ts ty tl)
          · go_wp2_with fail
            go_ret
            exact ⟨by first | rfl | (simp [pdB, h1, h2, h3, h4, h5]), HLX.out⟩
          · go_wp2_with fail
            go_ret
            exact ⟨by first | rfl | (simp [pdB, h1, h2, h3, h4, h5]), HLX.out⟩
        · cases h6 : (decide (rl ≤ 6))
          · have C := hid (tnum_any mv ns tk ts ty tl x1 hs)
            go_wp2_with fail
            refine C.out.mono ?_
            rintro e x2 ⟨rfl, hb⟩
            replace HLX := hid (HLX.out.trans (hb.mono HLX.out.size))
            replace X0 := X0.low hb
            replace X1 := X1.low hb
            clear hb C
            clear c0 z0
            have c0 := bs2 X0
            have z0 := X0.1
            clear c1 z1
            have c1 := bs16 X1
            have z1 := X1.1
            cases h7 : (tnB mv ns tk ts ty tl)
            · go_wp2_with fail
              go_ret
              exact ⟨by first | rfl | (simp [pdB, h1, h2, h3, h4, h6, h7]), HLX.out⟩
            · go_wp2_with fail
              go_ret
              exact ⟨by first | rfl | (simp [pdB, h1, h2, h3, h4, h6, h7]), HLX.out⟩
          · have C := hid (tnum_any mv ns tk ts ty tl x1 hs)
            go_wp2_with fail
            refine C.out.mono ?_
            rintro e x2 ⟨rfl, hb⟩
            replace HLX := hid (HLX.out.trans (hb.mono HLX.out.size))
            replace X0 := X0.low hb
            replace X1 := X1.low hb
            clear hb C
            clear c0 z0
            have c0 := bs2 X0
            have z0 := X0.1
            clear c1 z1
            have c1 := bs16 X1
            have z1 := X1.1
            cases h8 : (tnB mv ns tk ts ty tl)
            · go_wp2_with fail
              go_ret
              exact ⟨by first | rfl | (simp [pdB, h1, h2, h3, h4, h6, h8]), HLX.out⟩
            · cases h9 : (ok == 4)
              · go_wp2_with fail
                go_ret
                exact ⟨by first | rfl | (simp [pdB, h1, h2, h3, h4, h6, h8, h9]), HLX.out⟩
              · have C := hid (tnum_any mv ns ok os oy ol x2 ho)
                go_wp2_with fail
                refine C.out.mono ?_
                rintro e x3 ⟨rfl, hb⟩
                replace HLX := hid (HLX.out.trans (hb.mono HLX.out.size))
                replace X0 := X0.low hb
                replace X1 := X1.low hb
                clear hb C
                clear c0 z0
                have c0 := bs2 X0
                have z0 := X0.1
                clear c1 z1
                have c1 := bs16 X1
                have z1 := X1.1
                cases h10 : (tnB mv ns ok os oy ol)
                · go_wp2_with fail
                  go_ret
                  exact ⟨by first | rfl | (simp [pdB, h1, h2, h3, h4, h6, h8, h9, h10]), HLX.out⟩
                · go_wp2_with fail
                  go_ret
                  exact ⟨by first | rfl | (simp [pdB, h1, h2, h3, h4, h6, h8, h9, h10]), HLX.out⟩
      · cases h11 : (decide (3 ≤ rl))
        · have C := hid (tnum_any mv ns tk ts ty tl x1 hs)
          go_wp2_with fail
          refine C.out.mono ?_
          rintro e x2 ⟨rfl, hb⟩
          replace HLX := hid (HLX.out.trans (hb.mono HLX.out.size))
          replace X0 := X0.low hb
          replace X1 := X1.low hb
          clear hb C
          clear c0 z0
          have c0 := bs2 X0
          have z0 := X0.1
          clear c1 z1
          have c1 := bs16 X1
          have z1 := X1.1
          cases h12 : (tnB mv ns tk ts ty tl)
          · go_wp2_with fail
            go_ret
            exact ⟨by first | rfl | (simp [pdB, h1, h2, h3, h11, h12]), HLX.out⟩
          · cases h13 : (ok == 4)
            · go_wp2_with fail
              go_ret
              exact ⟨by first | rfl | (simp [pdB, h1, h2, h3, h11, h12, h13]), HLX.out⟩
            · have C := hid (tnum_any mv ns ok os oy ol x2 ho)
              go_wp2_with fail
              refine C.out.mono ?_
              rintro e x3 ⟨rfl, hb⟩
              replace HLX := hid (HLX.out.trans (hb.mono HLX.out.size))
              replace X0 := X0.low hb
              replace X1 := X1.low hb
              clear hb C
              clear c0 z0
              have c0 := bs2 X0
              have z0 := X0.1
              clear c1 z1
              have c1 := bs16 X1
              have z1 := X1.1
              cases h14 : (tnB mv ns ok os oy ol)
              · go_wp2_with fail
                go_ret
                exact ⟨by first | rfl | (simp [pdB, h1, h2, h3, h11, h12, h13, h14]), HLX.out⟩
              · go_wp2_with fail
                go_ret
                exact ⟨by first | rfl | (simp [pdB, h1, h2, h3, h11, h12, h13, h14]), HLX.out⟩
        · cases h15 : (decide (rl ≤ 6))
          · have C := hid (tnum_any mv ns tk ts ty tl x1 hs)
            go_wp2_with fail
            refine C.out.mono ?_
            rintro e x2 ⟨rfl, hb⟩
            replace HLX := hid (HLX.out.trans (hb.mono HLX.out.size))
            replace X0 := X0.low hb
            replace X1 := X1.low hb
            clear hb C
            clear c0 z0
            have c0 := bs2 X0
            have z0 := X0.1
            clear c1 z1
            have c1 := bs16 X1
            have z1 := X1.1
            cases h16 : (tnB mv ns tk ts ty tl)
            · go_wp2_with fail
              go_ret
              exact ⟨by first | rfl | (simp [pdB, h1, h2, h3, h11, h15, h16]), HLX.out⟩
            · cases h17 : (ok == 4)
              · go_wp2_with fail
                go_ret
                exact ⟨by first | rfl | (simp [pdB, h1, h2, h3, h11, h15, h16, h17]), HLX.out⟩
              · have C := hid (tnum_any mv ns ok os oy ol x2 ho)
                go_wp2_with fail
                refine C.out.mono ?_
                rintro e x3 ⟨rfl, hb⟩
                replace HLX := hid (HLX.out.trans (hb.mono HLX.out.size))
                replace X0 := X0.low hb
                replace X1 := X1.low hb
                clear hb C
                clear c0 z0
                have c0 := bs2 X0
                have z0 := X0.1
                clear c1 z1
                have c1 := bs16 X1
                have z1 := X1.1
                cases h18 : (tnB mv ns ok os oy ol)
                · go_wp2_with fail
                  go_ret
                  exact ⟨by first | rfl | (simp [pdB, h1, h2, h3, h11, h15, h16, h17, h18]), HLX.out⟩
                · go_wp2_with fail
                  go_ret
                  exact ⟨by first | rfl | (simp [pdB, h1, h2, h3, h11, h15, h16, h17, h18]), HLX.out⟩
          · have C := hid (tnum_any mv ns tk ts ty tl x1 hs)
            go_wp2_with fail
            refine C.out.mono ?_
            rintro e x2 ⟨rfl, hb⟩
            replace HLX := hid (HLX.out.trans (hb.mono HLX.out.size))
            replace X0 := X0.low hb
            replace X1 := X1.low hb
            clear hb C
            clear c0 z0
            have c0 := bs2 X0
            have z0 := X0.1
            clear c1 z1
            have c1 := bs16 X1
            have z1 := X1.1
            cases h19 : (tnB mv ns tk ts ty tl)
            · go_wp2_with fail
              go_ret
              exact ⟨by first | rfl | (simp [pdB, h1, h2, h3, h11, h15, h19]), HLX.out⟩
            · cases h20 : (ok == 4)
              · go_wp2_with fail
                go_ret
                exact ⟨by first | rfl | (simp [pdB, h1, h2, h3, h11, h15, h19, h20]), HLX.out⟩
              · have C := hid (tnum_any mv ns ok os oy ol x2 ho)
                go_wp2_with fail
                refine C.out.mono ?_
                rintro e x3 ⟨rfl, hb⟩
                replace HLX := hid (HLX.out.trans (hb.mono HLX.out.size))
                replace X0 := X0.low hb
                replace X1 := X1.low hb
                clear hb C
                clear c0 z0
                have c0 := bs2 X0
                have z0 := X0.1
                clear c1 z1
                have c1 := bs16 X1
                have z1 := X1.1
                cases h21 : (tnB mv ns ok os oy ol)
                · go_wp2_with fail
                  go_ret
                  exact ⟨by first | rfl | (simp [pdB, h1, h2, h3, h11, h15, h19, h20, h21]), HLX.out⟩
                · go_wp2_with fail
                  go_ret
                  exact ⟨by first | rfl | (simp [pdB, h1, h2, h3, h11, h15, h19, h20, h21]), HLX.out⟩
    · cases h22 : (rl == 1)
      · go_wp2_with fail
        go_ret
        exact ⟨by first | rfl | (simp [pdB, h1, h2, h22]), HLX.out⟩
      · have C := hid (ttext_any mv ns ok os oy ol x1 ho)
        go_wp2_with fail
        refine C.out.mono ?_
        rintro e x2 ⟨rfl, hb⟩
        replace HLX := hid (HLX.out.trans (hb.mono HLX.out.size))
        replace X0 := X0.low hb
        replace X1 := X1.low hb
        clear hb C
        clear c0 z0
        have c0 := bs2 X0
        have z0 := X0.1
        clear c1 z1
        have c1 := bs16 X1
        have z1 := X1.1
        cases h23 : (ttB mv ok os oy ol)
        · go_wp2_with fail
          go_ret
          exact ⟨by first | rfl | (simp [pdB, h1, h2, h22, h23]), HLX.out⟩
        · go_wp2_with fail
          go_ret
          exact ⟨by first | rfl | (simp [pdB, h1, h2, h22, h23]), HLX.out⟩
set_option maxHeartbeats 4000000 in
set_option maxRecDepth 100000 in
theorem tkeys_any (mv ns : Int) (kd tk ts : Int) (ty : ByteArray) (tl rl nu : Int) (xa : Option Addr) (xn xc : Nat) (na : Option Addr) (nn nc : Nat) (ok os : Int) (oy : ByteArray) (ol of : Int) (ky : ByteArray) (sl : Int) (w : World) (hs : ty.size ≤ maxLen) : Calls Tryz.prog 88 #[.agg #[.int .i64 mv, .int .i64 ns], .agg #[.int .i64 kd, .int .i64 tk, .int .i64 ts, .string ty, .int .i64 tl, .int .i64 rl, .int .i64 nu, .slice xa xn xc, .slice na nn nc, .int .i64 ok, .int .i64 os, .string oy, .int .i64 ol, .int .i64 of, .string ky, .int .i64 sl]] w fun e w' => e = .returned (.bool (kyB mv tk ts ty tl of)) ∧ Below w.heap.size w w' := by
  have HLX := hid (show Below w.heap.size w ((w.alloc (.cells #[.int .i64 mv, .int .i64 ns] 61)).alloc (.cells #[.int .i64 kd, .int .i64 tk, .int .i64 ts, .string ty, .int .i64 tl, .int .i64 rl, .int .i64 nu, .slice xa xn xc, .slice na nn nc, .int .i64 ok, .int .i64 os, .string oy, .int .i64 ol, .int .i64 of, .string ky, .int .i64 sl] 49)) from (((Below.refl _ w).alloc (by simp) _).alloc (by simp) _))
  have X0 : Bs ((w.alloc (.cells #[.int .i64 mv, .int .i64 ns] 61)).alloc (.cells #[.int .i64 kd, .int .i64 tk, .int .i64 ts, .string ty, .int .i64 tl, .int .i64 rl, .int .i64 nu, .slice xa xn xc, .slice na nn nc, .int .i64 ok, .int .i64 os, .string oy, .int .i64 ol, .int .i64 of, .string ky, .int .i64 sl] 49)) w.heap.size [.int .i64 mv, .int .i64 ns] := by simpa using bs_2_0 w _ _ _ _
  have X1 : Bs ((w.alloc (.cells #[.int .i64 mv, .int .i64 ns] 61)).alloc (.cells #[.int .i64 kd, .int .i64 tk, .int .i64 ts, .string ty, .int .i64 tl, .int .i64 rl, .int .i64 nu, .slice xa xn xc, .slice na nn nc, .int .i64 ok, .int .i64 os, .string oy, .int .i64 ol, .int .i64 of, .string ky, .int .i64 sl] 49)) (w.heap.size + 1) [.int .i64 kd, .int .i64 tk, .int .i64 ts, .string ty, .int .i64 tl, .int .i64 rl, .int .i64 nu, .slice xa xn xc, .slice na nn nc, .int .i64 ok, .int .i64 os, .string oy, .int .i64 ol, .int .i64 of, .string ky, .int .i64 sl] := by simpa using bs_2_1 w _ _ _ _
  go_enter Tryz.func88, Tryz.ntmps88
  go_upto_region 1 with (fail)
  generalize ((w.alloc (.cells #[.int .i64 mv, .int .i64 ns] 61)).alloc (.cells #[.int .i64 kd, .int .i64 tk, .int .i64 ts, .string ty, .int .i64 tl, .int .i64 rl, .int .i64 nu, .slice xa xn xc, .slice na nn nc, .int .i64 ok, .int .i64 os, .string oy, .int .i64 ol, .int .i64 of, .string ky, .int .i64 sl] 49)) = x0 at *
  have c0 := bs2 X0
  have z0 := X0.1
  have c1 := bs16 X1
  have z1 := X1.1
  cases h1 : (of == 1)
  · cases h2 : (of == mv)
    · go_wp2_with fail
      go_ret
      exact ⟨by first | rfl | (simp [kyB, h1, h2]), HLX.out⟩
    · have C := hid (tsought_any mv ns tk ts ty tl x0 hs)
      go_wp2_with fail
      refine C.out.mono ?_
      rintro e x1 ⟨rfl, hb⟩
      replace HLX := hid (HLX.out.trans (hb.mono HLX.out.size))
      replace X0 := X0.low hb
      replace X1 := X1.low hb
      clear hb C
      clear c0 z0
      have c0 := bs2 X0
      have z0 := X0.1
      clear c1 z1
      have c1 := bs16 X1
      have z1 := X1.1
      cases h3 : (tsB mv tk ts ty tl)
      · go_wp2_with fail
        go_ret
        exact ⟨by first | rfl | (simp [kyB, h1, h2, h3]), HLX.out⟩
      · go_wp2_with fail
        go_ret
        exact ⟨by first | rfl | (simp [kyB, h1, h2, h3]), HLX.out⟩
  · have C := hid (tsought_any mv ns tk ts ty tl x0 hs)
    go_wp2_with fail
    refine C.out.mono ?_
    rintro e x1 ⟨rfl, hb⟩
    replace HLX := hid (HLX.out.trans (hb.mono HLX.out.size))
    replace X0 := X0.low hb
    replace X1 := X1.low hb
    clear hb C
    clear c0 z0
    have c0 := bs2 X0
    have z0 := X0.1
    clear c1 z1
    have c1 := bs16 X1
    have z1 := X1.1
    cases h4 : (tsB mv tk ts ty tl)
    · have C := hid (ttext_any mv ns tk ts ty tl x1 hs)
      go_wp2_with fail
      refine C.out.mono ?_
      rintro e x2 ⟨rfl, hb⟩
      replace HLX := hid (HLX.out.trans (hb.mono HLX.out.size))
      replace X0 := X0.low hb
      replace X1 := X1.low hb
      clear hb C
      clear c0 z0
      have c0 := bs2 X0
      have z0 := X0.1
      clear c1 z1
      have c1 := bs16 X1
      have z1 := X1.1
      cases h5 : (ttB mv tk ts ty tl)
      · go_wp2_with fail
        go_ret
        exact ⟨by first | rfl | (simp [kyB, h1, h4, h5]), HLX.out⟩
      · go_wp2_with fail
        go_ret
        exact ⟨by first | rfl | (simp [kyB, h1, h4, h5]), HLX.out⟩
    · go_wp2_with fail
      go_ret
      exact ⟨by first | rfl | (simp [kyB, h1, h4]), HLX.out⟩
end Go.Proofs.YtimmjikpcekffaaGreatDoor.L
