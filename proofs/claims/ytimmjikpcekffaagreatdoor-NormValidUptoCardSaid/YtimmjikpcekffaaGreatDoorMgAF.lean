import Derived.Test.YtimmjikpcekffaaGreatDoorMgAE
namespace Go.Proofs.YtimmjikpcekffaaGreatDoor.L
open Go.RowKit
set_option linter.unusedVariables false
set_option linter.unusedSimpArgs false
/-- A LitIn, as the document has it. -/
def RInP (tk : Int) (xn nn : Nat) (tx : List ByteArray) (nm : List Int) : Prop :=
  if rtxB tk = true then ((nn : Int) == 0) = true ∧ RtP tx else rnuB tk = true ∧ ((xn : Int) == 0) = true ∧ RnP nm
/-- A LitRel. -/
def rreB (tk rl nu : Int) : Bool := rnuB tk && (if rl == 4 then decide (-1000000000000000000 ≤ nu) && decide (nu ≤ 999999999999999999) else rl == 6 && (decide (-999999999999999999 ≤ nu) && decide (nu ≤ 1000000000000000000)))
/-- A LitPod. -/
def rpoB (tk rl ok os : Int) : Bool := if os == 1 then (if rtxB tk then rl == 1 && rtxB ok else rnuB tk && (ok == 4 && (decide (1 ≤ rl) && (decide (rl ≤ 6) && (rl != 2))))) else false
set_option maxHeartbeats 16000000 in
set_option maxRecDepth 100000 in
theorem rin_any (kd tk ts : Int) (ty : ByteArray) (tl rl nu : Int) (xa : Option Addr) (xn xc : Nat) (na : Option Addr) (nn nc : Nat) (ok os : Int) (oy : ByteArray) (ol of : Int) (ky : ByteArray) (sl : Int) (tx : List ByteArray) (nm : List Int) (w : World) (hs : ty.size ≤ maxLen) (ho : oy.size ≤ maxLen) (hy : ky.size ≤ maxLen) (hx : xn = tx.length) (hn : nn = nm.length) (rx : RdS w xa tx) (rn : RdI w na nm) (bx : xn ≤ 140737488355328) (bn : nn ≤ 140737488355328) (hz : ∀ k, (tx.getD k ByteArray.empty).size ≤ maxLen) : Calls Tryz.prog 49 #[.agg #[.int .i64 kd, .int .i64 tk, .int .i64 ts, .string ty, .int .i64 tl, .int .i64 rl, .int .i64 nu, .slice xa xn xc, .slice na nn nc, .int .i64 ok, .int .i64 os, .string oy, .int .i64 ol, .int .i64 of, .string ky, .int .i64 sl]] w fun e w' => (∃ b, e = .returned (.bool b) ∧ (b = true ↔ RInP tk xn nn tx nm)) ∧ Below w.heap.size w w' := by
  have HXN := hid hx
  have HNN := hid hn
  clear hx hn
  have HLX := hid (show Below w.heap.size w (w.alloc (.cells #[.int .i64 kd, .int .i64 tk, .int .i64 ts, .string ty, .int .i64 tl, .int .i64 rl, .int .i64 nu, .slice xa xn xc, .slice na nn nc, .int .i64 ok, .int .i64 os, .string oy, .int .i64 ol, .int .i64 of, .string ky, .int .i64 sl] 49)) from ((Below.refl _ w).alloc (by simp) _))
  have X0 : Bs (w.alloc (.cells #[.int .i64 kd, .int .i64 tk, .int .i64 ts, .string ty, .int .i64 tl, .int .i64 rl, .int .i64 nu, .slice xa xn xc, .slice na nn nc, .int .i64 ok, .int .i64 os, .string oy, .int .i64 ol, .int .i64 of, .string ky, .int .i64 sl] 49)) w.heap.size [.int .i64 kd, .int .i64 tk, .int .i64 ts, .string ty, .int .i64 tl, .int .i64 rl, .int .i64 nu, .slice xa xn xc, .slice na nn nc, .int .i64 ok, .int .i64 os, .string oy, .int .i64 ol, .int .i64 of, .string ky, .int .i64 sl] := by simpa using bs_1_0 w _ _
  go_enter Tryz.func49, Tryz.ntmps49
  go_upto_region 1 with (fail)
  generalize (w.alloc (.cells #[.int .i64 kd, .int .i64 tk, .int .i64 ts, .string ty, .int .i64 tl, .int .i64 rl, .int .i64 nu, .slice xa xn xc, .slice na nn nc, .int .i64 ok, .int .i64 os, .string oy, .int .i64 ol, .int .i64 of, .string ky, .int .i64 sl] 49)) = x0 at *
  have c0 := bs16 X0
  have z0 := X0.1
  have C := hid (rtext_of tk ts ty tl x0)
  go_wp2_with fail
  refine C.out.mono ?_
  rintro e x1 ⟨rfl, hb⟩
  replace HLX := hid (HLX.out.trans (hb.mono HLX.out.size))
  replace X0 := X0.low hb
  clear hb C
  clear c0 z0
  have c0 := bs16 X0
  have z0 := X0.1
  cases h1 : (rtxB tk)
  · have C := hid (rnumber_of tk ts ty tl x1)
    go_wp2_with fail
    refine C.out.mono ?_
    rintro e x2 ⟨rfl, hb⟩
    replace HLX := hid (HLX.out.trans (hb.mono HLX.out.size))
    replace X0 := X0.low hb
    clear hb C
    clear c0 z0
    have c0 := bs16 X0
    have z0 := X0.1
    cases h2 : (rnuB tk)
    · go_wp2_with fail
      go_ret
      refine ⟨⟨_, rfl, ?_⟩, HLX.out⟩
      clear X0 c0 z0
      unfold RInP
      simp [h1, h2]
    · cases h3 : (((xn : Int) == 0))
      · go_wp2_with fail
        go_ret
        refine ⟨⟨_, rfl, ?_⟩, HLX.out⟩
        clear X0 c0 z0
        unfold RInP
        simp [h1, h2, h3]
      · have C := hid (rrises_i na nc nn nm HNN.out x2 (rn.low HLX.out (Nat.le_refl _)) bn)
        go_wp2_with fail
        refine C.out.mono ?_
        rintro e x3 ⟨⟨bb, rfl, ebb⟩, hb⟩
        replace HLX := hid (HLX.out.trans (hb.mono HLX.out.size))
        replace X0 := X0.low hb
        clear hb C
        have EBB := hid ebb
        clear ebb
        clear c0 z0
        have c0 := bs16 X0
        have z0 := X0.1
        go_wp2_with fail
        go_ret
        refine ⟨⟨_, rfl, ?_⟩, HLX.out⟩
        rw [EBB.out]
        clear X0 c0 z0
        unfold RInP
        simp [h1, h2, h3]
  · cases h4 : (((nn : Int) == 0))
    · go_wp2_with fail
      go_ret
      refine ⟨⟨_, rfl, ?_⟩, HLX.out⟩
      clear X0 c0 z0
      unfold RInP
      simp [h1, h4]
    · have C := hid (rrises_s xa xc xn tx HXN.out x1 (rx.low HLX.out (Nat.le_refl _)) bx hz)
      go_wp2_with fail
      refine C.out.mono ?_
      rintro e x2 ⟨⟨bb, rfl, ebb⟩, hb⟩
      replace HLX := hid (HLX.out.trans (hb.mono HLX.out.size))
      replace X0 := X0.low hb
      clear hb C
      have EBB := hid ebb
      clear ebb
      clear c0 z0
      have c0 := bs16 X0
      have z0 := X0.1
      go_wp2_with fail
      go_ret
      refine ⟨⟨_, rfl, ?_⟩, HLX.out⟩
      rw [EBB.out]
      clear X0 c0 z0
      unfold RInP
      simp [h1, h4]
set_option maxHeartbeats 4000000 in
set_option maxRecDepth 100000 in
theorem rrel_any (kd tk ts : Int) (ty : ByteArray) (tl rl nu : Int) (xa : Option Addr) (xn xc : Nat) (na : Option Addr) (nn nc : Nat) (ok os : Int) (oy : ByteArray) (ol of : Int) (ky : ByteArray) (sl : Int) (w : World)  : Calls Tryz.prog 50 #[.agg #[.int .i64 kd, .int .i64 tk, .int .i64 ts, .string ty, .int .i64 tl, .int .i64 rl, .int .i64 nu, .slice xa xn xc, .slice na nn nc, .int .i64 ok, .int .i64 os, .string oy, .int .i64 ol, .int .i64 of, .string ky, .int .i64 sl]] w fun e w' => e = .returned (.bool (rreB tk rl nu)) ∧ Below w.heap.size w w' := by
  have HLX := hid (show Below w.heap.size w (w.alloc (.cells #[.int .i64 kd, .int .i64 tk, .int .i64 ts, .string ty, .int .i64 tl, .int .i64 rl, .int .i64 nu, .slice xa xn xc, .slice na nn nc, .int .i64 ok, .int .i64 os, .string oy, .int .i64 ol, .int .i64 of, .string ky, .int .i64 sl] 49)) from ((Below.refl _ w).alloc (by simp) _))
  have X0 : Bs (w.alloc (.cells #[.int .i64 kd, .int .i64 tk, .int .i64 ts, .string ty, .int .i64 tl, .int .i64 rl, .int .i64 nu, .slice xa xn xc, .slice na nn nc, .int .i64 ok, .int .i64 os, .string oy, .int .i64 ol, .int .i64 of, .string ky, .int .i64 sl] 49)) w.heap.size [.int .i64 kd, .int .i64 tk, .int .i64 ts, .string ty, .int .i64 tl, .int .i64 rl, .int .i64 nu, .slice xa xn xc, .slice na nn nc, .int .i64 ok, .int .i64 os, .string oy, .int .i64 ol, .int .i64 of, .string ky, .int .i64 sl] := by simpa using bs_1_0 w _ _
  go_enter Tryz.func50, Tryz.ntmps50
  go_upto_region 1 with (fail)
  generalize (w.alloc (.cells #[.int .i64 kd, .int .i64 tk, .int .i64 ts, .string ty, .int .i64 tl, .int .i64 rl, .int .i64 nu, .slice xa xn xc, .slice na nn nc, .int .i64 ok, .int .i64 os, .string oy, .int .i64 ol, .int .i64 of, .string ky, .int .i64 sl] 49)) = x0 at *
  have c0 := bs16 X0
  have z0 := X0.1
  have C := hid (rnumber_of tk ts ty tl x0)
  go_wp2_with fail
  refine C.out.mono ?_
  rintro e x1 ⟨rfl, hb⟩
  replace HLX := hid (HLX.out.trans (hb.mono HLX.out.size))
  replace X0 := X0.low hb
  clear hb C
  clear c0 z0
  have c0 := bs16 X0
  have z0 := X0.1
  cases h1 : (rnuB tk)
  · go_wp2_with fail
    go_ret
    exact ⟨by first | rfl | (simp [rreB, h1]), HLX.out⟩
  · cases h2 : (rl == 4)
    · cases h3 : (rl == 6)
      · go_wp2_with fail
        go_ret
        exact ⟨by first | rfl | (simp [rreB, h1, h2, h3]), HLX.out⟩
      · cases h4 : (decide (-999999999999999999 ≤ nu))
        · go_wp2_with fail
          go_ret
          exact ⟨by first | rfl | (simp [rreB, h1, h2, h3, h4]), HLX.out⟩
        · cases h5 : (decide (nu ≤ 1000000000000000000))
          · go_wp2_with fail
            go_ret
            exact ⟨by first | rfl | (simp [rreB, h1, h2, h3, h4, h5]), HLX.out⟩
          · go_wp2_with fail
            go_ret
            exact ⟨by first | rfl | (simp [rreB, h1, h2, h3, h4, h5]), HLX.out⟩
    · cases h6 : (decide (-1000000000000000000 ≤ nu))
      · go_wp2_with fail
        go_ret
        exact ⟨by first | rfl | (simp [rreB, h1, h2, h6]), HLX.out⟩
      · cases h7 : (decide (nu ≤ 999999999999999999))
        · go_wp2_with fail
          go_ret
          exact ⟨by first | rfl | (simp [rreB, h1, h2, h6, h7]), HLX.out⟩
        · go_wp2_with fail
          go_ret
          exact ⟨by first | rfl | (simp [rreB, h1, h2, h6, h7]), HLX.out⟩
set_option maxHeartbeats 4000000 in
set_option maxRecDepth 100000 in
theorem rpod_any (kd tk ts : Int) (ty : ByteArray) (tl rl nu : Int) (xa : Option Addr) (xn xc : Nat) (na : Option Addr) (nn nc : Nat) (ok os : Int) (oy : ByteArray) (ol of : Int) (ky : ByteArray) (sl : Int) (w : World)  : Calls Tryz.prog 51 #[.agg #[.int .i64 kd, .int .i64 tk, .int .i64 ts, .string ty, .int .i64 tl, .int .i64 rl, .int .i64 nu, .slice xa xn xc, .slice na nn nc, .int .i64 ok, .int .i64 os, .string oy, .int .i64 ol, .int .i64 of, .string ky, .int .i64 sl]] w fun e w' => e = .returned (.bool (rpoB tk rl ok os)) ∧ Below w.heap.size w w' := by
  have HLX := hid (show Below w.heap.size w (w.alloc (.cells #[.int .i64 kd, .int .i64 tk, .int .i64 ts, .string ty, .int .i64 tl, .int .i64 rl, .int .i64 nu, .slice xa xn xc, .slice na nn nc, .int .i64 ok, .int .i64 os, .string oy, .int .i64 ol, .int .i64 of, .string ky, .int .i64 sl] 49)) from ((Below.refl _ w).alloc (by simp) _))
  have X0 : Bs (w.alloc (.cells #[.int .i64 kd, .int .i64 tk, .int .i64 ts, .string ty, .int .i64 tl, .int .i64 rl, .int .i64 nu, .slice xa xn xc, .slice na nn nc, .int .i64 ok, .int .i64 os, .string oy, .int .i64 ol, .int .i64 of, .string ky, .int .i64 sl] 49)) w.heap.size [.int .i64 kd, .int .i64 tk, .int .i64 ts, .string ty, .int .i64 tl, .int .i64 rl, .int .i64 nu, .slice xa xn xc, .slice na nn nc, .int .i64 ok, .int .i64 os, .string oy, .int .i64 ol, .int .i64 of, .string ky, .int .i64 sl] := by simpa using bs_1_0 w _ _
  go_enter Tryz.func51, Tryz.ntmps51
  go_upto_region 1 with (fail)
  generalize (w.alloc (.cells #[.int .i64 kd, .int .i64 tk, .int .i64 ts, .string ty, .int .i64 tl, .int .i64 rl, .int .i64 nu, .slice xa xn xc, .slice na nn nc, .int .i64 ok, .int .i64 os, .string oy, .int .i64 ol, .int .i64 of, .string ky, .int .i64 sl] 49)) = x0 at *
  have c0 := bs16 X0
  have z0 := X0.1
  cases h1 : (os == 1)
  · go_wp2_with fail
    go_ret
    exact ⟨by first | rfl | (simp [rpoB, h1]), HLX.out⟩
  · have C := hid (rtext_of tk ts ty tl x0)
    go_wp2_with fail
    refine C.out.mono ?_
    rintro e x1 ⟨rfl, hb⟩
    replace HLX := hid (HLX.out.trans (hb.mono HLX.out.size))
    replace X0 := X0.low hb
    clear hb C
    clear c0 z0
    have c0 := bs16 X0
    have z0 := X0.1
    cases h2 : (rtxB tk)
    · have C := hid (rnumber_of tk ts ty tl x1)
      go_wp2_with fail
      refine C.out.mono ?_
      rintro e x2 ⟨rfl, hb⟩
      replace HLX := hid (HLX.out.trans (hb.mono HLX.out.size))
      replace X0 := X0.low hb
      clear hb C
      clear c0 z0
      have c0 := bs16 X0
      have z0 := X0.1
      cases h3 : (rnuB tk)
      · go_wp2_with fail
        go_ret
        exact ⟨by first | rfl | (simp [rpoB, h1, h2, h3]), HLX.out⟩
      · cases h4 : (ok == 4)
        · go_wp2_with fail
          go_ret
          exact ⟨by first | rfl | (simp [rpoB, h1, h2, h3, h4]), HLX.out⟩
        · cases h5 : (decide (1 ≤ rl))
          · go_wp2_with fail
            go_ret
            exact ⟨by first | rfl | (simp [rpoB, h1, h2, h3, h4, h5]), HLX.out⟩
          · cases h6 : (decide (rl ≤ 6))
            · go_wp2_with fail
              go_ret
              exact ⟨by first | rfl | (simp [rpoB, h1, h2, h3, h4, h5, h6]), HLX.out⟩
            · cases h7 : (rl != 2)
              · go_wp2_with fail
                go_ret
                exact ⟨by first | rfl | (simp [rpoB, h1, h2, h3, h4, h5, h6, h7]), HLX.out⟩
              · go_wp2_with fail
                go_ret
                exact ⟨by first | rfl | (simp [rpoB, h1, h2, h3, h4, h5, h6, h7]), HLX.out⟩
    · cases h8 : (rl == 1)
      · go_wp2_with fail
        go_ret
        exact ⟨by first | rfl | (simp [rpoB, h1, h2, h8]), HLX.out⟩
      · have C := hid (rtext_of ok os oy ol x1)
        go_wp2_with fail
        refine C.out.mono ?_
        rintro e x2 ⟨rfl, hb⟩
        replace HLX := hid (HLX.out.trans (hb.mono HLX.out.size))
        replace X0 := X0.low hb
        clear hb C
        clear c0 z0
        have c0 := bs16 X0
        have z0 := X0.1
        cases h9 : (rtxB ok)
        · go_wp2_with fail
          go_ret
          exact ⟨by first | rfl | (simp [rpoB, h1, h2, h8, h9]), HLX.out⟩
        · go_wp2_with fail
          go_ret
          exact ⟨by first | rfl | (simp [rpoB, h1, h2, h8, h9]), HLX.out⟩
end Go.Proofs.YtimmjikpcekffaaGreatDoor.L
namespace Go.Proofs.YtimmjikpcekffaaGreatDoor.L
open Go.RowKit
set_option linter.unusedVariables false
set_option linter.unusedSimpArgs false
/-- A literal that the document takes. -/
def RLitP (pods : Bool) (ns : Int) (kd tk ts : Int) (ty : ByteArray) (tl rl nu : Int) (xa : Option Addr) (xn xc : Nat) (na : Option Addr) (nn nc : Nat) (ok os : Int) (oy : ByteArray) (ol of : Int) (ky : ByteArray) (sl : Int) (tx : List ByteArray) (nm : List Int) : Prop :=
  if decide ((127 : Int) < (ky.size : Int)) = true then False
  else if (kd == 6) = true then pods = false ∧ ((tk == 0) = true ∧ (ts == 0) = true ∧ (ty.toList == []) = true ∧ (tl == 0) = true) ∧ RestP false false false false false true rl nu xn nn ok os oy ol of ky sl ∧ (sl == 0) = true
  else if (kd == 7) = true then pods = false ∧ ((tk == 0) = true ∧ (ts == 0) = true ∧ (ty.toList == []) = true ∧ (tl == 0) = true) ∧ RestP false false false false false true rl nu xn nn ok os oy ol of ky sl ∧ decide (0 ≤ sl) = true ∧ decide (sl < ns) = true
  else rteB pods ns tk ts ty tl = true ∧
    (if (kd == 1) = true then RInP tk xn nn tx nm ∧ RestP true false false false false false rl nu xn nn ok os oy ol of ky sl
    else if (kd == 2) = true then rreB tk rl nu = true ∧ RestP false true true false false false rl nu xn nn ok os oy ol of ky sl
    else if (kd == 3) = true then rteB pods ns ok os oy ol = true ∧ rpoB tk rl ok os = true ∧ RestP false true false true false false rl nu xn nn ok os oy ol of ky sl
    else if (kd == 4) = true then siB pods of = true ∧ ((tk == 1) = true ∨ rtxB tk = true) ∧ ((of == 1) = true ∨ rofB tk ts = true) ∧ RestP false false false false true false rl nu xn nn ok os oy ol of ky sl
    else if (kd == 5) = true then pods = false ∧ ((tk == 1) = true ∨ rtxB tk = true) ∧ rofB tk ts = true ∧ RestP false false false false false false rl nu xn nn ok os oy ol of ky sl
    else False)
end Go.Proofs.YtimmjikpcekffaaGreatDoor.L
