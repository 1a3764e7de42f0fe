import Derived.Test.YtimmjikpcekffaaGreatDoorMgAO
import Derived.Deep.MidRow
namespace Go.Proofs.YtimmjikpcekffaaGreatDoor.L
open Go.RowKit
set_option linter.unusedVariables false
set_option linter.unusedSimpArgs false
set_option maxHeartbeats 16000000 in
set_option maxRecDepth 100000 in
theorem tpart_1 (mv ns : Int) (pk : Int) (pn : Bool) (kd tk ts : Int) (ty : ByteArray) (tl rl nu : Int) (xa : Option Addr) (xn xc : Nat) (na : Option Addr) (nn nc : Nat) (ok os : Int) (oy : ByteArray) (ol of : Int) (ky : ByteArray) (sl : Int) (ka : Option Addr) (kn kc : Nat) (tx : List ByteArray) (nm : List Int) (w : World) (k1 : (pk == 1) = true) (hs : ty.size ≤ maxLen) (ho : oy.size ≤ maxLen) (hy : ky.size ≤ maxLen) (hx : xn = tx.length) (hn : nn = nm.length) (rx : RdS w xa tx) (rn : RdI w na nm) (bx : xn ≤ 140737488355328) (bn : nn ≤ 140737488355328) (hz : ∀ k, (tx.getD k ByteArray.empty).size ≤ maxLen) : Calls Tryz.prog 33 #[.agg #[.int .i64 mv, .int .i64 ns], .agg #[.int .i64 pk, .bool pn, .int .i64 kd, .int .i64 tk, .int .i64 ts, .string ty, .int .i64 tl, .int .i64 rl, .int .i64 nu, .slice xa xn xc, .slice na nn nc, .int .i64 ok, .int .i64 os, .string oy, .int .i64 ol, .int .i64 of, .string ky, .int .i64 sl, .slice ka kn kc]] w fun e w' => (∃ b, e = .returned (.bool b) ∧ (b = true ↔ PartP mv ns pk pn kd tk ts ty tl rl nu xa xn xc na nn nc ok os oy ol of ky sl kn tx nm)) ∧ Below w.heap.size w w' := by
  have HXN := hid hx
  have HNN := hid hn
  clear hx hn
  cases h1 : (((kn : Int) == 0))
  · have LX : Below w.heap.size w ((w.alloc (.cells #[.int .i64 mv, .int .i64 ns] 61)).alloc (.cells #[.int .i64 pk, .bool pn, .int .i64 kd, .int .i64 tk, .int .i64 ts, .string ty, .int .i64 tl, .int .i64 rl, .int .i64 nu, .slice xa xn xc, .slice na nn nc, .int .i64 ok, .int .i64 os, .string oy, .int .i64 ol, .int .i64 of, .string ky, .int .i64 sl, .slice ka kn kc] 51)) := (((Below.refl _ w).alloc (by simp) _).alloc (by simp) _)
    have HLX := hid LX
    clear LX
    go_enter Tryz.func33, Tryz.ntmps33
    go_wp2_with fail
    go_ret
    refine ⟨⟨_, rfl, ?_⟩, HLX.out⟩
    unfold PartP
    simp [k1, h1]
  · have LX : Below w.heap.size w ((w.alloc (.cells #[.int .i64 mv, .int .i64 ns] 61)).alloc (.cells #[.int .i64 pk, .bool pn, .int .i64 kd, .int .i64 tk, .int .i64 ts, .string ty, .int .i64 tl, .int .i64 rl, .int .i64 nu, .slice xa xn xc, .slice na nn nc, .int .i64 ok, .int .i64 os, .string oy, .int .i64 ol, .int .i64 of, .string ky, .int .i64 sl, .slice ka kn kc] 51)) := (((Below.refl _ w).alloc (by simp) _).alloc (by simp) _)
    have X0 : Bs ((w.alloc (.cells #[.int .i64 mv, .int .i64 ns] 61)).alloc (.cells #[.int .i64 pk, .bool pn, .int .i64 kd, .int .i64 tk, .int .i64 ts, .string ty, .int .i64 tl, .int .i64 rl, .int .i64 nu, .slice xa xn xc, .slice na nn nc, .int .i64 ok, .int .i64 os, .string oy, .int .i64 ol, .int .i64 of, .string ky, .int .i64 sl, .slice ka kn kc] 51)) w.heap.size [.int .i64 mv, .int .i64 ns] := by simpa using bs_2_0 w #[.int .i64 mv, .int .i64 ns] 61 #[.int .i64 pk, .bool pn, .int .i64 kd, .int .i64 tk, .int .i64 ts, .string ty, .int .i64 tl, .int .i64 rl, .int .i64 nu, .slice xa xn xc, .slice na nn nc, .int .i64 ok, .int .i64 os, .string oy, .int .i64 ol, .int .i64 of, .string ky, .int .i64 sl, .slice ka kn kc] 51
    have X1 : Bs ((w.alloc (.cells #[.int .i64 mv, .int .i64 ns] 61)).alloc (.cells #[.int .i64 pk, .bool pn, .int .i64 kd, .int .i64 tk, .int .i64 ts, .string ty, .int .i64 tl, .int .i64 rl, .int .i64 nu, .slice xa xn xc, .slice na nn nc, .int .i64 ok, .int .i64 os, .string oy, .int .i64 ol, .int .i64 of, .string ky, .int .i64 sl, .slice ka kn kc] 51)) (w.heap.size + 1) [.int .i64 pk, .bool pn, .int .i64 kd, .int .i64 tk, .int .i64 ts, .string ty, .int .i64 tl, .int .i64 rl, .int .i64 nu, .slice xa xn xc, .slice na nn nc, .int .i64 ok, .int .i64 os, .string oy, .int .i64 ol, .int .i64 of, .string ky, .int .i64 sl, .slice ka kn kc] := by simpa using bs_2_1 w #[.int .i64 mv, .int .i64 ns] 61 #[.int .i64 pk, .bool pn, .int .i64 kd, .int .i64 tk, .int .i64 ts, .string ty, .int .i64 tl, .int .i64 rl, .int .i64 nu, .slice xa xn xc, .slice na nn nc, .int .i64 ok, .int .i64 os, .string oy, .int .i64 ol, .int .i64 of, .string ky, .int .i64 sl, .slice ka kn kc] 51
    have HLX := hid LX
    clear LX
    go_enter Tryz.func33, Tryz.ntmps33
    go_upto_region 4 with (fail)
    generalize ((w.alloc (.cells #[.int .i64 mv, .int .i64 ns] 61)).alloc (.cells #[.int .i64 pk, .bool pn, .int .i64 kd, .int .i64 tk, .int .i64 ts, .string ty, .int .i64 tl, .int .i64 rl, .int .i64 nu, .slice xa xn xc, .slice na nn nc, .int .i64 ok, .int .i64 os, .string oy, .int .i64 ol, .int .i64 of, .string ky, .int .i64 sl, .slice ka kn kc] 51)) = x0 at *
    have c18 := X1.2 18 _ rfl
    have HX1 := hid X1
    clear X1
    refine wp_region_lit ?_
    refine wpList_plain rfl fun K hK => ?_
    have HK := hid hK
    clear hK
    go_simp
    refine HK.out _ _ ?_
    clear HK
    try simp only [Act.put, List.setIfInBounds_toArray, List.set_cons_zero, List.set_cons_succ]
    refine wpList_plain rfl fun K hK => ?_
    have HK := hid hK
    clear hK
    go_simp
    refine HK.out _ _ ?_
    clear HK
    try simp only [Act.put, List.setIfInBounds_toArray, List.set_cons_zero, List.set_cons_succ]
    refine wpList_plain rfl fun K hK => ?_
    have HK := hid hK
    clear hK
    go_simp
    refine HK.out _ _ ?_
    clear HK
    try simp only [Act.put, List.setIfInBounds_toArray, List.set_cons_zero, List.set_cons_succ]
    refine wpList_plain rfl fun K hK => ?_
    have HK := hid hK
    clear hK
    go_simp
    refine HK.out _ _ ?_
    clear HK
    try simp only [Act.put, List.setIfInBounds_toArray, List.set_cons_zero, List.set_cons_succ]
    refine wpList_plain rfl fun K hK => ?_
    have HK := hid hK
    clear hK
    go_simp
    refine HK.out _ _ ?_
    clear HK
    try simp only [Act.put, List.setIfInBounds_toArray, List.set_cons_zero, List.set_cons_succ]
    refine wpList_step fun K hK => ?_
    rw [if_pos (by first | rfl | kernel_rfl)]
    refine wp_load_mid 51 _ rfl (w.heap.size + 1) 0 rfl [.int .i64 pk, .bool pn, .int .i64 kd, .int .i64 tk, .int .i64 ts, .string ty, .int .i64 tl, .int .i64 rl, .int .i64 nu, .slice xa xn xc, .slice na nn nc, .int .i64 ok, .int .i64 os, .string oy, .int .i64 ol, .int .i64 of, .string ky, .int .i64 sl, .slice ka kn kc] _ (fun j v h => by simpa using HX1.out.2 j v h) Tryz.underlying51 rfl infoPP (hK _ _ ?_)
    clear hK
    try simp only [Act.put, List.setIfInBounds_toArray, List.set_cons_zero, List.set_cons_succ]
    have X1 := HX1.out
    clear c18
    go_wp2_with fail
    have C0 := hid (bare_any pk pn kd tk ts ty tl rl nu xa xn xc na nn nc ok os oy ol of ky sl ka kn kc x0)
    refine C0.out.mono ?_
    rintro e x1 ⟨⟨bb, rfl, ebb⟩, hb0⟩
    replace HLX := hid (HLX.out.trans (hb0.mono HLX.out.size))
    have EBB := hid ebb
    clear ebb
    have X0 := X0.low hb0
    have c0_0_0 := X0.2 0 _ rfl
    have c0_0_1 := X0.2 1 _ rfl
    have z0_0 := X0.1
    have X1 := X1.low hb0
    have c0_1_0 := X1.2 0 _ rfl
    have c0_1_1 := X1.2 1 _ rfl
    have c0_1_2 := X1.2 2 _ rfl
    have c0_1_3 := X1.2 3 _ rfl
    have c0_1_4 := X1.2 4 _ rfl
    have c0_1_5 := X1.2 5 _ rfl
    have c0_1_6 := X1.2 6 _ rfl
    have c0_1_7 := X1.2 7 _ rfl
    have c0_1_8 := X1.2 8 _ rfl
    have c0_1_9 := X1.2 9 _ rfl
    have c0_1_10 := X1.2 10 _ rfl
    have c0_1_11 := X1.2 11 _ rfl
    have c0_1_12 := X1.2 12 _ rfl
    have c0_1_13 := X1.2 13 _ rfl
    have c0_1_14 := X1.2 14 _ rfl
    have c0_1_15 := X1.2 15 _ rfl
    have c0_1_16 := X1.2 16 _ rfl
    have c0_1_17 := X1.2 17 _ rfl
    have c0_1_18 := X1.2 18 _ rfl
    have z0_1 := X1.1
    clear hb0 C0
    go_wp2_with fail
    go_ret
    refine ⟨⟨_, rfl, ?_⟩, HLX.out⟩
    rw [EBB.out]
    clear X0 X1
    unfold PartP
    simp [k1, h1]
end Go.Proofs.YtimmjikpcekffaaGreatDoor.L
namespace Go.Proofs.YtimmjikpcekffaaGreatDoor.L
open Go.RowKit
set_option linter.unusedVariables false
set_option linter.unusedSimpArgs false
set_option maxHeartbeats 16000000 in
set_option maxRecDepth 100000 in
theorem tpart_2 (mv ns : Int) (pk : Int) (pn : Bool) (kd tk ts : Int) (ty : ByteArray) (tl rl nu : Int) (xa : Option Addr) (xn xc : Nat) (na : Option Addr) (nn nc : Nat) (ok os : Int) (oy : ByteArray) (ol of : Int) (ky : ByteArray) (sl : Int) (ka : Option Addr) (kn kc : Nat) (tx : List ByteArray) (nm : List Int) (w : World) (k1 : (pk == 1) = false) (k2 : (pk == 2) = true) (hs : ty.size ≤ maxLen) (ho : oy.size ≤ maxLen) (hy : ky.size ≤ maxLen) (hx : xn = tx.length) (hn : nn = nm.length) (rx : RdS w xa tx) (rn : RdI w na nm) (bx : xn ≤ 140737488355328) (bn : nn ≤ 140737488355328) (hz : ∀ k, (tx.getD k ByteArray.empty).size ≤ maxLen) : Calls Tryz.prog 33 #[.agg #[.int .i64 mv, .int .i64 ns], .agg #[.int .i64 pk, .bool pn, .int .i64 kd, .int .i64 tk, .int .i64 ts, .string ty, .int .i64 tl, .int .i64 rl, .int .i64 nu, .slice xa xn xc, .slice na nn nc, .int .i64 ok, .int .i64 os, .string oy, .int .i64 ol, .int .i64 of, .string ky, .int .i64 sl, .slice ka kn kc]] w fun e w' => (∃ b, e = .returned (.bool b) ∧ (b = true ↔ PartP mv ns pk pn kd tk ts ty tl rl nu xa xn xc na nn nc ok os oy ol of ky sl kn tx nm)) ∧ Below w.heap.size w w' := by
  have HXN := hid hx
  have HNN := hid hn
  clear hx hn
  cases h1 : (((kn : Int) == 0))
  · have LX : Below w.heap.size w ((w.alloc (.cells #[.int .i64 mv, .int .i64 ns] 61)).alloc (.cells #[.int .i64 pk, .bool pn, .int .i64 kd, .int .i64 tk, .int .i64 ts, .string ty, .int .i64 tl, .int .i64 rl, .int .i64 nu, .slice xa xn xc, .slice na nn nc, .int .i64 ok, .int .i64 os, .string oy, .int .i64 ol, .int .i64 of, .string ky, .int .i64 sl, .slice ka kn kc] 51)) := (((Below.refl _ w).alloc (by simp) _).alloc (by simp) _)
    have HLX := hid LX
    clear LX
    go_enter Tryz.func33, Tryz.ntmps33
    go_wp2_with fail
    go_ret
    refine ⟨⟨_, rfl, ?_⟩, HLX.out⟩
    unfold PartP
    simp [k1, k2, h1]
  · have LX : Below w.heap.size w ((w.alloc (.cells #[.int .i64 mv, .int .i64 ns] 61)).alloc (.cells #[.int .i64 pk, .bool pn, .int .i64 kd, .int .i64 tk, .int .i64 ts, .string ty, .int .i64 tl, .int .i64 rl, .int .i64 nu, .slice xa xn xc, .slice na nn nc, .int .i64 ok, .int .i64 os, .string oy, .int .i64 ol, .int .i64 of, .string ky, .int .i64 sl, .slice ka kn kc] 51)) := (((Below.refl _ w).alloc (by simp) _).alloc (by simp) _)
    have X0 : Bs ((w.alloc (.cells #[.int .i64 mv, .int .i64 ns] 61)).alloc (.cells #[.int .i64 pk, .bool pn, .int .i64 kd, .int .i64 tk, .int .i64 ts, .string ty, .int .i64 tl, .int .i64 rl, .int .i64 nu, .slice xa xn xc, .slice na nn nc, .int .i64 ok, .int .i64 os, .string oy, .int .i64 ol, .int .i64 of, .string ky, .int .i64 sl, .slice ka kn kc] 51)) w.heap.size [.int .i64 mv, .int .i64 ns] := by simpa using bs_2_0 w #[.int .i64 mv, .int .i64 ns] 61 #[.int .i64 pk, .bool pn, .int .i64 kd, .int .i64 tk, .int .i64 ts, .string ty, .int .i64 tl, .int .i64 rl, .int .i64 nu, .slice xa xn xc, .slice na nn nc, .int .i64 ok, .int .i64 os, .string oy, .int .i64 ol, .int .i64 of, .string ky, .int .i64 sl, .slice ka kn kc] 51
    have X1 : Bs ((w.alloc (.cells #[.int .i64 mv, .int .i64 ns] 61)).alloc (.cells #[.int .i64 pk, .bool pn, .int .i64 kd, .int .i64 tk, .int .i64 ts, .string ty, .int .i64 tl, .int .i64 rl, .int .i64 nu, .slice xa xn xc, .slice na nn nc, .int .i64 ok, .int .i64 os, .string oy, .int .i64 ol, .int .i64 of, .string ky, .int .i64 sl, .slice ka kn kc] 51)) (w.heap.size + 1) [.int .i64 pk, .bool pn, .int .i64 kd, .int .i64 tk, .int .i64 ts, .string ty, .int .i64 tl, .int .i64 rl, .int .i64 nu, .slice xa xn xc, .slice na nn nc, .int .i64 ok, .int .i64 os, .string oy, .int .i64 ol, .int .i64 of, .string ky, .int .i64 sl, .slice ka kn kc] := by simpa using bs_2_1 w #[.int .i64 mv, .int .i64 ns] 61 #[.int .i64 pk, .bool pn, .int .i64 kd, .int .i64 tk, .int .i64 ts, .string ty, .int .i64 tl, .int .i64 rl, .int .i64 nu, .slice xa xn xc, .slice na nn nc, .int .i64 ok, .int .i64 os, .string oy, .int .i64 ol, .int .i64 of, .string ky, .int .i64 sl, .slice ka kn kc] 51
    have HLX := hid LX
    clear LX
    go_enter Tryz.func33, Tryz.ntmps33
    go_upto_region 4 with (fail)
    generalize ((w.alloc (.cells #[.int .i64 mv, .int .i64 ns] 61)).alloc (.cells #[.int .i64 pk, .bool pn, .int .i64 kd, .int .i64 tk, .int .i64 ts, .string ty, .int .i64 tl, .int .i64 rl, .int .i64 nu, .slice xa xn xc, .slice na nn nc, .int .i64 ok, .int .i64 os, .string oy, .int .i64 ol, .int .i64 of, .string ky, .int .i64 sl, .slice ka kn kc] 51)) = x0 at *
    have c18 := X1.2 18 _ rfl
    have HX1 := hid X1
    clear X1
    refine wp_region_lit ?_
    refine wpList_plain rfl fun K hK => ?_
    have HK := hid hK
    clear hK
    go_simp
    refine HK.out _ _ ?_
    clear HK
    try simp only [Act.put, List.setIfInBounds_toArray, List.set_cons_zero, List.set_cons_succ]
    refine wpList_plain rfl fun K hK => ?_
    have HK := hid hK
    clear hK
    go_simp
    refine HK.out _ _ ?_
    clear HK
    try simp only [Act.put, List.setIfInBounds_toArray, List.set_cons_zero, List.set_cons_succ]
    refine wpList_plain rfl fun K hK => ?_
    have HK := hid hK
    clear hK
    go_simp
    refine HK.out _ _ ?_
    clear HK
    try simp only [Act.put, List.setIfInBounds_toArray, List.set_cons_zero, List.set_cons_succ]
    refine wpList_plain rfl fun K hK => ?_
    have HK := hid hK
    clear hK
    go_simp
    refine HK.out _ _ ?_
    clear HK
    try simp only [Act.put, List.setIfInBounds_toArray, List.set_cons_zero, List.set_cons_succ]
    refine wpList_plain rfl fun K hK => ?_
    have HK := hid hK
    clear hK
    go_simp
    refine HK.out _ _ ?_
    clear HK
    try simp only [Act.put, List.setIfInBounds_toArray, List.set_cons_zero, List.set_cons_succ]
    refine wpList_step fun K hK => ?_
    rw [if_pos (by first | rfl | kernel_rfl)]
    refine wp_load_mid 51 _ rfl (w.heap.size + 1) 0 rfl [.int .i64 pk, .bool pn, .int .i64 kd, .int .i64 tk, .int .i64 ts, .string ty, .int .i64 tl, .int .i64 rl, .int .i64 nu, .slice xa xn xc, .slice na nn nc, .int .i64 ok, .int .i64 os, .string oy, .int .i64 ol, .int .i64 of, .string ky, .int .i64 sl, .slice ka kn kc] _ (fun j v h => by simpa using HX1.out.2 j v h) Tryz.underlying51 rfl infoPP (hK _ _ ?_)
    clear hK
    try simp only [Act.put, List.setIfInBounds_toArray, List.set_cons_zero, List.set_cons_succ]
    have X1 := HX1.out
    clear c18
    go_wp2_with fail
    have C0 := hid (bare_any pk pn kd tk ts ty tl rl nu xa xn xc na nn nc ok os oy ol of ky sl ka kn kc x0)
    refine C0.out.mono ?_
    rintro e x1 ⟨⟨bb, rfl, ebb⟩, hb0⟩
    replace HLX := hid (HLX.out.trans (hb0.mono HLX.out.size))
    have EBB := hid ebb
    clear ebb
    have X0 := X0.low hb0
    have c0_0_0 := X0.2 0 _ rfl
    have c0_0_1 := X0.2 1 _ rfl
    have z0_0 := X0.1
    have X1 := X1.low hb0
    have c0_1_0 := X1.2 0 _ rfl
    have c0_1_1 := X1.2 1 _ rfl
    have c0_1_2 := X1.2 2 _ rfl
    have c0_1_3 := X1.2 3 _ rfl
    have c0_1_4 := X1.2 4 _ rfl
    have c0_1_5 := X1.2 5 _ rfl
    have c0_1_6 := X1.2 6 _ rfl
    have c0_1_7 := X1.2 7 _ rfl
    have c0_1_8 := X1.2 8 _ rfl
    have c0_1_9 := X1.2 9 _ rfl
    have c0_1_10 := X1.2 10 _ rfl
    have c0_1_11 := X1.2 11 _ rfl
    have c0_1_12 := X1.2 12 _ rfl
    have c0_1_13 := X1.2 13 _ rfl
    have c0_1_14 := X1.2 14 _ rfl
    have c0_1_15 := X1.2 15 _ rfl
    have c0_1_16 := X1.2 16 _ rfl
    have c0_1_17 := X1.2 17 _ rfl
    have c0_1_18 := X1.2 18 _ rfl
    have z0_1 := X1.1
    clear hb0 C0
    go_wp2_with fail
    go_ret
    refine ⟨⟨_, rfl, ?_⟩, HLX.out⟩
    rw [EBB.out]
    clear X0 X1
    unfold PartP
    simp [k1, k2, h1]
end Go.Proofs.YtimmjikpcekffaaGreatDoor.L
