import Derived.Test.YtimmjikpcekffaaGreatDoorNvg
namespace Go.Proofs.YtimmjikpcekffaaGreatDoor.L
open Go.RowKit
set_option linter.unusedVariables false
set_option linter.unusedSimpArgs false
/-- Rising texts, none of them too long. -/
def RtP (l : List ByteArray) : Prop := ∀ k, k < l.length → decide ((127 : Int) < ((l.getD k ByteArray.empty).size : Int)) = false ∧ (1 ≤ k → Op.bytesLess (l.getD (k - 1) ByteArray.empty).toList (l.getD k ByteArray.empty).toList = true)
set_option maxHeartbeats 4000000 in
set_option maxRecDepth 100000 in
theorem rrises_s (a : Option Addr) (c L : Nat) (l : List ByteArray) (hL : L = l.length) (w : World) (hr : RdS w a l) (hl : L ≤ 140737488355328) (hz : ∀ k, (l.getD k ByteArray.empty).size ≤ maxLen) : Calls Tryz.prog 80 #[.slice a L c] w fun e w' => (∃ b, e = .returned (.bool b) ∧ (b = true ↔ RtP l)) ∧ Below w.heap.size w w' := by
  have HR := hid hr
  have HL := hid hL
  have HZ := hid hz
  clear hr hL hz
  go_enter Tryz.func80, Tryz.ntmps80
  go_wp2_with fail
  go_loopw [3] (fun i wr => ∃ k : Nat, k ≤ L ∧ i = .int .i64 k ∧ Hid (∀ q, q < k → decide ((127 : Int) < ((l.getD q ByteArray.empty).size : Int)) = false ∧ (1 ≤ q → Op.bytesLess (l.getD (q - 1) ByteArray.empty).toList (l.getD q ByteArray.empty).toList = true)) ∧ Hid (Below w.heap.size w wr)) (fun i _ => L - (intOf i).toNat)
  case atStart => exact ⟨0, Nat.zero_le _, rfl, hid (fun q h1 => absurd h1 (by omega)), hid (Below.refl _ _)⟩
  case round =>
    obtain ⟨k, hk, rfl, HU, HB⟩ := hrel
    by_cases hlt : k < L
    · have g1 : (k : Int) < (L : Int) := by omega
      have g0 : (0 : Int) ≤ (k : Int) := by omega
      rcases HR.out with h0 | ⟨b, off, rfl, hbl, hc⟩
      · have := HL.out; omega
      have p0 := hc k (by have := HL.out; omega)
      rw [← HB.out.cell (p := ⟨b, off + k, none⟩) hbl] at p0
      have hbw : b < wr.heap.size := Nat.lt_of_lt_of_le hbl HB.out.size
      have hzk := HZ.out k
      unfold maxLen at hzk
      generalize hA : l.getD k ByteArray.empty = A at *
      have HA := hid hA
      have HP0 := hid p0
      have HC := hid hc
      clear hc hA
      cases e1 : decide ((127 : Int) < (A.size : Int))
      · have E1 := hid e1
        by_cases h1k : 1 ≤ k
        · have d1 : decide ((0 : Int) < (k : Int)) = true := by simp; omega
          have d2 : decide (0 < k) = true := by simp; omega
          have d3 : (0 < k) := by omega
          have g2 : (0 : Int) ≤ (k : Int) - 1 := by omega
          have g3 : (k : Int) - 1 < (L : Int) := by omega
          have p1 := HC.out (k - 1) (by have := HL.out; omega)
          rw [← HB.out.cell (p := ⟨b, off + (k - 1), none⟩) hbl] at p1
          have e2 : ((k : Int) - 1).toNat = k - 1 := by omega
          generalize hB : l.getD (k - 1) ByteArray.empty = B at *
          have HBB := hid hB
          clear hB
          go_wp2_with fail
          go_quiet (fail)
          go_wp2_with fail
          · go_ret
            refine ⟨⟨_, rfl, ?_⟩, below_drewN HB.out nq⟩
            constructor
            · intro h; cases h
            · intro h
              have h5 := (h k (by have := HL.out; omega)).2 h1k
              rw [HA.out, HBB.out] at h5
              rename_i h6
              exact absurd h5 (bl_not h6)
          · rename_i h6
            refine ⟨⟨k + 1, by omega, by go_num, hid (fun q h1 => ?_), hid (below_drewN HB.out nq)⟩, by simp [intOf]; omega⟩
            by_cases e : q = k
            · subst e
              rw [HA.out, HBB.out]
              exact ⟨E1.out, fun _ => bl_yes h6⟩
            · exact HU.out q (by omega)
        · have HK0 := hid (show k = 0 by omega)
          have d1 : decide ((0 : Int) < (k : Int)) = false := by simp; omega
          have d2 : decide (0 < k) = false := by simp; omega
          clear h1k
          go_wp2_with fail
          go_quiet (fail)
          go_wp2_with fail
          refine ⟨⟨k + 1, by omega, by go_num, hid (fun q h1 => ?_), hid (below_drewN HB.out nq)⟩, by simp [intOf]; omega⟩
          obtain rfl : q = k := by have := HK0.out; omega
          rw [HA.out]
          exact ⟨E1.out, fun h => absurd h (by have := HK0.out; omega)⟩
      · have E1 := hid e1
        go_wp2_with fail
        go_quiet (fail)
        go_wp2_with fail
        go_ret
        refine ⟨⟨_, rfl, ?_⟩, below_drewN HB.out nq⟩
        constructor
        · intro h; cases h
        · intro h
          have h5 := (h k (by have := HL.out; omega)).1
          rw [HA.out, E1.out] at h5
          cases h5
    · obtain rfl : k = L := by omega
      go_wp2_with fail
      go_ret
      refine ⟨⟨_, rfl, ?_⟩, HB.out⟩
      constructor
      · intro _ q h1
        exact HU.out q (by have := HL.out; omega)
      · intro _; rfl
/-- Rising numbers, none of them too great. -/
def RnP (l : List Int) : Prop := ∀ k, k < l.length → (decide (l.getD k 0 < -999999999999999999) = false ∧ decide (999999999999999999 < l.getD k 0) = false) ∧ (1 ≤ k → l.getD (k - 1) 0 < l.getD k 0)
set_option maxHeartbeats 4000000 in
set_option maxRecDepth 100000 in
theorem rrises_i (a : Option Addr) (c L : Nat) (l : List Int) (hL : L = l.length) (w : World) (hr : RdI w a l) (hl : L ≤ 140737488355328) : Calls Tryz.prog 82 #[.slice a L c] w fun e w' => (∃ b, e = .returned (.bool b) ∧ (b = true ↔ RnP l)) ∧ Below w.heap.size w w' := by
  have HR := hid hr
  have HL := hid hL
  clear hr hL
  go_enter Tryz.func82, Tryz.ntmps82
  go_wp2_with fail
  go_loopw [3] (fun i wr => ∃ k : Nat, k ≤ L ∧ i = .int .i64 k ∧ Hid (∀ q, q < k → (decide (l.getD q 0 < -999999999999999999) = false ∧ decide (999999999999999999 < l.getD q 0) = false) ∧ (1 ≤ q → l.getD (q - 1) 0 < l.getD q 0)) ∧ Hid (Below w.heap.size w wr)) (fun i _ => L - (intOf i).toNat)
  case atStart => exact ⟨0, Nat.zero_le _, rfl, hid (fun q h1 => absurd h1 (by omega)), hid (Below.refl _ _)⟩
  case round =>
    obtain ⟨k, hk, rfl, HU, HB⟩ := hrel
    by_cases hlt : k < L
    · have g1 : (k : Int) < (L : Int) := by omega
      have g0 : (0 : Int) ≤ (k : Int) := by omega
      rcases HR.out with h0 | ⟨b, off, rfl, hbl, hc⟩
      · have := HL.out; omega
      have p0 := hc k (by have := HL.out; omega)
      rw [← HB.out.cell (p := ⟨b, off + k, none⟩) hbl] at p0
      have hbw : b < wr.heap.size := Nat.lt_of_lt_of_le hbl HB.out.size
      generalize hA : l.getD k 0 = A at *
      have HA := hid hA
      have HC := hid hc
      clear hc hA
      cases e1 : decide (A < -999999999999999999)
      · cases e3 : decide (999999999999999999 < A)
        · have E1 := hid e1
          have E3 := hid e3
          by_cases h1k : 1 ≤ k
          · have d1 : decide ((0 : Int) < (k : Int)) = true := by simp; omega
            have d2 : decide (0 < k) = true := by simp; omega
            have d3 : (0 < k) := by omega
            have g2 : (0 : Int) ≤ (k : Int) - 1 := by omega
            have g3 : (k : Int) - 1 < (L : Int) := by omega
            have p1 := HC.out (k - 1) (by have := HL.out; omega)
            rw [← HB.out.cell (p := ⟨b, off + (k - 1), none⟩) hbl] at p1
            have e2 : ((k : Int) - 1).toNat = k - 1 := by omega
            generalize hB : l.getD (k - 1) 0 = B at *
            have HBB := hid hB
            clear hB
            cases e4 : decide (A ≤ B)
            · have E4 := hid e4
              go_wp2_with fail
              go_quiet (fail)
              go_wp2_with fail
              refine ⟨⟨k + 1, by omega, by go_num, hid (fun q h1 => ?_), hid (below_drewN HB.out nq)⟩, by simp [intOf]; omega⟩
              by_cases e : q = k
              · subst e
                rw [HA.out, HBB.out]
                refine ⟨⟨E1.out, E3.out⟩, fun _ => ?_⟩
                have h5 := of_decide_eq_false E4.out
                omega
              · exact HU.out q (by omega)
            · have E4 := hid e4
              go_wp2_with fail
              go_quiet (fail)
              go_wp2_with fail
              go_ret
              refine ⟨⟨_, rfl, ?_⟩, below_drewN HB.out nq⟩
              constructor
              · intro h; cases h
              · intro h
                have h5 := (h k (by have := HL.out; omega)).2 h1k
                rw [HA.out, HBB.out] at h5
                have h6 := of_decide_eq_true E4.out
                omega
          · have HK0 := hid (show k = 0 by omega)
            have d1 : decide ((0 : Int) < (k : Int)) = false := by simp; omega
            have d2 : decide (0 < k) = false := by simp; omega
            clear h1k
            go_wp2_with fail
            go_quiet (fail)
            go_wp2_with fail
            refine ⟨⟨k + 1, by omega, by go_num, hid (fun q h1 => ?_), hid (below_drewN HB.out nq)⟩, by simp [intOf]; omega⟩
            obtain rfl : q = k := by have := HK0.out; omega
            rw [HA.out]
            exact ⟨⟨E1.out, E3.out⟩, fun h => absurd h (by have := HK0.out; omega)⟩
        · have E3 := hid e3
          go_wp2_with fail
          go_quiet (fail)
          go_wp2_with fail
          go_ret
          refine ⟨⟨_, rfl, ?_⟩, below_drewN HB.out nq⟩
          constructor
          · intro h; cases h
          · intro h
            have h5 := (h k (by have := HL.out; omega)).1.2
            rw [HA.out, E3.out] at h5
            cases h5
      · have E1 := hid e1
        go_wp2_with fail
        go_quiet (fail)
        go_wp2_with fail
        go_ret
        refine ⟨⟨_, rfl, ?_⟩, below_drewN HB.out nq⟩
        constructor
        · intro h; cases h
        · intro h
          have h5 := (h k (by have := HL.out; omega)).1.1
          rw [HA.out, E1.out] at h5
          cases h5
    · obtain rfl : k = L := by omega
      go_wp2_with fail
      go_ret
      refine ⟨⟨_, rfl, ?_⟩, HB.out⟩
      constructor
      · intro _ q h1
        exact HU.out q (by have := HL.out; omega)
      · intro _; rfl
end Go.Proofs.YtimmjikpcekffaaGreatDoor.L
namespace Go.Proofs.YtimmjikpcekffaaGreatDoor.L
open Go.RowKit
set_option linter.unusedVariables false
set_option linter.unusedSimpArgs false
/-- The fields that a kind does not use are zero. -/
def RestP (se r n o f k : Bool) (rl nu : Int) (xn nn : Nat) (ok os : Int) (oy : ByteArray) (ol of : Int) (ky : ByteArray) (sl : Int) : Prop := (se = true ∨ (xn = 0 ∧ nn = 0)) ∧ (r = true ∨ rl = 0) ∧ (n = true ∨ nu = 0) ∧ (o = true ∨ (ok = 0 ∧ os = 0 ∧ oy = ByteArray.empty ∧ ol = 0)) ∧ (f = true ∨ of = 0) ∧ (k = true ∨ (ky = ByteArray.empty ∧ sl = 0))
theorem empty_nil : ByteArray.empty.toList = [] := by first | kernel_rfl | simp | decide
theorem toList_nil {a : ByteArray} : a.toList = [] ↔ a = ByteArray.empty := ⟨fun h => bytes_ext (by rw [h, empty_nil]), fun h => by rw [h, empty_nil]⟩
set_option maxHeartbeats 4000000 in
set_option maxRecDepth 100000 in
theorem rest_zero (kd tk ts : Int) (ty : ByteArray) (tl rl nu : Int) (xa : Option Addr) (xn xc : Nat) (na : Option Addr) (nn nc : Nat) (ok os : Int) (oy : ByteArray) (ol of : Int) (ky : ByteArray) (sl : Int) (w : World) (bx : xn ≤ 140737488355328) (bn : nn ≤ 140737488355328) : Calls Tryz.prog 47 #[.agg #[.int .i64 kd, .int .i64 tk, .int .i64 ts, .string ty, .int .i64 tl, .int .i64 rl, .int .i64 nu, .slice xa xn xc, .slice na nn nc, .int .i64 ok, .int .i64 os, .string oy, .int .i64 ol, .int .i64 of, .string ky, .int .i64 sl], .bool false, .bool false, .bool false, .bool false, .bool false, .bool false] w fun e w' => (∃ b, e = .returned (.bool b) ∧ (b = true ↔ RestP false false false false false false rl nu xn nn ok os oy ol of ky sl)) ∧ Below w.heap.size w w' := by
  have LY := hid (show ∀ o1 : Obj, Below w.heap.size w (w.alloc o1) from fun o1 => (Below.refl _ w).alloc (Nat.le_refl _) o1)
  go_enter Tryz.func47, Tryz.ntmps47
  go_wp2_with fail
  all_goals
    go_ret
    refine ⟨⟨_, rfl, ?_⟩, LY.out _⟩
    unfold RestP
    (try simp only [toList_nil, toList_inj] at *)
    (try simp_all)
    (try omega)
set_option maxHeartbeats 4000000 in
set_option maxRecDepth 100000 in
theorem rest_key (kd tk ts : Int) (ty : ByteArray) (tl rl nu : Int) (xa : Option Addr) (xn xc : Nat) (na : Option Addr) (nn nc : Nat) (ok os : Int) (oy : ByteArray) (ol of : Int) (ky : ByteArray) (sl : Int) (w : World) (bx : xn ≤ 140737488355328) (bn : nn ≤ 140737488355328) : Calls Tryz.prog 47 #[.agg #[.int .i64 kd, .int .i64 tk, .int .i64 ts, .string ty, .int .i64 tl, .int .i64 rl, .int .i64 nu, .slice xa xn xc, .slice na nn nc, .int .i64 ok, .int .i64 os, .string oy, .int .i64 ol, .int .i64 of, .string ky, .int .i64 sl], .bool false, .bool false, .bool false, .bool false, .bool false, .bool true] w fun e w' => (∃ b, e = .returned (.bool b) ∧ (b = true ↔ RestP false false false false false true rl nu xn nn ok os oy ol of ky sl)) ∧ Below w.heap.size w w' := by
  have LY := hid (show ∀ o1 : Obj, Below w.heap.size w (w.alloc o1) from fun o1 => (Below.refl _ w).alloc (Nat.le_refl _) o1)
  go_enter Tryz.func47, Tryz.ntmps47
  go_wp2_with fail
  all_goals
    go_ret
    refine ⟨⟨_, rfl, ?_⟩, LY.out _⟩
    unfold RestP
    (try simp only [toList_nil, toList_inj] at *)
    (try simp_all)
    (try omega)
set_option maxHeartbeats 4000000 in
set_option maxRecDepth 100000 in
theorem rest_sets (kd tk ts : Int) (ty : ByteArray) (tl rl nu : Int) (xa : Option Addr) (xn xc : Nat) (na : Option Addr) (nn nc : Nat) (ok os : Int) (oy : ByteArray) (ol of : Int) (ky : ByteArray) (sl : Int) (w : World) (bx : xn ≤ 140737488355328) (bn : nn ≤ 140737488355328) : Calls Tryz.prog 47 #[.agg #[.int .i64 kd, .int .i64 tk, .int .i64 ts, .string ty, .int .i64 tl, .int .i64 rl, .int .i64 nu, .slice xa xn xc, .slice na nn nc, .int .i64 ok, .int .i64 os, .string oy, .int .i64 ol, .int .i64 of, .string ky, .int .i64 sl], .bool true, .bool false, .bool false, .bool false, .bool false, .bool false] w fun e w' => (∃ b, e = .returned (.bool b) ∧ (b = true ↔ RestP true false false false false false rl nu xn nn ok os oy ol of ky sl)) ∧ Below w.heap.size w w' := by
  have LY := hid (show ∀ o1 : Obj, Below w.heap.size w (w.alloc o1) from fun o1 => (Below.refl _ w).alloc (Nat.le_refl _) o1)
  go_enter Tryz.func47, Tryz.ntmps47
  go_wp2_with fail
  all_goals
    go_ret
    refine ⟨⟨_, rfl, ?_⟩, LY.out _⟩
    unfold RestP
    (try simp only [toList_nil, toList_inj] at *)
    (try simp_all)
    (try omega)
set_option maxHeartbeats 4000000 in
set_option maxRecDepth 100000 in
theorem rest_num (kd tk ts : Int) (ty : ByteArray) (tl rl nu : Int) (xa : Option Addr) (xn xc : Nat) (na : Option Addr) (nn nc : Nat) (ok os : Int) (oy : ByteArray) (ol of : Int) (ky : ByteArray) (sl : Int) (w : World) (bx : xn ≤ 140737488355328) (bn : nn ≤ 140737488355328) : Calls Tryz.prog 47 #[.agg #[.int .i64 kd, .int .i64 tk, .int .i64 ts, .string ty, .int .i64 tl, .int .i64 rl, .int .i64 nu, .slice xa xn xc, .slice na nn nc, .int .i64 ok, .int .i64 os, .string oy, .int .i64 ol, .int .i64 of, .string ky, .int .i64 sl], .bool false, .bool true, .bool true, .bool false, .bool false, .bool false] w fun e w' => (∃ b, e = .returned (.bool b) ∧ (b = true ↔ RestP false true true false false false rl nu xn nn ok os oy ol of ky sl)) ∧ Below w.heap.size w w' := by
  have LY := hid (show ∀ o1 : Obj, Below w.heap.size w (w.alloc o1) from fun o1 => (Below.refl _ w).alloc (Nat.le_refl _) o1)
  go_enter Tryz.func47, Tryz.ntmps47
  go_wp2_with fail
  all_goals
    go_ret
    refine ⟨⟨_, rfl, ?_⟩, LY.out _⟩
    unfold RestP
    (try simp only [toList_nil, toList_inj] at *)
    (try simp_all)
    (try omega)
set_option maxHeartbeats 4000000 in
set_option maxRecDepth 100000 in
theorem rest_other (kd tk ts : Int) (ty : ByteArray) (tl rl nu : Int) (xa : Option Addr) (xn xc : Nat) (na : Option Addr) (nn nc : Nat) (ok os : Int) (oy : ByteArray) (ol of : Int) (ky : ByteArray) (sl : Int) (w : World) (bx : xn ≤ 140737488355328) (bn : nn ≤ 140737488355328) : Calls Tryz.prog 47 #[.agg #[.int .i64 kd, .int .i64 tk, .int .i64 ts, .string ty, .int .i64 tl, .int .i64 rl, .int .i64 nu, .slice xa xn xc, .slice na nn nc, .int .i64 ok, .int .i64 os, .string oy, .int .i64 ol, .int .i64 of, .string ky, .int .i64 sl], .bool false, .bool true, .bool false, .bool true, .bool false, .bool false] w fun e w' => (∃ b, e = .returned (.bool b) ∧ (b = true ↔ RestP false true false true false false rl nu xn nn ok os oy ol of ky sl)) ∧ Below w.heap.size w w' := by
  have LY := hid (show ∀ o1 : Obj, Below w.heap.size w (w.alloc o1) from fun o1 => (Below.refl _ w).alloc (Nat.le_refl _) o1)
  go_enter Tryz.func47, Tryz.ntmps47
  go_wp2_with fail
  all_goals
    go_ret
    refine ⟨⟨_, rfl, ?_⟩, LY.out _⟩
    unfold RestP
    (try simp only [toList_nil, toList_inj] at *)
    (try simp_all)
    (try omega)
set_option maxHeartbeats 4000000 in
set_option maxRecDepth 100000 in
theorem rest_of (kd tk ts : Int) (ty : ByteArray) (tl rl nu : Int) (xa : Option Addr) (xn xc : Nat) (na : Option Addr) (nn nc : Nat) (ok os : Int) (oy : ByteArray) (ol of : Int) (ky : ByteArray) (sl : Int) (w : World) (bx : xn ≤ 140737488355328) (bn : nn ≤ 140737488355328) : Calls Tryz.prog 47 #[.agg #[.int .i64 kd, .int .i64 tk, .int .i64 ts, .string ty, .int .i64 tl, .int .i64 rl, .int .i64 nu, .slice xa xn xc, .slice na nn nc, .int .i64 ok, .int .i64 os, .string oy, .int .i64 ol, .int .i64 of, .string ky, .int .i64 sl], .bool false, .bool false, .bool false, .bool false, .bool true, .bool false] w fun e w' => (∃ b, e = .returned (.bool b) ∧ (b = true ↔ RestP false false false false true false rl nu xn nn ok os oy ol of ky sl)) ∧ Below w.heap.size w w' := by
  have LY := hid (show ∀ o1 : Obj, Below w.heap.size w (w.alloc o1) from fun o1 => (Below.refl _ w).alloc (Nat.le_refl _) o1)
  go_enter Tryz.func47, Tryz.ntmps47
  go_wp2_with fail
  all_goals
    go_ret
    refine ⟨⟨_, rfl, ?_⟩, LY.out _⟩
    unfold RestP
    (try simp only [toList_nil, toList_inj] at *)
    (try simp_all)
    (try omega)
end Go.Proofs.YtimmjikpcekffaaGreatDoor.L
