import Derived.Test.YtdnoagebcolgbaaDoorIa
namespace Go.Proofs.YtdnoagebcolgbaaDoor.L
open Go.RowKit Go.Shelf
set_option linter.unusedVariables false
theorem rwho_any (n : Int) (w : World) (h : 1 ≤ n ∧ n ≤ 3) : Calls Tryd.prog 57 #[.int .i64 n] w fun e w' => e = .returned (.string (S (whoL n))) ∧ w' = w := by
  have hn : n = 1 ∨ n = 2 ∨ n = 3 := by omega
  rcases hn with rfl | rfl | rfl
  · go_enter Tryd.func57, Tryd.ntmps57
    go_wp2_with fail
    go_ret
    exact ⟨rfl, rfl⟩
  · go_enter Tryd.func57, Tryd.ntmps57
    go_wp2_with fail
    go_ret
    exact ⟨rfl, rfl⟩
  · go_enter Tryd.func57, Tryd.ntmps57
    go_wp2_with fail
    go_ret
    exact ⟨rfl, rfl⟩
theorem rsgn_any (n : Int) (w : World) (h : 1 ≤ n ∧ n ≤ 6) : Calls Tryd.prog 38 #[.int .i64 n] w fun e w' => e = .returned (.string (S (sgnL n))) ∧ w' = w := by
  have hn : n = 1 ∨ n = 2 ∨ n = 3 ∨ n = 4 ∨ n = 5 ∨ n = 6 := by omega
  rcases hn with rfl | rfl | rfl | rfl | rfl | rfl
  · go_enter Tryd.func38, Tryd.ntmps38
    go_wp2_with fail
    go_ret
    exact ⟨rfl, rfl⟩
  · go_enter Tryd.func38, Tryd.ntmps38
    go_wp2_with fail
    go_ret
    exact ⟨rfl, rfl⟩
  · go_enter Tryd.func38, Tryd.ntmps38
    go_wp2_with fail
    go_ret
    exact ⟨rfl, rfl⟩
  · go_enter Tryd.func38, Tryd.ntmps38
    go_wp2_with fail
    go_ret
    exact ⟨rfl, rfl⟩
  · go_enter Tryd.func38, Tryd.ntmps38
    go_wp2_with fail
    go_ret
    exact ⟨rfl, rfl⟩
  · go_enter Tryd.func38, Tryd.ntmps38
    go_wp2_with fail
    go_ret
    exact ⟨rfl, rfl⟩
theorem nd_le : ∀ (k u : Nat), u < 10 ^ (k + 1) → Lib.nDigits u ≤ k + 1
  | 0, u, h => by
    rw [Lib.nDigits, dif_pos (by simpa using h)]
    omega
  | k + 1, u, h => by
    rw [Lib.nDigits]
    split
    · omega
    · have := nd_le k (u / 10) (by rw [Nat.pow_succ] at h; omega)
      omega
theorem dec_len {u : Nat} (h : u ≤ 999999999999999999) : (Lib.decDigits u).length ≤ 19 := by
  rw [Lib.decDigits_length]
  exact nd_le 18 u (by omega)
/-- A digit as a byte. -/
def dgt (m : Nat) : UInt8 := UInt8.ofNat (48 + m)
theorem dgt_iv (m : Nat) (h : m < 10) : iv (dgt m) = 48 + (m : Int) := by
  unfold iv dgt
  rw [UInt8.toNat_ofNat_of_lt' (by simp [UInt8.size]; omega)]
  omega
theorem one_row (w : World) (c : UInt8) : OwnB (w.alloc (.cells #[.int .u8 (iv c)] 5)) w.heap.size (.slice (some ⟨w.heap.size, 0, none⟩) 1 1) [c] := World.ownsRow_lit (base := w.heap.size) (e := 5) (size := 1) w #[.int .u8 (iv c)] 1 (Nat.le_refl _) (by decide) (by simp)
set_option maxHeartbeats 4000000 in
set_option maxRecDepth 100000 in
theorem rdigp_any (n : Nat) (w : World) (hn : n ≤ 999999999999999999) : Calls Tryd.prog 56 #[.int .i64 (n : Int)] w fun e w' => e = .returned (.string (S (Lib.decDigits n))) ∧ Below w.heap.size w w' := by
  have h0 : ¬ ((n : Int) < 0) := by omega
  have HD := hid (dec_len hn)
  go_enter Tryd.func56, Tryd.ntmps56
  go_wp2_with fail
  go_loopw [0, 3] (fun v s wr => ∃ (m : Nat) (l : List UInt8), m ≤ n ∧ v = .int .i64 (m : Int) ∧ s = .string (S l) ∧ Hid (Below w.heap.size w wr) ∧ Hid (Lib.decDigits m ++ l = Lib.decDigits n)) (fun v _ _ => (intOf v).toNat)
  case atStart => exact ⟨n, [], Nat.le_refl _, rfl, rfl, hid (Below.refl _ _), hid (by simp)⟩
  case round =>
    obtain ⟨m, l, hm, rfl, rfl, HB, HE⟩ := hrel
    have hl : (S l).size ≤ 19 := by
      rw [S_size]
      have h1 := congrArg List.length HE.out
      rw [List.length_append] at h1
      have := HD.out
      omega
    have hlb : ¬ (9223372036854775807 < 1 + l.length) := by rw [S_size] at hl; omega
    have hm0 : (0 : Int) ≤ (m : Int) := by omega
    have hm1 : (m : Int) ≤ 999999999999999999 := by omega
    by_cases h10 : 10 ≤ m
    · have e1 : (m : Int).tmod 10 = ((m % 10 : Nat) : Int) := by rfl
      have e2 : (m : Int).tdiv 10 = ((m / 10 : Nat) : Int) := by rfl
      have hc := dgt_iv (m % 10) (by omega)
      have HDD := hid (show Lib.decDigits m = Lib.decDigits (m / 10) ++ [dgt (m % 10)] by rw [Lib.decDigits, dif_neg (by omega)]; rfl)
      have hcv := conv_own (one_row wr (dgt (m % 10)))
      rw [hc] at hcv
      have hq : m / 10 ≤ n := by omega
      have hq2 : m / 10 < m := by omega
      have h10' : (10 : Int) ≤ (m : Int) := by omega
      have hr : m % 10 < 10 := by omega
      have HBA := hid ((show Below w.heap.size w _ from bch HB.out (belowA wr (.cells #[.int .u8 (48 + ((m % 10 : Nat) : Int))] 5))))
      have HSS := hid (fun a b : List UInt8 => S_app a b)
      generalize m % 10 = r at *
      generalize m / 10 = q at *
      have er : IntKind.u8.wrap (48 + (r : Int)) = 48 + (r : Int) := by unfold IntKind.wrap; simp [IntKind.bits, IntKind.signed]; omega
      have eq1 : IntKind.i64.wrap (q : Int) = q := by unfold IntKind.wrap; simp [IntKind.bits, IntKind.signed]; omega
      have er1 : IntKind.i64.wrap (r : Int) = r := by unfold IntKind.wrap; simp [IntKind.bits, IntKind.signed]; omega
      go_wp2_with fail
      exact ⟨⟨q, dgt r :: l, hq, rfl, by rw [show (⟨#[dgt r]⟩ : ByteArray) = S [dgt r] from rfl, S_app]; rfl, HBA, hid (by rw [← HE.out, HDD.out]; simp)⟩, by simp [intOf]; omega⟩
    · have hc := dgt_iv m (by omega)
      have HDD := hid (show Lib.decDigits m = [dgt m] by rw [Lib.decDigits, dif_pos (by omega)]; rfl)
      have hcv := conv_own (one_row wr (dgt m))
      rw [hc] at hcv
      have h10' : ¬ (10 : Int) ≤ (m : Int) := by omega
      have HBA := hid ((show Below w.heap.size w _ from bch HB.out (belowA wr (.cells #[.int .u8 (48 + (m : Int))] 5))))
      have er : IntKind.u8.wrap (48 + (m : Int)) = 48 + (m : Int) := by unfold IntKind.wrap; simp [IntKind.bits, IntKind.signed]; omega
      go_wp2_with fail
      go_ret
      refine ⟨?_, HBA.out⟩
      show Ending.returned (.string (S [dgt m] ++ S l)) = _
      rw [S_app, ← HDD.out, HE.out]
set_option maxHeartbeats 4000000 in
set_option maxRecDepth 100000 in
theorem rdig_any (n : Int) (w : World) (h0 : -999999999999999999 ≤ n) (h1 : n ≤ 999999999999999999) : Calls Tryd.prog 56 #[.int .i64 n] w fun e w' => e = .returned (.string (S (Lib.itoa n))) ∧ Below w.heap.size w w' := by
  by_cases hn : n < 0
  · have HD := hid (fun W => rdigp_any n.natAbs W (by omega))
    have HL := hid (dec_len (show n.natAbs ≤ 999999999999999999 by omega))
    have HI := hid (show Lib.itoa n = [45] ++ Lib.decDigits n.natAbs by unfold Lib.itoa; rw [if_pos hn]; rfl)
    have e1 : -n = ((n.natAbs : Nat) : Int) := by omega
    generalize n.natAbs = u at *
    generalize Lib.decDigits u = l at *
    have hlb : ¬ (9223372036854775807 < 1 + l.length) := by have := HL.out; omega
    have hw1 : IntKind.i64.wrap (u : Int) = u := by unfold IntKind.wrap; simp [IntKind.bits, IntKind.signed]; omega
    go_enter Tryd.func56, Tryd.ntmps56
    go_wp2_with (go_at_call 56; refine (HD.out _).mono ?_; rintro e w1 ⟨rfl, l1⟩; have L1 := hid l1; clear l1)
    go_ret
    refine ⟨?_, L1.out⟩
    show Ending.returned (.string (S [45] ++ S l)) = _
    rw [S_app, ← HI.out]
  · have := rdigp_any n.toNat w (by omega)
    rw [show ((n.toNat : Nat) : Int) = n by omega] at this
    rw [show Lib.itoa n = Lib.decDigits n.toNat by unfold Lib.itoa; rw [if_neg hn]]
    exact this
end Go.Proofs.YtdnoagebcolgbaaDoor.L
