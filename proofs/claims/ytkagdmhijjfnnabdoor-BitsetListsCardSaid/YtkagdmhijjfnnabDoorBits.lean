import Derived.Test.YtkagdmhijjfnnabDoorOf
import Derived.Lib.TrailingZeros
import Derived.Laws.Bits128
namespace Go.Proofs.YtkagdmhijjfnnabDoor
open Go.RowKit Bs
def o1 (x : Nat) : Nat := ((x / 2) &&& 6148914691236517205) + (x &&& 6148914691236517205)
def o2 (x : Nat) : Nat := ((x / 4) &&& 3689348814741910323) + (x &&& 3689348814741910323)
def o3 (x : Nat) : Nat := ((x / 16 + x) % 18446744073709551616) &&& 1085102592571150095
def o4 (x : Nat) : Nat := (x + x / 256) % 18446744073709551616
def o5 (x : Nat) : Nat := (x + x / 65536) % 18446744073709551616
def o6 (x : Nat) : Nat := (x + x / 4294967296) % 18446744073709551616
/-- What OnesCount64 reckons. -/
def ones (x : Nat) : Nat := o6 (o5 (o4 (o3 (o2 (o1 x))))) % 128
theorem and_le (x m : Nat) : x &&& m ≤ m := Nat.and_le_right
theorem o1_num (x : Nat) (hx : x < 18446744073709551616) : IntKind.u64.wrap (bits .and .u64 ((x : Int) / 2) 6148914691236517205 + bits .and .u64 (x : Int) 6148914691236517205) = ((o1 x : Nat) : Int) := by
  have e : ((x : Int) / 2) = ((x / 2 : Nat) : Int) := by omega
  have f : bits .and .u64 ((x / 2 : Nat) : Int) 6148914691236517205 = (((x / 2) &&& 6148914691236517205 : Nat) : Int) := u64_and_nat (x / 2) 6148914691236517205 (by omega) (by decide)
  have g : bits .and .u64 (x : Int) 6148914691236517205 = ((x &&& 6148914691236517205 : Nat) : Int) := u64_and_nat x 6148914691236517205 hx (by decide)
  rw [e, f, g, IntKind.wrap_u64]
  have a := and_le (x / 2) 6148914691236517205
  have b := and_le x 6148914691236517205
  unfold o1
  omega
theorem o2_num (x : Nat) (hx : x < 18446744073709551616) : IntKind.u64.wrap (bits .and .u64 ((x : Int) / 4) 3689348814741910323 + bits .and .u64 (x : Int) 3689348814741910323) = ((o2 x : Nat) : Int) := by
  have e : ((x : Int) / 4) = ((x / 4 : Nat) : Int) := by omega
  have f : bits .and .u64 ((x / 4 : Nat) : Int) 3689348814741910323 = (((x / 4) &&& 3689348814741910323 : Nat) : Int) := u64_and_nat (x / 4) 3689348814741910323 (by omega) (by decide)
  have g : bits .and .u64 (x : Int) 3689348814741910323 = ((x &&& 3689348814741910323 : Nat) : Int) := u64_and_nat x 3689348814741910323 hx (by decide)
  rw [e, f, g, IntKind.wrap_u64]
  have a := and_le (x / 4) 3689348814741910323
  have b := and_le x 3689348814741910323
  unfold o2
  omega
theorem o3_num (x : Nat) : bits .and .u64 (IntKind.u64.wrap ((x : Int) / 16 + (x : Int))) 1085102592571150095 = ((o3 x : Nat) : Int) := by
  have e : IntKind.u64.wrap ((x : Int) / 16 + (x : Int)) = (((x / 16 + x) % 18446744073709551616 : Nat) : Int) := by rw [IntKind.wrap_u64]; omega
  rw [e]
  exact u64_and_nat _ 1085102592571150095 (Nat.mod_lt _ (by decide)) (by decide)
theorem o4_num (x : Nat) : IntKind.u64.wrap ((x : Int) + (x : Int) / 256) = ((o4 x : Nat) : Int) := by rw [IntKind.wrap_u64]; unfold o4; omega
theorem o5_num (x : Nat) : IntKind.u64.wrap ((x : Int) + (x : Int) / 65536) = ((o5 x : Nat) : Int) := by rw [IntKind.wrap_u64]; unfold o5; omega
theorem o6_num (x : Nat) : IntKind.u64.wrap ((x : Int) + (x : Int) / 4294967296) = ((o6 x : Nat) : Int) := by rw [IntKind.wrap_u64]; unfold o6; omega
theorem o1_lt (x : Nat) : o1 x < 18446744073709551616 := by
  have a := and_le (x / 2) 6148914691236517205
  have b := and_le x 6148914691236517205
  unfold o1; omega
theorem last_num (x : Nat) : bits .and .i64 (wrap64 (x : Int)) 127 = ((x % 128 : Nat) : Int) := by
  rw [i64_and127, wrap64_eq, IntKind.wrap_i64]; omega
set_option maxHeartbeats 1000000 in
theorem ones_core (x x1 x2 x3 x4 x5 x6 : Nat) (w : World) (h1 : IntKind.u64.wrap (bits .and .u64 ((x : Int) / 2) 6148914691236517205 + bits .and .u64 (x : Int) 6148914691236517205) = (x1 : Int))
    (h2 : IntKind.u64.wrap (bits .and .u64 ((x1 : Int) / 4) 3689348814741910323 + bits .and .u64 (x1 : Int) 3689348814741910323) = (x2 : Int))
    (h3 : bits .and .u64 (IntKind.u64.wrap ((x2 : Int) / 16 + (x2 : Int))) 1085102592571150095 = (x3 : Int)) (h4 : IntKind.u64.wrap ((x3 : Int) + (x3 : Int) / 256) = (x4 : Int))
    (h5 : IntKind.u64.wrap ((x4 : Int) + (x4 : Int) / 65536) = (x5 : Int)) (h6 : IntKind.u64.wrap ((x5 : Int) + (x5 : Int) / 4294967296) = (x6 : Int)) :
    Calls Tryd.prog 49 #[.int .u64 x] w fun e w' => e = .returned (.int .i64 ((x6 % 128 : Nat) : Int)) ∧ w' = w := by
  have H7 := hid (last_num x6)
  go_enter Tryd.func49, Tryd.ntmps49
  go_wp2
  go_ret
  exact ⟨ret_int H7.out, rfl⟩
/-- OnesCount64. -/
theorem ones_any (x : Nat) (w : World) (hx : x < 18446744073709551616) : Calls Tryd.prog 49 #[.int .u64 x] w fun e w' => e = .returned (.int .i64 ((ones x : Nat) : Int)) ∧ w' = w :=
  ones_core x (o1 x) (o2 (o1 x)) (o3 (o2 (o1 x))) (o4 (o3 (o2 (o1 x)))) (o5 (o4 (o3 (o2 (o1 x))))) (o6 (o5 (o4 (o3 (o2 (o1 x)))))) w (o1_num x hx) (o2_num _ (o1_lt x)) (o3_num _) (o4_num _) (o5_num _) (o6_num _)
theorem ones_lt (x : Nat) : ones x < 128 := Nat.mod_lt _ (by decide)

/-- The table of math/bits lies in block 0. -/
def Tab (w : World) : Prop := ∀ k, k < 64 → w.cell? ⟨0, k, none⟩ = some (.int .u8 ((Lib.deBruijn64tab.getD k 0 : Nat) : Int))
set_option maxHeartbeats 1000000 in
theorem tz_core (x y m j t : Nat) (w : World) (hx : ((x : Int) == 0) = false) (h1 : bits .and .u64 (x : Int) (IntKind.u64.wrap (-(x : Int))) = (y : Int)) (h2 : IntKind.u64.wrap ((y : Int) * 285870213051353865) = (m : Int))
    (h3 : (m : Int) / 288230376151711744 = (j : Int)) (hj : (j : Int) < 64) (hc : w.cell? ⟨0, j, none⟩ = some (.int .u8 (t : Int))) (ht : (t : Int) < 64) :
    Calls Tryd.prog 45 #[.int .u64 x] w fun e w' => e = .returned (.int .i64 (t : Int)) ∧ w' = w := by
  have ht0 : 0 ≤ (t : Int) := by omega
  go_enter Tryd.func45, Tryd.ntmps45
  go_wp2
  go_ret
  exact ⟨rfl, rfl⟩
theorem neg_num (x : Nat) (h0 : x ≠ 0) (hx : x < 18446744073709551616) : bits .and .u64 (x : Int) (IntKind.u64.wrap (-(x : Int))) = ((2 ^ Lib.ctz 64 x : Nat) : Int) := by
  have e : IntKind.u64.wrap (-(x : Int)) = ((18446744073709551616 - x : Nat) : Int) := by rw [IntKind.wrap_u64]; omega
  rw [e, u64_and_nat x _ hx (by omega), ← (Lib.lowest_bit 64 x h0 hx).1]
/-- TrailingZeros64, of a number that is not 0. -/
theorem tz_any (x : Nat) (w : World) (h0 : x ≠ 0) (hx : x < 18446744073709551616) (ht : Tab w) : Calls Tryd.prog 45 #[.int .u64 x] w fun e w' => e = .returned (.int .i64 ((Lib.ctz 64 x : Nat) : Int)) ∧ w' = w := by
  have hb := Lib.lowest_bit 64 x h0 hx
  have hd := Lib.deBruijn64_at (Lib.ctz 64 x) hb.2
  have hc := ht _ hd.1
  rw [hd.2] at hc
  refine tz_core x (2 ^ Lib.ctz 64 x) (2 ^ Lib.ctz 64 x * 285870213051353865 % 18446744073709551616) _ (Lib.ctz 64 x) w (beq_eq_false_iff_ne.2 (by omega)) (neg_num x h0 hx) ?_ ?_ ?_ hc ?_
  · rw [IntKind.wrap_u64]; omega
  · omega
  · exact_mod_cast hd.1
  · have := hb.2; omega
set_option maxHeartbeats 1000000 in
theorem tz_zero (w : World) : Calls Tryd.prog 45 #[.int .u64 0] w fun e w' => e = .returned (.int .i64 64) ∧ w' = w := by
  go_enter Tryd.func45, Tryd.ntmps45
  go_wp2
  go_ret
  exact ⟨rfl, rfl⟩
end Go.Proofs.YtkagdmhijjfnnabDoor
