import Derived.Test.YtkagdmhijjfnnaaDoorNext
import Derived.Lib.BitFns
import Derived.Lib.ItoaNum
namespace Go.Proofs.YtkagdmhijjfnnaaDoor
open Go.RowKit Bs
theorem tab_size : (Lib.len8tab.size : Int) = 256 := by rw [Lib.len8tab_size]; rfl
theorem tab_byte (y : Nat) (h : y < Lib.len8tab.size) : ((Lib.len8tab[y]'h).toNat : Int) = Lib.len8 (y : Int) := by
  unfold Lib.len8
  rw [Int.toNat_natCast, getElem?_pos Lib.len8tab y h]
  simp only [Option.getD_some]
theorem len_num (x y : Int) (b : Int) (k : Nat) (hb : b = Lib.len8 (y.toNat : Int)) (hy : y.toNat < 256) (hk : k ≤ 56) (x0 : 0 ≤ x) (x1 : x ≤ 18446744073709551615) (he : y.toNat = x.toNat / 2 ^ k) (hs : 2 ^ k ≤ x.toNat ∨ k = 0) :
    wrap64 ((k : Int) + wrap64 b) = (Lib.bitLen x.toNat : Int) := by
  rw [hb, Lib.len8_of _ (by omega) (by omega), Int.toNat_natCast]
  have l := Lib.bitLen_le8 ⟨y.toNat, hy⟩
  simp only at l
  have s : Lib.bitLen x.toNat = k + Lib.bitLen y.toNat := by
    rcases hs with hs | hs
    · rw [he]; exact Lib.bitLen_shift k x.toNat hs (by omega)
    · subst hs; rw [he, Nat.pow_zero, Nat.div_one, Nat.zero_add]
  rw [s]
  unfold wrap64
  omega
theorem len_end (x y : Int) (k : Nat) (h : y.toNat < Lib.len8tab.size) (hy : y.toNat < 256) (hk : k ≤ 56) (x0 : 0 ≤ x) (x1 : x ≤ 18446744073709551615) (he : y.toNat = x.toNat / 2 ^ k) (hs : 2 ^ k ≤ x.toNat ∨ k = 0) :
    wrap64 ((k : Int) + wrap64 ((Lib.len8tab[y.toNat]'h).toNat : Int)) = (Lib.bitLen x.toNat : Int) :=
  len_num x y _ k (tab_byte _ h) hy hk x0 x1 he hs
theorem len_end0 (x : Int) (h : x.toNat < Lib.len8tab.size) (hy : x.toNat < 256) (x0 : 0 ≤ x) (x1 : x ≤ 18446744073709551615) :
    wrap64 (wrap64 ((Lib.len8tab[x.toNat]'h).toNat : Int)) = (Lib.bitLen x.toNat : Int) := by
  have := len_end x x 0 h hy (by decide) x0 x1 (by rw [Nat.pow_zero, Nat.div_one]) (Or.inr rfl)
  rw [← this]
  congr 1
  exact (Int.zero_add _).symm
set_option maxHeartbeats 4000000 in
set_option maxRecDepth 100000 in
theorem len64i (x : Int) (w : World) (h0 : 0 ≤ x) (h1 : x ≤ 18446744073709551615) :
    Calls Tryd.prog 62 #[.int .u64 x] w fun e w' => e = .returned (.int .i64 (Lib.bitLen x.toNat)) ∧ w' = w := by
  have hsz := tab_size
  go_enter Tryd.func62, Tryd.ntmps62
  conv in (Value.string _) => change Value.string Lib.len8tab
  go_wp2
  all_goals (go_ret; refine ⟨congrArg Ending.returned (congrArg (Value.int IntKind.i64) ?_), rfl⟩)
  · exact len_end x (x / 4294967296 / 65536 / 256) 56 _ (by omega) (by decide) h0 h1 (by omega) (by omega)
  · exact len_end x (x / 4294967296 / 65536) 48 _ (by omega) (by decide) h0 h1 (by omega) (by omega)
  · exact len_end x (x / 4294967296 / 256) 40 _ (by omega) (by decide) h0 h1 (by omega) (by omega)
  · exact len_end x (x / 4294967296) 32 _ (by omega) (by decide) h0 h1 (by omega) (by omega)
  · exact len_end x (x / 65536 / 256) 24 _ (by omega) (by decide) h0 h1 (by omega) (by omega)
  · exact len_end x (x / 65536) 16 _ (by omega) (by decide) h0 h1 (by omega) (by omega)
  · exact len_end x (x / 256) 8 _ (by omega) (by decide) h0 h1 (by omega) (by omega)
  · exact len_end0 x _ (by omega) h0 h1
theorem len64 (x : Nat) (w : World) (h : x < 18446744073709551616) :
    Calls Tryd.prog 62 #[.int .u64 (x : Int)] w fun e w' => e = .returned (.int .i64 (Lib.bitLen x : Nat)) ∧ w' = w := by
  have := len64i (x : Int) w (by omega) (by omega)
  rw [Int.toNat_natCast] at this
  exact this
theorem bitLen_le (x : Nat) (h : x < 18446744073709551616) : Lib.bitLen x ≤ 64 := Lib.bitLen_le x 64 (Nat.le_refl _) h
set_option maxHeartbeats 1000000 in
set_option maxRecDepth 100000 in
theorem lz64 (x : Nat) (w : World) (h : x < 18446744073709551616) :
    Calls Tryd.prog 61 #[.int .u64 (x : Int)] w fun e w' => e = .returned (.int .i64 ((64 - Lib.bitLen x : Nat) : Int)) ∧ w' = w := by
  have hb := bitLen_le x h
  have HL := hid (fun W => len64 x W h)
  obtain ⟨l, hl⟩ : ∃ l, l = Lib.bitLen x := ⟨_, rfl⟩
  rw [← hl] at hb HL ⊢
  have hw : IntKind.i64.wrap (64 - (l : Int)) = ((64 - l : Nat) : Int) := by rw [IntKind.wrap_i64]; omega
  clear hl h
  go_enter Tryd.func61, Tryd.ntmps61
  go_wp2_with (go_at_call 62; refine (HL.out _).mono ?_; rintro e w1 ⟨rfl, hww⟩; subst hww)
  go_ret
  refine ⟨congrArg Ending.returned (congrArg (Value.int IntKind.i64) ?_), rfl⟩
  simp
/-- The highest bit. -/
theorem bitLen_top (x : Nat) (h0 : x ≠ 0) (h : x < 18446744073709551616) : 1 ≤ Lib.bitLen x ∧ x.testBit (Lib.bitLen x - 1) = true ∧ ∀ b, Lib.bitLen x ≤ b → x.testBit b = false := by
  obtain ⟨a, b, c⟩ := Lib.bitLenAux_bounds 64 x h h0
  have e : Lib.bitLen x = Lib.bitLenAux 64 x := rfl
  rw [e]
  generalize Lib.bitLenAux 64 x = L at a b c
  refine ⟨a, ?_, fun b hb => Nat.testBit_lt_two_pow (Nat.lt_of_lt_of_le c (Nat.pow_le_pow_right (by decide) hb))⟩
  obtain ⟨m, rfl⟩ : ∃ m, L = m + 1 := ⟨L - 1, by omega⟩
  rw [Nat.add_sub_cancel] at b ⊢
  rw [Nat.testBit_eq_decide_div_mod_eq, decide_eq_true_iff]
  have : x / 2 ^ m = 1 := by
    rw [Nat.pow_succ] at c
    exact Nat.div_eq_of_lt_le (by omega) (by omega)
  rw [this]
end Go.Proofs.YtkagdmhijjfnnaaDoor
