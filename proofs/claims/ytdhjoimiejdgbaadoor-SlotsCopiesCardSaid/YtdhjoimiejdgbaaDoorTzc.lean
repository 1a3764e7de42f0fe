import Derived.Test.YtdhjoimiejdgbaaDoorStb
namespace Go.Proofs.YtdhjoimiejdgbaaDoor.L
open Go.RowKit Bs Go.Maps
set_option linter.unusedVariables false
theorem ret_int {k : IntKind} {a b : Int} (h : a = b) : Ending.returned (.int k a) = .returned (.int k b) := by rw [h]
/-- The table of math/bits. -/
def Tab (w : World) : Prop := 1 < w.heap.size ∧ ∀ k, k < 64 → w.cell? ⟨1, k, none⟩ = some (.int .u8 ((Lib.deBruijn64tab.getD k 0 : Nat) : Int))
theorem Tab.bx {F : List Nat} {B : Nat} {w w' : World} (h : Tab w) (hb : Bx F B w w') (h1 : 1 < B) (h2 : 1 ∉ F) : Tab w' := ⟨Nat.lt_of_lt_of_le h.1 hb.size, fun k hk => by
  rw [hb.cell (p := ⟨1, k, none⟩) h1 h2]; exact h.2 k hk⟩
theorem Tab.low {w w' : World} (h : Tab w) (hb : Below w.heap.size w w') : Tab w' := h.bx (Bx.of (F := []) hb) h.1 (by simp)
set_option maxHeartbeats 1000000 in
theorem tz_core (x y m j t : Nat) (w : World) (hx : ((x : Int) == 0) = false) (h1 : bits .and .u64 (x : Int) (IntKind.u64.wrap (-(x : Int))) = (y : Int)) (h2 : IntKind.u64.wrap ((y : Int) * 285870213051353865) = (m : Int))
    (h3 : (m : Int) / 288230376151711744 = (j : Int)) (hj : (j : Int) < 64) (hc : w.cell? ⟨1, j, none⟩ = some (.int .u8 (t : Int))) (ht : (t : Int) < 64) :
    Calls Tryd.prog 96 #[.int .u64 x] w fun e w' => e = .returned (.int .i64 (t : Int)) ∧ w' = w := by
  have ht0 : 0 ≤ (t : Int) := by omega
  go_enter Tryd.func96, Tryd.ntmps96
  go_wp2
  go_ret
  exact ⟨rfl, rfl⟩
theorem neg_num (x : Nat) (h0 : x ≠ 0) (hx : x < 18446744073709551616) : bits .and .u64 (x : Int) (IntKind.u64.wrap (-(x : Int))) = ((2 ^ Lib.ctz 64 x : Nat) : Int) := by
  have e : IntKind.u64.wrap (-(x : Int)) = ((18446744073709551616 - x : Nat) : Int) := by rw [IntKind.wrap_u64]; omega
  rw [e, u64_and_nat x _ hx (by omega), ← (Lib.lowest_bit 64 x h0 hx).1]
/-- TrailingZeros64, of a number that is not 0. -/
theorem tz_any (x : Nat) (w : World) (h0 : x ≠ 0) (hx : x < 18446744073709551616) (ht : Tab w) : Calls Tryd.prog 96 #[.int .u64 x] w fun e w' => e = .returned (.int .i64 ((Lib.ctz 64 x : Nat) : Int)) ∧ w' = w := by
  have hb := Lib.lowest_bit 64 x h0 hx
  have hd := Lib.deBruijn64_at (Lib.ctz 64 x) hb.2
  have hc := ht.2 _ hd.1
  rw [hd.2] at hc
  refine tz_core x (2 ^ Lib.ctz 64 x) (2 ^ Lib.ctz 64 x * 285870213051353865 % 18446744073709551616) _ (Lib.ctz 64 x) w (beq_eq_false_iff_ne.2 (by omega)) (neg_num x h0 hx) ?_ ?_ ?_ hc ?_
  · rw [IntKind.wrap_u64]; omega
  · omega
  · exact_mod_cast hd.1
  · have := hb.2; omega
/-- A row of words, to be read. -/
def ItemsK (w : World) (v : Value) (ws : List Nat) : Prop := ∃ a cap, v = .slice a ws.length cap ∧ (ws.length = 0 ∨ ∃ b, a = some ⟨b, 0, none⟩ ∧ b < w.heap.size ∧ ∀ j, j < ws.length → w.cell? ⟨b, j, none⟩ = some (.int .u64 ((ws.getD j 0 : Nat) : Int)))
theorem own_itemsK {w : World} {v : Value} {ws : List Nat} (h : OwnK w v ws) : ItemsK w v ws := by
  rcases own_form h with ⟨rfl, h0⟩ | ⟨g, cap, rfl, _, _, hlt⟩
  · exact ⟨none, 0, by rw [h0], Or.inl h0⟩
  · refine ⟨_, cap, rfl, Or.inr ⟨g, rfl, hlt, fun j hj => ?_⟩⟩
    have := h.cells (g := g) rfl j _ (wrow_get ws j hj)
    rw [Go.WideShapes.add_plain] at this
    simpa using this
/-- The lowest place that is not among the words. -/
def IsLow (ws : List Nat) (r : Nat) : Prop := r ≤ 64 * ws.length ∧ mem ws r = false ∧ ∀ j, j < r → mem ws j = true
def notN (x : Nat) : Nat := 18446744073709551615 - x
theorem not_num (x : Nat) (hx : x < 18446744073709551616) : IntKind.u64.wrap (-(x : Int) - 1) = ((notN x : Nat) : Int) := by
  rw [IntKind.wrap_u64]; unfold notN; omega
theorem testBit_notN (x i : Nat) (hx : x < 18446744073709551616) (hi : i < 64) : (notN x).testBit i = !x.testBit i := by
  have e : notN x = 2 ^ 64 - (x + 1) := by unfold notN; omega
  rw [e, Nat.testBit_two_pow_sub_succ (by exact hx)]
  simp [hi]
end Go.Proofs.YtdhjoimiejdgbaaDoor.L
