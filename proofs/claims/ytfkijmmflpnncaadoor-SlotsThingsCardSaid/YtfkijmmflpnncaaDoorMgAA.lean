import Derived.Test.YtfkijmmflpnncaaDoorStb
namespace Go.Proofs.YtfkijmmflpnncaaDoor.L
open Go.RowKit Bs Go.Maps
set_option linter.unusedVariables false
theorem ret_int {k : IntKind} {a b : Int} (h : a = b) : Ending.returned (.int k a) = .returned (.int k b) := by rw [h]
/-- The table of math/bits. -/
def Tab (w : World) : Prop := 1 < w.heap.size ∧ ∀ k, k < 64 → w.cell? ⟨1, k, none⟩ = some (.int .u8 ((Lib.deBruijn64tab.getD k 0 : Nat) : Int))
theorem Tab.bx {F : List Nat} {B : Nat} {w w' : World} (h : Tab w) (hb : Bx F B w w') (h1 : 1 < B) (h2 : 1 ∉ F) : Tab w' := ⟨Nat.lt_of_lt_of_le h.1 hb.size, fun k hk => by
  rw [hb.cell (p := ⟨1, k, none⟩) h1 h2]; exact h.2 k hk⟩
theorem Tab.low {w w' : World} (h : Tab w) (hb : Below w.heap.size w w') : Tab w' := h.bx (Bx.of (F := []) hb) h.1 (by simp)
set_option maxHeartbeats 1000000 in
theorem tz_core (x y m j t : Nat) (w : World) (hx : ((x : Int) == 0) = false) (h1 : bits .and .u64 (x : Int) (IntKind.u64.wrap (-(x : Int))) = (y : Int)) (h2 : IntKind.u64.wrap ((y : Int) * 285870213051353865) = (m : Int))
    (h3 : (m : Int) / 288230376151711744 = (j : Int)) (hj : (j : Int) < 64) (hc : w.cell? ⟨1, j, none⟩ = some (.int .u8 (t : Int))) (ht : (t : Int) < 64) :
    Calls Tryd.prog 63 #[.int .u64 x] w fun e w' => e = .returned (.int .i64 (t : Int)) ∧ w' = w := by
  have ht0 : 0 ≤ (t : Int) := by omega
  go_enter Tryd.func63, Tryd.ntmps63
  go_wp2
  go_ret
  exact ⟨rfl, rfl⟩
theorem neg_num (x : Nat) (h0 : x ≠ 0) (hx : x < 18446744073709551616) : bits .and .u64 (x : Int) (IntKind.u64.wrap (-(x : Int))) = ((2 ^ Lib.ctz 64 x : Nat) : Int) := by
  have e : IntKind.u64.wrap (-(x : Int)) = ((18446744073709551616 - x : Nat) : Int) := by rw [IntKind.wrap_u64]; omega
  rw [e, u64_and_nat x _ hx (by omega), ← (Lib.lowest_bit 64 x h0 hx).1]
/-- TrailingZeros64, of a number that is not 0. -/
theorem tz_any (x : Nat) (w : World) (h0 : x ≠ 0) (hx : x < 18446744073709551616) (ht : Tab w) : Calls Tryd.prog 63 #[.int .u64 x] w fun e w' => e = .returned (.int .i64 ((Lib.ctz 64 x : Nat) : Int)) ∧ w' = w := by
  have hb := Lib.lowest_bit 64 x h0 hx
  have hd := Lib.deBruijn64_at (Lib.ctz 64 x) hb.2
  have hc := ht.2 _ hd.1
  rw [hd.2] at hc
  refine tz_core x (2 ^ Lib.ctz 64 x) (2 ^ Lib.ctz 64 x * 285870213051353865 % 18446744073709551616) _ (Lib.ctz 64 x) w (beq_eq_false_iff_ne.2 (by omega)) (neg_num x h0 hx) ?_ ?_ ?_ hc ?_
  · rw [IntKind.wrap_u64]; omega
  · omega
  · exact_mod_cast hd.1
  · have := hb.2; omega
/-- A row of words, to be read. -/
def ItemsK (w : World) (v : Value) (ws : List Nat) : Prop := ∃ a cap, v = .slice a ws.length cap ∧ (ws.length = 0 ∨ ∃ b, a = some ⟨b, 0, none⟩ ∧ b < w.heap.size ∧ ∀ j, j < ws.length → w.cell? ⟨b, j, none⟩ = some (.int .u64 ((ws.getD j 0 : Nat) : Int)))
theorem own_itemsK {w : World} {v : Value} {ws : List Nat} (h : OwnK w v ws) : ItemsK w v ws := by
  rcases own_form h with ⟨rfl, h0⟩ | ⟨g, cap, rfl, _, _, hlt⟩
  · exact ⟨none, 0, by rw [h0], Or.inl h0⟩
  · refine ⟨_, cap, rfl, Or.inr ⟨g, rfl, hlt, fun j hj => ?_⟩⟩
    have := h.cells (g := g) rfl j _ (wrow_get ws j hj)
    rw [Go.WideShapes.add_plain] at this
    simpa using this
/-- The lowest place that is not among the words. -/
def IsLow (ws : List Nat) (r : Nat) : Prop := r ≤ 64 * ws.length ∧ mem ws r = false ∧ ∀ j, j < r → mem ws j = true
def notN (x : Nat) : Nat := 18446744073709551615 - x
theorem not_num (x : Nat) (hx : x < 18446744073709551616) : IntKind.u64.wrap (-(x : Int) - 1) = ((notN x : Nat) : Int) := by
  rw [IntKind.wrap_u64]; unfold notN; omega
theorem testBit_notN (x i : Nat) (hx : x < 18446744073709551616) (hi : i < 64) : (notN x).testBit i = !x.testBit i := by
  have e : notN x = 2 ^ 64 - (x + 1) := by unfold notN; omega
  rw [e, Nat.testBit_two_pow_sub_succ (by exact hx)]
  simp [hi]
end Go.Proofs.YtfkijmmflpnncaaDoor.L
namespace Go.Proofs.YtfkijmmflpnncaaDoor.L
open Go.RowKit Bs Go.Maps
set_option linter.unusedVariables false
theorem xor_full (x : Nat) (hx : x < 18446744073709551616) : 18446744073709551615 ^^^ x = notN x := by
  apply word_ext _ _ (Nat.xor_lt_two_pow (n := 64) (by decide) hx) (by unfold notN; omega)
  intro b hb
  rw [testBit_notN x b hx hb, Nat.testBit_xor, show (18446744073709551615 : Nat) = 2 ^ 64 - 1 by decide, Nat.testBit_two_pow_sub_one]
  simp [hb]
theorem not_num2 (x : Nat) (hx : x < 18446744073709551616) : bits .xor .u64 (if IntKind.u64.signed = true then -1 else IntKind.u64.max) (x : Int) = ((notN x : Nat) : Int) := by
  rw [← xor_full x hx]
  exact u64_xor_nat 18446744073709551615 x (by decide) hx
theorem full_word (x : Nat) (hx : x < 18446744073709551616) (h : notN x = 0) (b : Nat) (hb : b < 64) : x.testBit b = true := by
  have := testBit_notN x b hx hb
  rw [h] at this
  cases e : x.testBit b
  · rw [e] at this; simp at this
  · rfl
theorem low_word (ws : List Nat) (k : Nat) (wd : Wd ws) (hk : k < ws.length) (h : ∀ j, j < 64 * k → mem ws j = true) (hz : notN (ws.getD k 0) ≠ 0) : IsLow ws (k * 64 + Lib.ctz 64 (notN (ws.getD k 0))) := by
  have hx := wd.getD k
  have hn : notN (ws.getD k 0) < 2 ^ 64 := by unfold notN; omega
  have hb := ctz_bit _ hz hn
  have hl := fun b => ctz_low (notN (ws.getD k 0)) b hz hn
  generalize Lib.ctz 64 (notN (ws.getD k 0)) = c at *
  refine ⟨by omega, ?_, fun j hj => ?_⟩
  · have e := mem_at ws k c hb.2
    rw [Nat.mul_comm k 64, e]
    have := hb.1
    rw [testBit_notN _ _ hx hb.2] at this
    simpa using this
  · by_cases hj2 : j < 64 * k
    · exact h j hj2
    · obtain ⟨b, rfl⟩ : ∃ b, j = 64 * k + b := ⟨j - 64 * k, by omega⟩
      rw [mem_at ws k b (by omega)]
      have := hl b (by omega)
      rw [testBit_notN _ _ hx (by omega)] at this
      simpa using this
theorem next_word (ws : List Nat) (k : Nat) (wd : Wd ws) (hk : k < ws.length) (h : ∀ j, j < 64 * k → mem ws j = true) (hz : notN (ws.getD k 0) = 0) : ∀ j, j < 64 * (k + 1) → mem ws j = true := by
  intro j hj
  by_cases hj2 : j < 64 * k
  · exact h j hj2
  · obtain ⟨b, rfl⟩ : ∃ b, j = 64 * k + b := ⟨j - 64 * k, by omega⟩
    rw [mem_at ws k b (by omega)]
    exact full_word _ (wd.getD k) hz b (by omega)
set_option maxHeartbeats 1000000 in
set_option maxRecDepth 100000 in
theorem lowest_any (v : Value) (ws : List Nat) (w : World) (hv : ItemsK w v ws) (wd : Wd ws) (ht : Tab w) (hl : ws.length ≤ 1024) :
    Calls Tryd.prog 52 #[v] w fun e w' => ∃ r : Nat, e = .returned (.int .i64 (r : Int)) ∧ IsLow ws r ∧ w' = w := by
  obtain ⟨a, cap, rfl, hi⟩ := hv
  obtain ⟨L, hL⟩ : ∃ L, L = ws.length := ⟨_, rfl⟩
  have HL := hid hL
  have HT := hid ht
  have HW := hid wd
  rw [← hL] at hi hl ⊢
  clear hL ht wd
  go_enter Tryd.func52, Tryd.ntmps52
  go_wp2
  go_loopw [7] (fun i wr => ∃ k : Nat, k ≤ L ∧ i = .int .i64 k ∧ Hid (wr = w) ∧ Hid (∀ j, j < 64 * k → mem ws j = true)) (fun i _ => L - (intOf i).toNat)
  case atStart => exact ⟨0, Nat.zero_le _, rfl, hid rfl, hid (fun j hj => by omega)⟩
  case round =>
    obtain ⟨k, hk, rfl, HB, HA⟩ := hrel
    obtain rfl := HB.out
    clear HB
    by_cases hlt : k < L
    · rcases hi with h0 | ⟨b, rfl, hbl, hc⟩
      · omega
      have hx := hc k hlt
      have hkl : k < ws.length := by rw [← HL.out]; exact hlt
      have hxb := HW.out.getD k
      have LW := hid (low_word ws k HW.out hkl HA.out)
      have NW := hid (next_word ws k HW.out hkl HA.out)
      have hnn := not_num2 (ws.getD k 0) hxb
      have hnl : notN (ws.getD k 0) < 18446744073709551616 := by unfold notN; omega
      generalize ws.getD k 0 = x at *
      generalize notN x = y at *
      clear hc
      by_cases hy : y = 0
      · subst hy
        rw [Int.natCast_zero] at hnn
        go_wp2_with fail
        exact ⟨⟨k + 1, by omega, by go_num, hid (by first | rfl | trivial), hid (NW.out (by first | rfl | trivial))⟩, by simp [intOf]; omega⟩
      · have hy2 : ((y : Int) == 0) = false := beq_eq_false_iff_ne.2 (by omega)
        have TZ := hid (tz_any y wr hy hnl HT.out)
        have LW2 := hid (LW.out hy)
        have hct := (ctz_bit y hy hnl).2
        clear LW NW
        generalize Lib.ctz 64 y = c at *
        have hy' : ¬ y = 0 := hy
        clear hy
        go_wp2_with (go_at_call 63; refine TZ.out.mono ?_; rintro e w2 ⟨rfl, hww⟩; subst hww)
        go_ret
        exact ⟨k * 64 + c, by congr 1, LW2.out, rfl⟩
    · obtain rfl : k = L := by omega
      clear hi
      go_wp2_with fail
      go_ret
      refine ⟨k * 64, by congr 1, ⟨by rw [← HL.out]; omega, mem_out ws _ (by rw [← HL.out]; omega), fun j hj => HA.out j (by omega)⟩, rfl⟩
end Go.Proofs.YtfkijmmflpnncaaDoor.L
