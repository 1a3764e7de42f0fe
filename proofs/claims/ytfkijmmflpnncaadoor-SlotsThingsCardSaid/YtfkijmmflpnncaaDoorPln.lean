import Derived.Laws.BitsAllLaws
import Derived.Lib.TrailingZeros
import Derived.Laws.Bits128
namespace Go.Proofs.YtfkijmmflpnncaaDoor.Bs

/-- Is the number i in the set whose words are ws? -/
def mem (ws : List Nat) (i : Nat) : Bool := (ws.getD (i / 64) 0).testBit (i % 64)
/-- Word by word with another list, which is 0 beyond its end. -/
def opW (f : Nat → Nat → Nat) (ws vs : List Nat) : List Nat := ws.mapIdx fun i x => f x (vs.getD i 0)
def anot (x y : Nat) : Nat := x &&& (18446744073709551615 - y)
/-- Every word is a word. -/
def Wd (ws : List Nat) : Prop := ∀ x ∈ ws, x < 18446744073709551616
/-- The last word without the bits from n on. -/
def cutW (n : Nat) (ws : List Nat) : List Nat := if n % 64 = 0 then ws else ws.set (ws.length - 1) (ws.getD (ws.length - 1) 0 &&& (2 ^ (n % 64) - 1))
def widW (k : Nat) (ws : List Nat) : List Nat := ws ++ List.replicate (k - ws.length) 0
def nw (n : Nat) : Nat := (n + 63) / 64

theorem length_opW (f : Nat → Nat → Nat) (ws vs : List Nat) : (opW f ws vs).length = ws.length := by simp [opW]
theorem getD_opW (f : Nat → Nat → Nat) (ws vs : List Nat) (i : Nat) : (opW f ws vs).getD i 0 = if i < ws.length then f (ws.getD i 0) (vs.getD i 0) else 0 := by
  unfold opW
  rw [List.getD_eq_getElem?_getD, List.getElem?_mapIdx]
  split
  · rename_i h; simp [List.getElem?_eq_getElem h]
  · rename_i h; rw [List.getElem?_eq_none (by omega)]; rfl
theorem length_widW (k : Nat) (ws : List Nat) (h : ws.length ≤ k) : (widW k ws).length = k := by simp [widW]; omega
theorem getD_widW (k : Nat) (ws : List Nat) (i : Nat) : (widW k ws).getD i 0 = ws.getD i 0 := by
  unfold widW
  simp only [List.getD_eq_getElem?_getD, List.getElem?_append]
  split
  · rfl
  · rename_i h
    rw [List.getElem?_eq_none (l := ws) (by omega), List.getElem?_replicate]
    split <;> rfl
theorem length_cutW (n : Nat) (ws : List Nat) : (cutW n ws).length = ws.length := by unfold cutW; split <;> simp
theorem mem_widW (k : Nat) (ws : List Nat) (i : Nat) : mem (widW k ws) i = mem ws i := by simp only [mem, getD_widW]
theorem mem_out (ws : List Nat) (i : Nat) (h : ws.length ≤ i / 64) : mem ws i = false := by
  unfold mem; rw [List.getD_eq_getElem?_getD, List.getElem?_eq_none h]; simp
theorem Wd.getD {ws : List Nat} (h : Wd ws) (i : Nat) : ws.getD i 0 < 18446744073709551616 := by
  rw [List.getD_eq_getElem?_getD]
  rcases hi : ws[i]? with _ | x
  · decide
  · exact h x (List.mem_of_getElem? hi)
theorem Wd.widW {ws : List Nat} (h : Wd ws) (k : Nat) : Wd (widW k ws) := by
  intro x hx
  simp only [Bs.widW, List.mem_append, List.mem_replicate] at hx
  rcases hx with hx | ⟨_, rfl⟩
  · exact h x hx
  · decide
theorem Wd.opW {ws vs : List Nat} {f : Nat → Nat → Nat} (h : Wd ws) (k : Wd vs) (hf : ∀ x y, x < 18446744073709551616 → y < 18446744073709551616 → f x y < 18446744073709551616) : Wd (opW f ws vs) := by
  intro x hx
  unfold Bs.opW at hx
  obtain ⟨i, hi, rfl⟩ := List.mem_iff_getElem.1 hx
  simp only [List.getElem_mapIdx]
  exact hf _ _ (h _ (List.getElem_mem _)) (k.getD i)
theorem Wd.cutW {ws : List Nat} (h : Wd ws) (n : Nat) : Wd (cutW n ws) := by
  unfold Bs.cutW
  split
  · exact h
  · intro x hx
    rcases List.mem_or_eq_of_mem_set hx with hx | rfl
    · exact h x hx
    · exact Nat.lt_of_le_of_lt Nat.and_le_left (h.getD _)
theorem Wd.set {ws : List Nat} (h : Wd ws) (k x : Nat) (hx : x < 18446744073709551616) : Wd (ws.set k x) := by
  intro y hy
  rcases List.mem_or_eq_of_mem_set hy with hy | rfl
  · exact h y hy
  · exact hx
theorem and_lt (x y : Nat) (hx : x < 18446744073709551616) : x &&& y < 18446744073709551616 := Nat.lt_of_le_of_lt Nat.and_le_left hx
theorem anot_lt (x y : Nat) (hx : x < 18446744073709551616) : anot x y < 18446744073709551616 := and_lt _ _ hx
theorem or_lt (x y : Nat) (hx : x < 18446744073709551616) (hy : y < 18446744073709551616) : x ||| y < 18446744073709551616 := Nat.or_lt_two_pow (n := 64) hx hy
theorem xor_lt (x y : Nat) (hx : x < 18446744073709551616) (hy : y < 18446744073709551616) : x ^^^ y < 18446744073709551616 := Nat.xor_lt_two_pow (n := 64) hx hy
theorem testBit_anot (x y i : Nat) (hy : y < 18446744073709551616) (hx : x < 18446744073709551616) : (anot x y).testBit i = (x.testBit i && !y.testBit i) := by
  unfold anot
  have e : 18446744073709551615 - y = 2 ^ 64 - (y + 1) := by omega
  rw [Nat.testBit_and, e, Nat.testBit_two_pow_sub_succ (by exact hy)]
  by_cases h : i < 64
  · simp [h]
  · have : x.testBit i = false := Nat.testBit_lt_two_pow (Nat.lt_of_lt_of_le hx (Nat.pow_le_pow_right (n := 2) (by decide) (show 64 ≤ i by omega)))
    simp [this]
theorem mem_and (ws vs : List Nat) (i : Nat) : mem (opW (· &&& ·) ws vs) i = (mem ws i && mem vs i) := by
  unfold mem; rw [getD_opW]
  split
  · simp
  · rename_i h; rw [show ws.getD (i/64) 0 = 0 by rw [List.getD_eq_getElem?_getD, List.getElem?_eq_none (by omega)]; rfl]; simp
theorem mem_anot (ws vs : List Nat) (i : Nat) (h1 : Wd ws) (h2 : Wd vs) : mem (opW anot ws vs) i = (mem ws i && !mem vs i) := by
  unfold mem; rw [getD_opW]
  split
  · exact testBit_anot _ _ _ (h2.getD _) (h1.getD _)
  · rename_i h; rw [show ws.getD (i/64) 0 = 0 by rw [List.getD_eq_getElem?_getD, List.getElem?_eq_none (by omega)]; rfl]; simp
theorem mem_or (ws vs : List Nat) (i : Nat) : mem (opW (· ||| ·) ws vs) i = (mem ws i || (decide (i / 64 < ws.length) && mem vs i)) := by
  unfold mem; rw [getD_opW]
  split
  · rename_i h; simp [h]
  · rename_i h; rw [show ws.getD (i/64) 0 = 0 by rw [List.getD_eq_getElem?_getD, List.getElem?_eq_none (by omega)]; rfl]; simp [h]
theorem mem_xor (ws vs : List Nat) (i : Nat) : mem (opW (· ^^^ ·) ws vs) i = (mem ws i ^^ (decide (i / 64 < ws.length) && mem vs i)) := by
  unfold mem; rw [getD_opW]
  split
  · rename_i h; simp [h]
  · rename_i h; rw [show ws.getD (i/64) 0 = 0 by rw [List.getD_eq_getElem?_getD, List.getElem?_eq_none (by omega)]; rfl]; simp [h]
theorem mem_set (ws : List Nat) (k x i : Nat) (hk : k < ws.length) : mem (ws.set k x) i = if i / 64 = k then x.testBit (i % 64) else mem ws i := by
  unfold mem
  simp only [List.getD_eq_getElem?_getD, List.getElem?_set]
  by_cases h : i / 64 = k
  · simp [h, hk]
  · rw [if_neg (by omega), if_neg h]
theorem mem_cutW (n : Nat) (ws : List Nat) (h : ws.length = nw n) (i : Nat) : mem (cutW n ws) i = (mem ws i && decide (i < n)) := by
  unfold nw at h
  unfold cutW
  split
  · rename_i h0
    by_cases hi : i < n
    · simp [hi]
    · rw [mem_out ws i (by omega)]; simp
  · rename_i h0
    rw [mem_set _ _ _ _ (by omega)]
    split
    · rename_i h1
      rw [Nat.testBit_and, Nat.testBit_two_pow_sub_one]
      unfold mem; rw [h1]
      congr 1
      rw [decide_eq_decide]; omega
    · rename_i h1
      by_cases hi : i < n
      · simp [hi]
      · rw [mem_out ws i (by omega)]; simp

/-- Tidy: no number from n on. -/
def Tidy (n : Nat) (ws : List Nat) : Prop := ∀ i, n ≤ i → mem ws i = false
theorem word_ext (x y : Nat) (hx : x < 18446744073709551616) (hy : y < 18446744073709551616) (h : ∀ b, b < 64 → x.testBit b = y.testBit b) : x = y := by
  apply Nat.eq_of_testBit_eq
  intro i
  by_cases hi : i < 64
  · exact h i hi
  · have a : ∀ z, z < 18446744073709551616 → z.testBit i = false := fun z hz => Nat.testBit_lt_two_pow (Nat.lt_of_lt_of_le hz (Nat.pow_le_pow_right (n := 2) (by decide) (show 64 ≤ i by omega)))
    rw [a x hx, a y hy]
theorem mem_at (ws : List Nat) (k b : Nat) (hb : b < 64) : mem ws (64 * k + b) = (ws.getD k 0).testBit b := by
  unfold mem
  rw [show (64 * k + b) / 64 = k by omega, show (64 * k + b) % 64 = b by omega]
theorem word_zero_iff (x : Nat) (hx : x < 18446744073709551616) : x = 0 ↔ ∀ b, b < 64 → x.testBit b = false :=
  ⟨fun h => by subst h; simp, fun h => word_ext x 0 hx (by decide) (fun b hb => by simp [h b hb])⟩
/-- Subset, word by word. -/
theorem subset_iff (ws vs : List Nat) (h1 : Wd ws) (h2 : Wd vs) : (∀ k, k < ws.length → anot (ws.getD k 0) (vs.getD k 0) = 0) ↔ ∀ i, mem ws i = true → mem vs i = true := by
  constructor
  · intro h i hi
    by_cases hk : i / 64 < ws.length
    · have := h _ hk
      have e := testBit_anot (ws.getD (i/64) 0) (vs.getD (i/64) 0) (i % 64) (h2.getD _) (h1.getD _)
      rw [this] at e
      unfold mem at hi ⊢
      rw [hi] at e
      simpa using e
    · rw [mem_out ws i (by omega)] at hi; cases hi
  · intro h k hk
    rw [word_zero_iff _ (anot_lt _ _ (h1.getD _))]
    intro b hb
    rw [testBit_anot _ _ _ (h2.getD _) (h1.getD _)]
    have := h (64 * k + b)
    rw [mem_at _ _ _ hb, mem_at _ _ _ hb] at this
    cases hx : (ws.getD k 0).testBit b <;> simp_all
theorem meets_iff (ws vs : List Nat) (h1 : Wd ws) : (∃ k, k < ws.length ∧ k < vs.length ∧ ws.getD k 0 &&& vs.getD k 0 ≠ 0) ↔ ∃ i, mem ws i = true ∧ mem vs i = true := by
  constructor
  · rintro ⟨k, hk, _, h⟩
    have : ¬ ∀ b, b < 64 → (ws.getD k 0 &&& vs.getD k 0).testBit b = false := fun c => h ((word_zero_iff _ (and_lt _ _ (h1.getD _))).2 c)
    simp only [Classical.not_forall] at this
    obtain ⟨b, hb, hx⟩ := this
    refine ⟨64 * k + b, ?_⟩
    rw [mem_at _ _ _ hb, mem_at _ _ _ hb]
    simpa using hx
  · rintro ⟨i, a, b⟩
    have k1 : i / 64 < ws.length := by
      apply Classical.byContradiction; intro c; rw [mem_out ws i (by omega)] at a; cases a
    have k2 : i / 64 < vs.length := by
      apply Classical.byContradiction; intro c; rw [mem_out vs i (by omega)] at b; cases b
    refine ⟨i / 64, k1, k2, fun c => ?_⟩
    have : (ws.getD (i/64) 0 &&& vs.getD (i/64) 0).testBit (i % 64) = true := by
      rw [Nat.testBit_and]; unfold mem at a b; rw [a, b]; rfl
    rw [c] at this; simp at this
theorem ctz_bit (x : Nat) (h0 : x ≠ 0) (h : x < 2 ^ 64) : x.testBit (Go.Lib.ctz 64 x) = true ∧ Go.Lib.ctz 64 x < 64 := by
  have hc : Go.Lib.ctz 64 x = Go.Lib.ctzFrom 64 x := by unfold Go.Lib.ctz; rw [if_neg h0]
  obtain ⟨m, e, hl⟩ := Go.Lib.ctzFrom_spec 64 x (by omega) h
  rw [hc]
  refine ⟨?_, hl⟩
  generalize Go.Lib.ctzFrom 64 x = c at e hl ⊢
  rw [Nat.testBit_eq_decide_div_mod_eq, decide_eq_true_iff, e, Nat.mul_div_cancel_left _ (Nat.two_pow_pos c)]
  omega
open Go.Lib (ctz)
theorem ctz_form (y : Nat) (h0 : y ≠ 0) (hy : y < 2 ^ 64) : ∃ m, y = 2 ^ ctz 64 y * (2 * m + 1) ∧ ctz 64 y < 64 := by
  have hc : ctz 64 y = Go.Lib.ctzFrom 64 y := by unfold ctz; rw [if_neg h0]
  rw [hc]
  exact Go.Lib.ctzFrom_spec 64 y (by omega) hy
theorem ctz_low (y b : Nat) (h0 : y ≠ 0) (hy : y < 2 ^ 64) (hb : b < ctz 64 y) : y.testBit b = false := by
  obtain ⟨m, e, _⟩ := ctz_form y h0 hy
  generalize ctz 64 y = c at e hb
  subst e
  rw [Nat.testBit_two_pow_mul]
  simp; omega
end Go.Proofs.YtfkijmmflpnncaaDoor.Bs
