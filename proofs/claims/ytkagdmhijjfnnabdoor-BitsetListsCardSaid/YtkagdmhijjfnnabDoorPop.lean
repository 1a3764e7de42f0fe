import Derived.Test.YtkagdmhijjfnnabDoorPlain
/-! OnesCount64 counts the bits: by bytes. -/
namespace Bs
/-- How many of the lowest f bits are set. -/
def pop : Nat → Nat → Nat
  | 0, _ => 0
  | f + 1, x => x % 2 + pop f (x / 2)
theorem and_split (a b c d : Nat) (ha : a < 256) (hb : b < 256) : (a + 256 * c) &&& (b + 256 * d) = (a &&& b) + 256 * (c &&& d) := by
  have e1 : a + 256 * c = 2 ^ 8 * c + a := by omega
  have e2 : b + 256 * d = 2 ^ 8 * d + b := by omega
  have e3 : (a &&& b) + 256 * (c &&& d) = 2 ^ 8 * (c &&& d) + (a &&& b) := by omega
  have hab : a &&& b < 2 ^ 8 := Nat.lt_of_le_of_lt Nat.and_le_left ha
  rw [e1, e2, e3]
  apply Nat.eq_of_testBit_eq
  intro i
  rw [Nat.testBit_and, Nat.testBit_two_pow_mul_add _ ha, Nat.testBit_two_pow_mul_add _ hb, Nat.testBit_two_pow_mul_add _ hab]
  by_cases h : i < 8
  · simp [h]
  · simp [h]
/-- f at each of k bytes. -/
def mp : Nat → (Nat → Nat) → Nat → Nat
  | 0, _, _ => 0
  | k + 1, f, x => f (x % 256) + 256 * mp k f (x / 256)
def rep : Nat → Nat → Nat
  | 0, _ => 0
  | k + 1, c => c + 256 * rep k c
def s1 (b : Nat) : Nat := ((b / 2) &&& 85) + (b &&& 85)
def s2 (b : Nat) : Nat := ((b / 4) &&& 51) + (b &&& 51)
def s3 (b : Nat) : Nat := (b / 16 + b) &&& 15
theorem b1 : ∀ b : Fin 256, ∀ c : Fin 2, (b.val / 2 + 128 * c.val) &&& 85 = (b.val / 2) &&& 85 := by decide +kernel
theorem b2 : ∀ b : Fin 256, ∀ c : Fin 4, (b.val / 4 + 64 * c.val) &&& 51 = (b.val / 4) &&& 51 := by decide +kernel
theorem b3 : ∀ b : Fin 256, s3 (s2 (s1 b.val)) = pop 8 b.val := by decide +kernel
theorem b4 : ∀ b : Fin 256, s1 b.val < 256 ∧ s2 (s1 b.val) < 256 ∧ s2 (s1 b.val) % 16 ≤ 4 ∧ s2 (s1 b.val) / 16 ≤ 4 ∧ pop 8 b.val ≤ 8 := by decide +kernel
theorem b5 : ∀ a : Fin 137, ∀ c : Fin 8, (a.val + 16 * c.val) &&& 15 = a.val &&& 15 := by decide +kernel
theorem mp_mod (k : Nat) (f : Nat → Nat) (x : Nat) (hf : ∀ b, b < 256 → f b < 256) : mp (k + 1) f x % 256 = f (x % 256) := by
  have := hf (x % 256) (Nat.mod_lt _ (by decide))
  rw [mp]; omega
theorem mp_div (k : Nat) (f : Nat → Nat) (x : Nat) (hf : ∀ b, b < 256 → f b < 256) : mp (k + 1) f x / 256 = mp k f (x / 256) := by
  have := hf (x % 256) (Nat.mod_lt _ (by decide))
  rw [mp]; omega
theorem t1 : ∀ (k x : Nat), ((x / 2) &&& rep k 85) + (x &&& rep k 85) = mp k s1 x
  | 0, x => by simp [rep, mp]
  | k + 1, x => by
    have hb : x % 256 < 256 := Nat.mod_lt _ (by decide)
    have hx : x = x % 256 + 256 * (x / 256) := by omega
    have hx2 : x / 2 = (x % 256 / 2 + 128 * (x / 256 % 2)) + 256 * (x / 256 / 2) := by omega
    have a1 : (x / 2) &&& rep (k + 1) 85 = ((x % 256 / 2) &&& 85) + 256 * ((x / 256 / 2) &&& rep k 85) := by
      rw [hx2, rep, and_split _ _ _ _ (by omega) (by decide), b1 ⟨x % 256, hb⟩ ⟨x / 256 % 2, Nat.mod_lt _ (by decide)⟩]
    have a2 : x &&& rep (k + 1) 85 = (x % 256 &&& 85) + 256 * ((x / 256) &&& rep k 85) := by
      conv => lhs; rw [hx]
      rw [rep, and_split _ _ _ _ hb (by decide)]
    rw [a1, a2, mp, ← t1 k (x / 256), s1]; omega
theorem t2 : ∀ (k x : Nat), ((x / 4) &&& rep k 51) + (x &&& rep k 51) = mp k s2 x
  | 0, x => by simp [rep, mp]
  | k + 1, x => by
    have hb : x % 256 < 256 := Nat.mod_lt _ (by decide)
    have hx : x = x % 256 + 256 * (x / 256) := by omega
    have hx2 : x / 4 = (x % 256 / 4 + 64 * (x / 256 % 4)) + 256 * (x / 256 / 4) := by omega
    have a1 : (x / 4) &&& rep (k + 1) 51 = ((x % 256 / 4) &&& 51) + 256 * ((x / 256 / 4) &&& rep k 51) := by
      rw [hx2, rep, and_split _ _ _ _ (by omega) (by decide), b2 ⟨x % 256, hb⟩ ⟨x / 256 % 4, Nat.mod_lt _ (by decide)⟩]
    have a2 : x &&& rep (k + 1) 51 = (x % 256 &&& 51) + 256 * ((x / 256) &&& rep k 51) := by
      conv => lhs; rw [hx]
      rw [rep, and_split _ _ _ _ hb (by decide)]
    rw [a1, a2, mp, ← t2 k (x / 256), s2]; omega
theorem mp_comp (f g : Nat → Nat) (hf : ∀ b, b < 256 → f b < 256) : ∀ (k x : Nat), mp k g (mp k f x) = mp k (fun b => g (f b)) x
  | 0, _ => rfl
  | k + 1, x => by
    conv => lhs; rw [mp]
    rw [mp_mod k f x hf, mp_div k f x hf, mp_comp f g hf k (x / 256), mp]
/-- Every byte's two halves are at most 4. -/
def small (g : Nat → Nat) : Prop := ∀ b, b < 256 → g b < 256 ∧ g b % 16 ≤ 4 ∧ g b / 16 ≤ 4
theorem mp_low (g : Nat → Nat) (hg : small g) : ∀ (k x : Nat), mp k g x % 16 ≤ 4
  | 0, _ => by simp [mp]
  | k + 1, x => by
    have := hg (x % 256) (Nat.mod_lt _ (by decide))
    rw [mp]; omega
theorem t3 (g : Nat → Nat) (hg : small g) : ∀ (k x : Nat), ((mp k g x / 16 + mp k g x) &&& rep k 15) = mp k (fun b => s3 (g b)) x
  | 0, _ => by simp [rep, mp]
  | k + 1, x => by
    have hb := hg (x % 256) (Nat.mod_lt _ (by decide))
    have hl := mp_low g hg k (x / 256)
    have e : mp (k + 1) g x / 16 + mp (k + 1) g x = ((g (x % 256) / 16 + g (x % 256)) + 16 * (mp k g (x / 256) % 16)) + 256 * (mp k g (x / 256) / 16 + mp k g (x / 256)) := by rw [mp]; omega
    rw [e, rep, and_split _ _ _ _ (by omega) (by decide), t3 g hg k (x / 256)]
    have h5 := b5 ⟨g (x % 256) / 16 + g (x % 256), by omega⟩ ⟨mp k g (x / 256) % 16, by omega⟩
    simp only at h5
    rw [h5]
    conv => rhs; rw [mp]
    rfl
theorem mp_congr (f g : Nat → Nat) (h : ∀ b, b < 256 → f b = g b) : ∀ (k x : Nat), mp k f x = mp k g x
  | 0, _ => rfl
  | k + 1, x => by rw [mp, mp, mp_congr f g h k, h (x % 256) (Nat.mod_lt _ (by decide))]
theorem small_s : small (fun b => s2 (s1 b)) := fun b hb => ⟨(b4 ⟨b, hb⟩).2.1, (b4 ⟨b, hb⟩).2.2.1, (b4 ⟨b, hb⟩).2.2.2.1⟩
theorem rep55 : rep 8 85 = 6148914691236517205 := by decide
theorem rep33 : rep 8 51 = 3689348814741910323 := by decide
theorem rep0f : rep 8 15 = 1085102592571150095 := by decide
/-- The bytes' sums. -/
theorem fold8 (c0 c1 c2 c3 c4 c5 c6 c7 z : Nat) (hz : z = c0 + 256 * (c1 + 256 * (c2 + 256 * (c3 + 256 * (c4 + 256 * (c5 + 256 * (c6 + 256 * (c7 + 256 * 0)))))))) (h0 : c0 ≤ 8) (h1 : c1 ≤ 8) (h2 : c2 ≤ 8) (h3 : c3 ≤ 8) (h4 : c4 ≤ 8) (h5 : c5 ≤ 8) (h6 : c6 ≤ 8) (h7 : c7 ≤ 8) :
    ((((z + z / 256) % 18446744073709551616 + (z + z / 256) % 18446744073709551616 / 65536) % 18446744073709551616 + ((z + z / 256) % 18446744073709551616 + (z + z / 256) % 18446744073709551616 / 65536) % 18446744073709551616 / 4294967296) % 18446744073709551616) % 128 = c0 + c1 + c2 + c3 + c4 + c5 + c6 + c7 := by
  obtain ⟨a, ha⟩ : ∃ a, a = (z + z / 256) % 18446744073709551616 := ⟨_, rfl⟩
  have ea : a = (c0 + c1) + 256 * (c1 + c2) + 65536 * (c2 + c3) + 16777216 * (c3 + c4) + 4294967296 * (c4 + c5) + 1099511627776 * (c5 + c6) + 281474976710656 * (c6 + c7) + 72057594037927936 * c7 := by omega
  rw [← ha]
  clear ha hz
  have q5 : a / 65536 = (c2 + c3) + 256 * (c3 + c4) + 65536 * (c4 + c5) + 16777216 * (c5 + c6) + 4294967296 * (c6 + c7) + 1099511627776 * c7 := by
    obtain ⟨Q, hQ⟩ : ∃ Q, Q = (c2 + c3) + 256 * (c3 + c4) + 65536 * (c4 + c5) + 16777216 * (c5 + c6) + 4294967296 * (c6 + c7) + 1099511627776 * c7 := ⟨_, rfl⟩
    obtain ⟨R, hR⟩ : ∃ R, R = (c0 + c1) + 256 * (c1 + c2) := ⟨_, rfl⟩
    have e : a = 65536 * Q + R := by rw [ea, hQ, hR]; omega
    have hl : R < 65536 := by omega
    rw [← hQ, e]
    clear ea hQ hR e
    omega
  rw [q5]
  obtain ⟨b, hb⟩ : ∃ b, b = (a + ((c2 + c3) + 256 * (c3 + c4) + 65536 * (c4 + c5) + 16777216 * (c5 + c6) + 4294967296 * (c6 + c7) + 1099511627776 * c7)) % 18446744073709551616 := ⟨_, rfl⟩
  have eb : b = (c0 + c1 + c2 + c3) + 256 * (c1 + c2 + c3 + c4) + 65536 * (c2 + c3 + c4 + c5) + 16777216 * (c3 + c4 + c5 + c6) + 4294967296 * (c4 + c5 + c6 + c7) + 1099511627776 * (c5 + c6 + c7) + 281474976710656 * (c6 + c7) + 72057594037927936 * c7 := by omega
  rw [← hb]
  clear hb ea q5
  have q6 : b / 4294967296 = (c4 + c5 + c6 + c7) + 256 * (c5 + c6 + c7) + 65536 * (c6 + c7) + 16777216 * c7 := by
    obtain ⟨Q, hQ⟩ : ∃ Q, Q = (c4 + c5 + c6 + c7) + 256 * (c5 + c6 + c7) + 65536 * (c6 + c7) + 16777216 * c7 := ⟨_, rfl⟩
    obtain ⟨R, hR⟩ : ∃ R, R = (c0 + c1 + c2 + c3) + 256 * (c1 + c2 + c3 + c4) + 65536 * (c2 + c3 + c4 + c5) + 16777216 * (c3 + c4 + c5 + c6) := ⟨_, rfl⟩
    have e : b = 4294967296 * Q + R := by rw [eb, hQ, hR]; omega
    have hl : R < 4294967296 := by omega
    rw [← hQ, e]
    clear eb hQ hR e
    omega
  rw [q6]
  have e7 : (b + ((c4 + c5 + c6 + c7) + 256 * (c5 + c6 + c7) + 65536 * (c6 + c7) + 16777216 * c7)) % 18446744073709551616 % 128 = (c0 + c1 + c2 + c3 + c4 + c5 + c6 + c7) % 128 := by
    obtain ⟨T, hT⟩ : ∃ T, T = 2 * (c1 + c2 + c3 + c4) + 512 * (c2 + c3 + c4 + c5) + 131072 * (c3 + c4 + c5 + c6) + 33554432 * (c4 + c5 + c6 + c7) + 8589934592 * (c5 + c6 + c7) + 2199023255552 * (c6 + c7) + 562949953421312 * c7 + 2 * (c5 + c6 + c7) + 512 * (c6 + c7) + 131072 * c7 := ⟨_, rfl⟩
    have e : b + ((c4 + c5 + c6 + c7) + 256 * (c5 + c6 + c7) + 65536 * (c6 + c7) + 16777216 * c7) = (c0 + c1 + c2 + c3 + c4 + c5 + c6 + c7) + 128 * T := by rw [eb, hT]; omega
    rw [e]
    clear e eb hT q6
    omega
  rw [e7]
  omega
theorem pop_add : ∀ (f g x : Nat), pop (f + g) x = pop f x + pop g (x / 2 ^ f)
  | 0, g, x => by simp [pop]
  | f + 1, g, x => by
    rw [show f + 1 + g = (f + g) + 1 by omega, pop, pop_add f g, pop, Nat.div_div_eq_div_mul, Nat.pow_succ, Nat.mul_comm 2]
    omega
theorem pop_bytes (x : Nat) : pop 64 x = pop 8 x + pop 8 (x / 256) + pop 8 (x / 256 / 256) + pop 8 (x / 256 / 256 / 256) + pop 8 (x / 256 / 256 / 256 / 256) + pop 8 (x / 256 / 256 / 256 / 256 / 256) + pop 8 (x / 256 / 256 / 256 / 256 / 256 / 256) + pop 8 (x / 256 / 256 / 256 / 256 / 256 / 256 / 256) := by
  have h : ∀ k y, pop (8 + k) y = pop 8 y + pop k (y / 256) := fun k y => by rw [pop_add]
  rw [show 64 = 8 + 56 from rfl, h, show 56 = 8 + 48 from rfl, h, show 48 = 8 + 40 from rfl, h, show 40 = 8 + 32 from rfl, h, show 32 = 8 + 24 from rfl, h, show 24 = 8 + 16 from rfl, h, show 16 = 8 + 8 from rfl, h]
  omega
theorem pop_mod (f x : Nat) : ∀ n, f ≤ n → pop f (x % 2 ^ n) = pop f x := by
  induction f generalizing x with
  | zero => intro _ _; rfl
  | succ f ih =>
    intro n hn
    obtain ⟨m, rfl⟩ : ∃ m, n = m + 1 := ⟨n - 1, by omega⟩
    have e1 : x % 2 ^ (m + 1) % 2 = x % 2 := Nat.mod_mod_of_dvd x ⟨2 ^ m, by rw [Nat.pow_succ, Nat.mul_comm]⟩
    have e2 : x % 2 ^ (m + 1) / 2 = x / 2 % 2 ^ m := by
      rw [Nat.pow_succ, Nat.mul_comm, Nat.mod_mul_right_div_self]
    rw [pop, pop, e1, e2, ih (x / 2) m (by omega)]
theorem pop8_mod (x : Nat) : pop 8 (x % 256) = pop 8 x := pop_mod 8 x 8 (Nat.le_refl _)
theorem pop8_le (x : Nat) : pop 8 x ≤ 8 := by
  rw [← pop8_mod]; exact (b4 ⟨x % 256, Nat.mod_lt _ (by decide)⟩).2.2.2.2
end Bs
namespace Bs
/-- How many numbers below n are in S. -/
def card : Nat → (Nat → Bool) → Nat
  | 0, _ => 0
  | n + 1, S => card n S + (S n).toNat
theorem card_congr {S T : Nat → Bool} : ∀ n, (∀ i, i < n → S i = T i) → card n S = card n T
  | 0, _ => rfl
  | n + 1, h => by rw [card, card, card_congr n (fun i hi => h i (by omega)), h n (by omega)]
theorem card_more {S : Nat → Bool} (n : Nat) (h : ∀ i, n ≤ i → S i = false) : ∀ k, card (n + k) S = card n S
  | 0 => rfl
  | k + 1 => by rw [show n + (k + 1) = (n + k) + 1 by omega, card, card_more n h k, h (n + k) (by omega)]; rfl
theorem card_or_and (S T : Nat → Bool) : ∀ n, card n (fun i => S i || T i) + card n (fun i => S i && T i) = card n S + card n T
  | 0 => rfl
  | n + 1 => by
    have := card_or_and S T n
    simp only [card]
    cases S n <;> cases T n <;> simp <;> omega
theorem card_le (S : Nat → Bool) : ∀ n, card n S ≤ n
  | 0 => Nat.le_refl _
  | n + 1 => by
    have := card_le S n
    rw [card]
    cases S n <;> simp <;> omega
theorem card_zero_iff (S : Nat → Bool) : ∀ n, card n S = 0 ↔ ∀ i, i < n → S i = false
  | 0 => ⟨fun _ i hi => by omega, fun _ => rfl⟩
  | n + 1 => by
    rw [card]
    constructor
    · intro h i hi
      rcases Nat.lt_succ_iff_lt_or_eq.1 hi with c | c
      · exact (card_zero_iff S n).1 (by omega) i c
      · subst c; cases e : S i
        · rfl
        · rw [e] at h; simp at h
    · intro h
      rw [(card_zero_iff S n).2 (fun i hi => h i (by omega)), h n (by omega)]; rfl
theorem card_insert (S : Nat → Bool) (z : Nat) (hz : S z = false) : ∀ n, card n (fun i => S i || decide (i = z)) = card n S + if z < n then 1 else 0
  | 0 => rfl
  | n + 1 => by
    have := card_insert S z hz n
    simp only [card]
    rw [this]
    by_cases e : n = z
    · subst e; simp [hz]
    · by_cases h : z < n
      · have h' : z < n + 1 := by omega
        simp [e, h, h']; omega
      · have h' : ¬ z < n + 1 := by omega
        simp [e, h, h']
/-- The bits of a word, counted. -/
theorem pop_card (x : Nat) : ∀ f, pop f x = card f (fun b => x.testBit b) := by
  have key : ∀ f x, card (f + 1) (fun b => x.testBit b) = (x.testBit 0).toNat + card f (fun b => (x / 2).testBit b) := by
    intro f
    induction f with
    | zero => intro x; simp [card]
    | succ f ih =>
      intro x
      rw [card, ih x]
      conv => rhs; rw [card]
      rw [Nat.testBit_succ]
      omega
  intro f
  induction f generalizing x with
  | zero => rfl
  | succ f ih =>
    rw [key, pop, ih (x / 2)]
    congr 1
    rw [Nat.testBit_zero]
    rcases Nat.mod_two_eq_zero_or_one x with h | h <;> simp [h]
theorem card_shift (S : Nat → Bool) (k : Nat) : ∀ f, card (k + f) S = card k S + card f (fun b => S (k + b))
  | 0 => rfl
  | f + 1 => by
    rw [show k + (f + 1) = (k + f) + 1 by omega, card, card_shift S k f, card]; omega
end Bs
