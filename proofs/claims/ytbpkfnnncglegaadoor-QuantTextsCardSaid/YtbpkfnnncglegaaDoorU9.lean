import Derived.Test.YtbpkfnnncglegaaDoorU8
namespace Go.Proofs.YtbpkfnnncglegaaDoor.L
open Go.RowKit Go.Shelf
set_option linter.unusedVariables false
theorem no3 : ∀ j : Fin 13, ¬ 10 ^ 3 ∣ 1100 * mI j.val := by decide +kernel
theorem six : ∀ j : Fin 13, 2 ≤ j.val → 6 ≤ pI j.val := by decide
theorem fix_low {lw : Nat → Nat} {x : Nat → ByteArray} (h : Txs 1100 lw x) (i : Nat) (hi : i < 13) : lw i ≤ 2 := by
  apply Classical.byContradiction
  intro h1
  exact no3 ⟨i, hi⟩ (Nat.dvd_trans (Nat.pow_dvd_pow 10 (show 3 ≤ lw i by omega)) (h.low i).dvd)
theorem fix_long {lw : Nat → Nat} {x : Nat → ByteArray} (h : Txs 1100 lw x) (i : Nat) (hi : i < 13) (h2 : 2 ≤ i) : 4 < (x i).size := by
  rw [h.tx i, S_size]
  unfold txU frB
  have h3 := fix_low h i hi
  have h4 := six ⟨i, hi⟩ h2
  have h4' : 6 ≤ pI i := h4
  rw [if_pos (by omega), List.length_append, List.length_append, List.length_cons, rng_len, Lib.decDigits_length]
  have := Lib.nDigits_pos (1100 / wI i)
  omega
theorem fix_one {lw : Nat → Nat} {x : Nat → ByteArray} (h : Txs 1100 lw x) : x 1 = S [49, 46, 49, 107] := by
  have h1 : lw 1 = 2 := Lw.one (h.low 1) ⟨by decide, by decide, .inr (by decide)⟩
  rw [h.tx 1, h1]
  have e : txU 1100 1 2 = [49, 46, 49, 107] := by
    unfold txU
    have e1 : (1100 : Nat) / wI 1 = 1 := by decide
    rw [e1, dec_small (by decide)]
    decide
  rw [e]
theorem fix_zero {lw : Nat → Nat} {x : Nat → ByteArray} (h : Txs 1100 lw x) : x 0 = S [49, 49, 48, 48] := by
  rw [h.zero, dec_rng 3 1100 (by decide) (.inr (by decide))]
  have : rng 1100 0 (3 + 1) = [49, 49, 48, 48] := by decide
  rw [this]
theorem fix_best {lw : Nat → Nat} {x : Nat → ByteArray} (h : Txs 1100 lw x) : bst x 12 = S [49, 46, 49, 107] := by
  have h1 : bst x 1 = S [49, 46, 49, 107] := by
    show (if ahB (x 1) (x 0) then x 1 else x 0) = _
    rw [fix_one h, fix_zero h]
    have : ahB (S [49, 46, 49, 107]) (S [49, 49, 48, 48]) = true := by
      decide +kernel
    rw [this]
    rfl
  have step : ∀ k, k < 12 → bst x k = S [49, 46, 49, 107] → 1 ≤ k → bst x (k + 1) = S [49, 46, 49, 107] := by
    intro k hk hb h0
    show (if ahB (x (k + 1)) (bst x k) then x (k + 1) else bst x k) = _
    have hl := fix_long h (k + 1) (by omega) (by omega)
    have : ahB (x (k + 1)) (bst x k) = false := by
      unfold ahB
      have hs : (bst x k).size = 4 := by rw [hb]; rfl
      rw [if_neg (by omega)]
      exact decide_eq_false (by omega)
    rw [this, hb]
    rfl
  have all : ∀ k, k ≤ 11 → bst x (k + 1) = S [49, 46, 49, 107] := by
    intro k
    induction k with
    | zero => intro _; exact h1
    | succ k ih => intro hk; exact step (k + 1) (by omega) (ih (by omega)) (by omega)
  exact all 11 (by omega)
set_option maxHeartbeats 2000000 in
theorem text_neg (n : Int) (h : n < 0) (w : World) : Calls Tryd.prog 5 #[.int .i64 n] w fun e w' => e = .returned (.tuple #[.string (S []), .int .i64 26]) ∧ w' = w := by
  go_enter Tryd.func5, Tryd.ntmps5
  go_wp2
  (try simp only [Exit.inBlock, Exit.then])
  exact bodyPost_ret (results_tmp2 rfl _ _ _) rfl ⟨rfl, rfl⟩
set_option maxHeartbeats 2000000 in
theorem rtext_neg (n : Int) (h : n < 0) (w : World) : Calls Tryd.prog 6 #[.int .i64 n] w fun e w' => e = .returned (.tuple #[.string (S []), .int .i64 26]) ∧ w' = w := by
  go_enter Tryd.func6, Tryd.ntmps6
  go_wp2
  (try simp only [Exit.inBlock, Exit.then])
  exact bodyPost_ret (results_tmp2 rfl _ _ _) rfl ⟨rfl, rfl⟩
/-- Both programs answer one text and one number. -/
theorem text_uni (n : Int) (h0 : -9223372036854775808 ≤ n) (h1 : n ≤ 9223372036854775807) : ∃ (t : ByteArray) (e : Int), (∀ (w : World) (ua : Array Value), TabW w → UnW w ua → Calls Tryd.prog 5 #[.int .i64 n] w fun r w' => r = .returned (.tuple #[.string t, .int .i64 e]) ∧ Below w.heap.size w w') ∧
    ∀ w : World, Calls Tryd.prog 6 #[.int .i64 n] w fun r w' => r = .returned (.tuple #[.string t, .int .i64 e]) ∧ Below w.heap.size w w' := by
  by_cases h : n < 0
  · refine ⟨S [], 26, fun w ua _ _ => (text_neg n h w).mono fun r w' ⟨h1, h2⟩ => ⟨h1, by rw [h2]; exact Below.refl _ _⟩, fun w => (rtext_neg n h w).mono fun r w' ⟨h1, h2⟩ => ⟨h1, by rw [h2]; exact Below.refl _ _⟩⟩
  · obtain ⟨m, rfl⟩ : ∃ m : Nat, n = (m : Int) := ⟨n.toNat, by omega⟩
    obtain ⟨lw, x, hx⟩ := txs_all m
    exact ⟨bst x 12, 0, fun w ua hv hu => text_any m (by omega) lw x hx w hv ua hu, fun w => rtext_any m (by omega) lw x hx w⟩
set_option maxHeartbeats 2000000 in
theorem fixed_any (w : World) (hv : TabW w) (ua : Array Value) (hu : UnW w ua) : Calls Tryd.prog 4 #[] w fun e w' => e = .returned (.bool true) ∧ Below w.heap.size w w' := by
  obtain ⟨lw, x, hx⟩ := txs_all 1100
  have HT := hid (show Calls Tryd.prog 5 #[.int .i64 1100] w fun e w' => e = .returned (.tuple #[.string (S [49, 46, 49, 107]), .int .i64 0]) ∧ Below w.heap.size w w' by
    rw [← fix_best hx]
    exact text_any 1100 (by omega) lw x hx w hv ua hu)
  clear hx hv hu
  go_enter Tryd.func4, Tryd.ntmps4
  go_wp2_with (go_at_call 5; refine HT.out.mono ?_; rintro e w1 ⟨rfl, b1⟩; have B1 := hid b1; clear b1; dsimp only)
  go_ret
  exact ⟨rfl, B1.out⟩
/-- A list of numbers that came in. -/
def ItemsI (w : World) (val : Value) (zs : List Int) : Prop := ∃ a cap, val = .slice a zs.length cap ∧ (zs.length = 0 ∨ ∃ b off, a = some ⟨b, off, none⟩ ∧ b < w.heap.size ∧ ∀ j (hj : j < zs.length), w.cell? ⟨b, off + j, none⟩ = some (.int .i64 zs[j]))
set_option maxHeartbeats 4000000 in
theorem texts_law (v : Value) (zs : List Int) (w : World) (hz : ItemsI w v zs) (hl : zs.length ≤ maxLen) (hb : ∀ z ∈ zs, -9223372036854775808 ≤ z ∧ z ≤ 9223372036854775807) (hv : TabW w) (ua : Array Value) (hu : UnW w ua) :
    Calls Tryd.prog 3 #[v] w fun e w' => e = .returned (.bool true) ∧ Below w.heap.size w w' := by
  obtain ⟨a, cap, rfl, hc⟩ := hz
  have HC := hid hc
  have HV := hid hv
  have HU := hid hu
  have HF := hid (fixed_any w hv ua hu)
  have HBD := hid hb
  obtain ⟨n, hn⟩ : ∃ n, n = zs.length := ⟨_, rfl⟩
  have HN := hid hn
  have hnl : n ≤ 9223372036854775807 := by rw [hn]; unfold maxLen at hl; omega
  rw [← hn]
  clear hc hv hu hb hn hl
  go_enter Tryd.func3, Tryd.ntmps3
  go_upto_region 3 with (go_at_call 4; refine HF.out.mono ?_; rintro e w1 ⟨rfl, b1⟩; have B1 := hid b1; clear b1; dsimp only)
  go_wp2_with fail
  go_loopw [13] (fun i wr => ∃ k : Nat, k ≤ n ∧ i = .int .i64 (k : Int) ∧ Hid (Below w.heap.size w wr)) (fun i _ => n - (intOf i).toNat)
  case atStart => exact ⟨0, Nat.zero_le _, rfl, B1⟩
  case round =>
    clear B1 HF
    obtain ⟨k, hk, rfl, HB⟩ := hrel
    by_cases hkn : k < n
    · have hkz : k < zs.length := by rw [← HN.out]; exact hkn
      rcases HC.out with h0 | ⟨b, off, rfl, hbb, hcc⟩
      · omega
      have c0 := (HB.out.cell (p := ⟨b, off + k, none⟩) hbb).trans (hcc k hkz)
      obtain ⟨t, e0, ht, hr⟩ := text_uni zs[k] (HBD.out _ (List.getElem_mem hkz)).1 (HBD.out _ (List.getElem_mem hkz)).2
      have HT := hid ht
      have HR := hid hr
      generalize zs[k] = z at *
      have g1 : (k : Int) < (n : Int) := by omega
      have g2 : (0 : Int) ≤ (k : Int) := by omega
      have HK1 := hid (show k + 1 ≤ n by omega)
      clear ht hr hcc hbb hkz
      go_wp2_with (first
        | (go_at_call 5; refine (HT.out _ _ (HV.out.low HB.out) (HU.out.low HB.out)).mono ?_; rintro e w2 ⟨rfl, b2⟩; have B2 := hid b2; clear b2; dsimp only)
        | (go_at_call 6; refine (HR.out _).mono ?_; rintro e w3 ⟨rfl, b3⟩; have B3 := hid b3; clear b3; dsimp only))
      refine ⟨⟨k + 1, HK1.out, by go_num, hid (bchS (bchS HB.out B2.out) B3.out)⟩, ?_⟩
      have h9 := HK1.out
      simp [intOf]
      omega
    · obtain rfl : k = n := by omega
      go_wp2_with fail
      go_ret
      exact ⟨rfl, HB.out⟩
end Go.Proofs.YtbpkfnnncglegaaDoor.L
