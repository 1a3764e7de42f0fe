import Derived.Test.YtnlohjcjboelgaaNames
namespace Go.Proofs.Ytnlohjcjboelgaa.L
open Go.RowKit
set_option linter.unusedVariables false
abbrev It := ByteArray × Int
def nm (l : List It) (j : Nat) : ByteArray := (l.getD j (ByteArray.empty, 0)).1
def am (l : List It) (j : Nat) : Int := (l.getD j (ByteArray.empty, 0)).2
/-- The list lies in the world. -/
def Items (W : World) (v : Value) (l : List It) : Prop := ∃ a cap, v = .slice a l.length cap ∧ (l.length = 0 ∨ ∃ b off, a = some ⟨b, off, none⟩ ∧ b < W.heap.size ∧ ∀ j, j < l.length → W.cell? ⟨b, off + j * 2, none⟩ = some (.string (nm l j)) ∧ W.cell? ⟨b, off + j * 2 + 1, none⟩ = some (.int .i64 (am l j)))
/-- What every list that came in is. -/
def Good (l : List It) : Prop := (l.length ≤ maxLen ∧ l.length * 24 ≤ 140737488351232) ∧ ∀ j, j < l.length → (nm l j).size ≤ maxLen ∧ -9223372036854775808 ≤ am l j ∧ am l j ≤ 9223372036854775807
theorem Items.low {W W' : World} {v : Value} {l : List It} (h : Items W v l) (hb : Below W.heap.size W W') : Items W' v l := by
  obtain ⟨a, cap, rfl, h⟩ := h
  refine ⟨a, cap, rfl, ?_⟩
  rcases h with h | ⟨b, off, rfl, hl, hc⟩
  · exact Or.inl h
  · refine Or.inr ⟨b, off, rfl, Nat.lt_of_lt_of_le hl hb.size, fun j hj => ?_⟩
    rw [hb.cell (p := ⟨b, off + j * 2, none⟩) hl, hb.cell (p := ⟨b, off + j * 2 + 1, none⟩) hl]
    exact hc j hj
theorem Items.lowN {W : World} {v : Value} {l : List It} (h : Items W v l) (n : Nat) : Items (W.drewN n) v l := h.low (below_drewN (Below.refl _ _) n)
set_option maxHeartbeats 4000000 in
theorem check_many (v : Value) (l : List It) (w : World) (hi : Items w v l) (hg : Good l) (h : 16 < l.length) : Calls Try.prog 28 #[v] w fun e w' => e = .returned (.int .i64 27) ∧ w' = w := by
  obtain ⟨a, cap, rfl, hi⟩ := hi
  have hl := hg.1.1
  unfold maxLen at hl
  generalize l.length = len at *
  clear hi
  go_enter Try.func28, Try.ntmps28
  go_wp2
  go_ret
  exact ⟨rfl, rfl⟩
def leS (s t : ByteArray) : Bool := Op.bytesLess s.toList t.toList || s.toList == t.toList
/-- The fault of the k-th element. -/
def flt (l : List It) (k : Nat) : Int := if nameB (nm l k) = false then 24 else if am l k ≤ 0 then 26 else if 0 < k ∧ leS (nm l k) (nm l (k - 1)) = true then 25 else 0
/-- The first fault among n elements from the k-th on. -/
def chk (l : List It) : Nat → Nat → Int
  | 0, _ => 0
  | n + 1, k => if flt l k = 0 then chk l n (k + 1) else flt l k
def checkN (l : List It) : Int := if 16 < l.length then 27 else chk l l.length 0
theorem chk_step (l : List It) (len k : Nat) (h : k < len) : chk l (len - k) k = if flt l k = 0 then chk l (len - (k + 1)) (k + 1) else flt l k := by
  obtain ⟨n, hn⟩ : ∃ n, len - k = n + 1 := ⟨len - k - 1, by omega⟩
  rw [hn, show len - (k + 1) = n by omega]
  rfl
theorem chk_hit (l : List It) (len k : Nat) (h : k < len) (x : Int) (h0 : flt l k = x) (hx : x ≠ 0) : chk l (len - k) k = x := by
  rw [chk_step l len k h, if_neg (by rw [h0]; exact hx), h0]
theorem chk_miss (l : List It) (len k : Nat) (h : k < len) (h0 : flt l k = 0) : chk l (len - k) k = chk l (len - (k + 1)) (k + 1) := by
  rw [chk_step l len k h, if_pos h0]
theorem chk_ok (l : List It) (n k : Nat) (h : chk l n k = 0) : ∀ j, k ≤ j → j < k + n → flt l j = 0 := by
  induction n generalizing k with
  | zero => intro j h1 h2; omega
  | succ n ih =>
    unfold chk at h
    split at h
    · rename_i h0
      intro j h1 h2
      by_cases e : j = k
      · rw [e]; exact h0
      · exact ih (k + 1) h j (by omega) (by omega)
    · rename_i h0
      exact absurd h h0
set_option maxHeartbeats 4000000 in
theorem check_few (v : Value) (l : List It) (w : World) (hi : Items w v l) (hg : Good l) (h : l.length ≤ 16) : Calls Try.prog 28 #[v] w fun e w' => e = .returned (.int .i64 (checkN l)) ∧ Below w.heap.size w w' := by
  have HI := hid hi
  obtain ⟨a, cap, rfl, hi⟩ := hi
  have HG := hid hg
  have HR := hid (show checkN l = chk l l.length 0 by unfold checkN; rw [if_neg (by omega)])
  obtain ⟨len, hlen⟩ : ∃ n, n = l.length := ⟨_, rfl⟩
  have HLEN := hid hlen
  rw [← hlen] at h hi HR ⊢
  clear hg hlen
  go_enter Try.func28, Try.ntmps28
  go_wp2
  go_loopw [10] (fun i wr => ∃ k : Nat, k ≤ len ∧ i = .int .i64 k ∧ Hid (Below w.heap.size w wr) ∧ Hid (checkN l = chk l (len - k) k)) (fun i _ => len - (intOf i).toNat)
  case atStart => exact ⟨0, Nat.zero_le _, rfl, hid (Below.refl _ _), HR⟩
  case round =>
    obtain ⟨k, hk, rfl, HB, HK⟩ := hrel
    by_cases hlt : k < len
    · rcases hi with h0 | ⟨b, off, rfl, hbl, hc⟩
      · omega
      obtain ⟨c0, c1⟩ := hc k hlt
      rw [← HB.out.cell (p := ⟨b, off + k * 2, none⟩) hbl] at c0
      rw [← HB.out.cell (p := ⟨b, off + k * 2 + 1, none⟩) hbl] at c1
      have hsz : b < wr.heap.size := Nat.lt_of_lt_of_le hbl HB.out.size
      have hn := (HG.out.2 k (by rw [← HLEN.out]; exact hlt)).1
      have HN := hid (fun W => name_any (nm l k) W hn)
      cases e1 : nameB (nm l k)
      · have HF := hid (HK.out.trans (chk_hit l len k hlt 24 (by unfold flt; rw [if_pos e1]) (by decide)))
        rw [e1] at HN
        generalize nm l k = s at *
        generalize am l k = n at *
        clear hc e1
        go_wp2_with (go_at_call 32; refine (HN.out _).mono ?_; rintro e w1 ⟨rfl, m, hww⟩; subst hww)
        go_ret
        exact ⟨by rw [HF.out]; rfl, below_drewN (HB.out.alloc HB.out.size _) _⟩
      · rw [e1] at HN
        by_cases e2 : am l k ≤ 0
        · have HF := hid (HK.out.trans (chk_hit l len k hlt 26 (by unfold flt; rw [if_neg (by rw [e1]; decide), if_pos e2]) (by decide)))
          generalize nm l k = s at *
          generalize am l k = n at *
          clear hc e1
          go_wp2_with (go_at_call 32; refine (HN.out _).mono ?_; rintro e w1 ⟨rfl, m, hww⟩; subst hww)
          go_ret
          exact ⟨by rw [HF.out]; rfl, below_drewN (HB.out.alloc HB.out.size _) _⟩
        · by_cases e3 : k = 0
          · subst e3
            have HF := hid (HK.out.trans (chk_miss l len 0 hlt (by unfold flt; rw [if_neg (by rw [e1]; decide), if_neg e2, if_neg (by omega)])))
            rw [Nat.zero_mul, Nat.add_zero] at c0 c1
            generalize nm l 0 = s at *
            generalize am l 0 = n at *
            clear hc e1
            go_wp2_with (go_at_call 32; refine (HN.out _).mono ?_; rintro e w1 ⟨rfl, m, hww⟩; subst hww)
            go_quiet (fail)
            go_wp2_with fail
            exact ⟨⟨1, by omega, rfl, hid (below_drewN (HB.out.alloc HB.out.size _) _), HF⟩, by simp [intOf]; omega⟩
          · obtain ⟨m, rfl⟩ : ∃ m, k = m + 1 := ⟨k - 1, by omega⟩
            obtain ⟨d0, d1⟩ := hc m (by omega)
            rw [← HB.out.cell (p := ⟨b, off + m * 2, none⟩) hbl] at d0
            rw [← HB.out.cell (p := ⟨b, off + m * 2 + 1, none⟩) hbl] at d1
            have HT := hid (fun h : leS (nm l (m + 1)) (nm l m) = true => HK.out.trans (chk_hit l len (m + 1) hlt 25 (by unfold flt; rw [if_neg (by rw [e1]; decide), if_neg e2, if_pos ⟨by omega, by rw [Nat.add_sub_cancel]; exact h⟩]) (by decide)))
            have HF := hid (fun h : leS (nm l (m + 1)) (nm l m) = false => HK.out.trans (chk_miss l len (m + 1) hlt (by unfold flt; rw [if_neg (by rw [e1]; decide), if_neg e2, if_neg (by rw [Nat.add_sub_cancel, h]; exact fun x => by cases x.2)])))
            generalize nm l (m + 1) = s at *
            generalize am l (m + 1) = n at *
            generalize nm l m = s' at *
            generalize am l m = n' at *
            clear hc e1
            go_wp2_with (go_at_call 32; refine (HN.out _).mono ?_; rintro e w1 ⟨rfl, mm, hww⟩; subst hww)
            have hg : decide ((0 : Int) < (m : Int) + 1) = true := by simp
            go_quiet (fail)
            go_wp2_with fail
            · rename_i hle
              go_ret
              exact ⟨by rw [HT.out (by unfold leS; rcases hle with x | x <;> simp [x])]; rfl, below_drewN (below_drewN (HB.out.alloc HB.out.size _) _) _⟩
            · rename_i hle
              exact ⟨⟨m + 1 + 1, by omega, by go_num, hid (below_drewN (HB.out.alloc HB.out.size _) _), hid (HF.out (by unfold leS; rw [hle.1, hle.2]; rfl))⟩, by simp [intOf]; omega⟩
    · obtain rfl : k = len := by omega
      have HF := hid (show checkN l = 0 by rw [HK.out, Nat.sub_self]; rfl)
      go_wp2
      go_ret
      exact ⟨by rw [HF.out]; rfl, HB.out⟩
theorem check_any (v : Value) (l : List It) (w : World) (hi : Items w v l) (hg : Good l) : Calls Try.prog 28 #[v] w fun e w' => e = .returned (.int .i64 (checkN l)) ∧ Below w.heap.size w w' := by
  by_cases h : 16 < l.length
  · refine (check_many v l w hi hg h).mono ?_
    rintro e w' ⟨rfl, rfl⟩
    exact ⟨by unfold checkN; rw [if_pos h], Below.refl _ _⟩
  · exact check_few v l w hi hg (by omega)
end Go.Proofs.Ytnlohjcjboelgaa.L
