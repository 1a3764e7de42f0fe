import Derived.Test.YtnlohjcjboelgaaOrder
namespace Go.Proofs.Ytnlohjcjboelgaa.L
open Go.RowKit
set_option linter.unusedVariables false
/-- Where a name stands first among n elements from the k-th on. -/
def plc (l : List It) (s : ByteArray) : Nat → Nat → Int
  | 0, _ => -1
  | n + 1, k => if ((nm l k).toList == s.toList) = true then (k : Int) else plc l s n (k + 1)
def placeN (l : List It) (s : ByteArray) : Int := plc l s l.length 0
theorem plc_step (l : List It) (s : ByteArray) (len k : Nat) (h : k < len) : plc l s (len - k) k = if ((nm l k).toList == s.toList) = true then (k : Int) else plc l s (len - (k + 1)) (k + 1) := by
  obtain ⟨n, hn⟩ : ∃ n, len - k = n + 1 := ⟨len - k - 1, by omega⟩
  rw [hn, show len - (k + 1) = n by omega]
  rfl
theorem plc_get (l : List It) (s : ByteArray) (n k : Nat) : (plc l s n k = -1 ∧ get l s n k = 0) ∨ ∃ j : Nat, k ≤ j ∧ j < k + n ∧ plc l s n k = j ∧ get l s n k = am l j ∧ (nm l j).toList = s.toList := by
  induction n generalizing k with
  | zero => exact Or.inl ⟨rfl, rfl⟩
  | succ n ih =>
    unfold plc get
    by_cases e : ((nm l k).toList == s.toList) = true
    · rw [if_pos e, if_pos e]
      exact Or.inr ⟨k, Nat.le_refl _, by omega, rfl, rfl, by simpa using e⟩
    · rw [if_neg e, if_neg e]
      rcases ih (k + 1) with h | ⟨j, a, b, c⟩
      · exact Or.inl h
      · exact Or.inr ⟨j, by omega, by omega, c⟩
set_option maxHeartbeats 4000000 in
theorem place_any (v : Value) (l : List It) (s : ByteArray) (w : World) (hi : Items w v l) (hg : Good l) (hs : s.size ≤ maxLen) : Calls Try.prog 30 #[v, .string s] w fun e w' => e = .returned (.int .i64 (placeN l s)) ∧ ∃ n, w' = w.drewN n := by
  obtain ⟨a, cap, rfl, hi⟩ := hi
  have hl := hg.1.1
  unfold maxLen at hl
  obtain ⟨len, hlen⟩ : ∃ n, n = l.length := ⟨_, rfl⟩
  have HR := hid (show placeN l s = plc l s (l.length - 0) 0 from rfl)
  rw [← hlen] at hi hl HR ⊢
  clear hlen hg
  go_enter Try.func30, Try.ntmps30
  go_wp2
  go_loopw [5] (fun i wr => ∃ k : Nat, k ≤ len ∧ i = .int .i64 k ∧ (∃ n, wr = w.drewN n) ∧ Hid (placeN l s = plc l s (len - k) k)) (fun i _ => len - (intOf i).toNat)
  case atStart => exact ⟨0, Nat.zero_le _, rfl, ⟨0, rfl⟩, HR⟩
  case round =>
    obtain ⟨k, hk, rfl, ⟨n, rfl⟩, HK⟩ := hrel
    by_cases hlt : k < len
    · rcases hi with h0 | ⟨b, off, rfl, hbl, hc⟩
      · omega
      obtain ⟨c0, c1⟩ := hc k hlt
      have st := HK.out.trans (plc_step l s len k hlt)
      cases e1 : ((nm l k).toList == s.toList)
      · rw [e1, if_neg (by decide)] at st
        have HF := hid st
        generalize nm l k = s' at *
        generalize am l k = nn at *
        clear hc st
        go_wp2
        exact ⟨⟨k + 1, by omega, by go_num, ⟨n, rfl⟩, HF⟩, by simp [intOf]; omega⟩
      · rw [e1, if_pos rfl] at st
        have HF := hid st
        generalize nm l k = s' at *
        generalize am l k = nn at *
        clear hc st
        go_wp2
        go_ret
        exact ⟨by rw [HF.out]; rfl, n, rfl⟩
    · obtain rfl : k = len := by omega
      have HF := hid (show placeN l s = -1 by rw [HK.out, Nat.sub_self]; rfl)
      go_wp2
      go_ret
      exact ⟨by rw [HF.out]; rfl, n, rfl⟩
set_option maxHeartbeats 4000000 in
theorem rget_any (v : Value) (l : List It) (s : ByteArray) (w : World) (hi : Items w v l) (hg : Good l) (hs : s.size ≤ maxLen) : Calls Try.prog 24 #[v, .string s] w fun e w' => e = .returned (.int .i64 (getN l s)) ∧ ∃ n, w' = w.drewN n := by
  have PL := hid (place_any v l s w hi hg hs)
  have pg := plc_get l s l.length 0
  change (placeN l s = -1 ∧ getN l s = 0) ∨ ∃ j : Nat, 0 ≤ j ∧ j < 0 + l.length ∧ placeN l s = j ∧ getN l s = am l j ∧ _ at pg
  obtain ⟨a, cap, rfl, hi⟩ := hi
  have hl := hg.1.1
  unfold maxLen at hl
  rcases pg with ⟨e1, e2⟩ | ⟨j, _, hj, e1, e2, _⟩
  · rw [e1] at PL
    rw [e2]
    go_enter Try.func24, Try.ntmps24
    go_wp2_with (go_at_call 30; refine PL.out.mono ?_; rintro e w1 ⟨rfl, k, hww⟩; subst hww)
    go_ret
    exact ⟨rfl, k, rfl⟩
  · rw [e1] at PL
    rw [e2]
    rcases hi with h0 | ⟨b, off, rfl, hbl, hc⟩
    · omega
    obtain ⟨c0, c1⟩ := hc j (by omega)
    have hj' : j < l.length := by omega
    have hj2 : (j : Int) < (l.length : Int) := by omega
    generalize l.length = len at *
    generalize am l j = n at *
    generalize nm l j = s' at *
    have E1 := hid e1
    clear hc e1 e2
    go_enter Try.func24, Try.ntmps24
    go_wp2_with (go_at_call 30; refine PL.out.mono ?_; rintro e w1 ⟨rfl, k, hww⟩; subst hww)
    go_ret
    exact ⟨rfl, k, rfl⟩
end Go.Proofs.Ytnlohjcjboelgaa.L
