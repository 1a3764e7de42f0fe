import Derived.Test.YtnlohjcjboelgaaItems
namespace Go.Proofs.Ytnlohjcjboelgaa.L
open Go.RowKit
set_option linter.unusedVariables false
/-- The amount of the first of n elements from the k-th on that has this name. -/
def get (l : List It) (s : ByteArray) : Nat → Nat → Int
  | 0, _ => 0
  | n + 1, k => if ((nm l k).toList == s.toList) = true then am l k else get l s n (k + 1)
def getN (l : List It) (s : ByteArray) : Int := get l s l.length 0
theorem get_step (l : List It) (s : ByteArray) (len k : Nat) (h : k < len) : get l s (len - k) k = if ((nm l k).toList == s.toList) = true then am l k else get l s (len - (k + 1)) (k + 1) := by
  obtain ⟨n, hn⟩ : ∃ n, len - k = n + 1 := ⟨len - k - 1, by omega⟩
  rw [hn, show len - (k + 1) = n by omega]
  rfl
theorem get_bound (l : List It) (s : ByteArray) (hg : Good l) (n k : Nat) (h : k + n ≤ l.length) : -9223372036854775808 ≤ get l s n k ∧ get l s n k ≤ 9223372036854775807 := by
  induction n generalizing k with
  | zero => unfold get; omega
  | succ n ih =>
    unfold get
    split
    · exact (hg.2 k (by omega)).2
    · exact ih (k + 1) (by omega)
set_option maxHeartbeats 4000000 in
theorem get_any (v : Value) (l : List It) (s : ByteArray) (w : World) (hi : Items w v l) (hg : Good l) (hs : s.size ≤ maxLen) : Calls Try.prog 26 #[v, .string s] w fun e w' => e = .returned (.int .i64 (getN l s)) ∧ Below w.heap.size w w' := by
  obtain ⟨a, cap, rfl, hi⟩ := hi
  have hl := hg.1.1
  unfold maxLen at hl
  obtain ⟨len, hlen⟩ : ∃ n, n = l.length := ⟨_, rfl⟩
  have HR := hid (show getN l s = get l s (l.length - 0) 0 from rfl)
  rw [← hlen] at hi hl HR ⊢
  have HLEN := hid hlen
  clear hlen hg
  go_enter Try.func26, Try.ntmps26
  go_wp2
  go_loopw [9] (fun i wr => ∃ k : Nat, k ≤ len ∧ i = .int .i64 k ∧ Hid (Below w.heap.size w wr) ∧ Hid (getN l s = get l s (len - k) k)) (fun i _ => len - (intOf i).toNat)
  case atStart => exact ⟨0, Nat.zero_le _, rfl, hid (Below.refl _ _), HR⟩
  case round =>
    obtain ⟨k, hk, rfl, HB, HK⟩ := hrel
    by_cases hlt : k < len
    · rcases hi with h0 | ⟨b, off, rfl, hbl, hc⟩
      · omega
      obtain ⟨c0, c1⟩ := hc k hlt
      rw [← HB.out.cell (p := ⟨b, off + k * 2, none⟩) hbl] at c0
      rw [← HB.out.cell (p := ⟨b, off + k * 2 + 1, none⟩) hbl] at c1
      have hsz : b < wr.heap.size := Nat.lt_of_lt_of_le hbl HB.out.size
      have st := HK.out.trans (get_step l s len k hlt)
      cases e1 : ((nm l k).toList == s.toList)
      · rw [e1, if_neg (by decide)] at st
        have HF := hid st
        generalize nm l k = s' at *
        generalize am l k = n at *
        clear hc st
        go_wp2
        exact ⟨⟨k + 1, by omega, by go_num, hid (HB.out.alloc HB.out.size _), HF⟩, by simp [intOf]; omega⟩
      · rw [e1, if_pos rfl] at st
        have HF := hid st
        generalize nm l k = s' at *
        generalize am l k = n at *
        clear hc st
        go_wp2
        go_ret
        exact ⟨by rw [HF.out]; rfl, HB.out.alloc HB.out.size _⟩
    · obtain rfl : k = len := by omega
      have HF := hid (show getN l s = 0 by rw [HK.out, Nat.sub_self]; rfl)
      go_wp2
      go_ret
      exact ⟨by rw [HF.out]; rfl, HB.out⟩
/-- The first fault of n lists from the k-th on. -/
def chkAll (ls : Nat → List It) : Nat → Nat → Int
  | 0, _ => 0
  | n + 1, k => if checkN (ls k) = 0 then chkAll ls n (k + 1) else checkN (ls k)
theorem chkAll_step (ls : Nat → List It) (len k : Nat) (h : k < len) : chkAll ls (len - k) k = if checkN (ls k) = 0 then chkAll ls (len - (k + 1)) (k + 1) else checkN (ls k) := by
  obtain ⟨n, hn⟩ : ∃ n, len - k = n + 1 := ⟨len - k - 1, by omega⟩
  rw [hn, show len - (k + 1) = n by omega]
  rfl
set_option maxHeartbeats 4000000 in
theorem checkAll_any (b len : Nat) (vs : Nat → Value) (ls : Nat → List It) (w : World) (hn : len ≤ 8) (hb : b < w.heap.size) (hc : ∀ j, j < len → w.cell? ⟨b, j, none⟩ = some (vs j)) (hi : ∀ j, j < len → Items w (vs j) (ls j)) (hg : ∀ j, j < len → Good (ls j)) :
    Calls Try.prog 20 #[.slice (some ⟨b, 0, none⟩) len len] w fun e w' => e = .returned (.int .i64 (chkAll ls len 0)) ∧ Below w.heap.size w w' := by
  have HC := hid hc
  have HI := hid hi
  have HG := hid hg
  clear hc hi hg
  have HR := hid (show chkAll ls len 0 = chkAll ls (len - 0) 0 from rfl)
  go_enter Try.func20, Try.ntmps20
  go_wp2
  go_loopw [8] (fun i wr => ∃ k : Nat, k ≤ len ∧ i = .int .i64 k ∧ Hid (Below w.heap.size w wr) ∧ Hid (chkAll ls len 0 = chkAll ls (len - k) k)) (fun i _ => len - (intOf i).toNat)
  case atStart => exact ⟨0, Nat.zero_le _, rfl, hid (Below.refl _ _), HR⟩
  case round =>
    obtain ⟨k, hk, rfl, HB, HK⟩ := hrel
    by_cases hlt : k < len
    · have c0 := HC.out k hlt
      rw [← HB.out.cell (p := ⟨b, k, none⟩) hb] at c0
      have hsz : b < wr.heap.size := Nat.lt_of_lt_of_le hb HB.out.size
      have CK := hid (fun W (hB : Below wr.heap.size wr W) => check_any (vs k) (ls k) W (((HI.out k hlt).low HB.out).low hB) (HG.out k hlt))
      have st := HK.out.trans (chkAll_step ls len k hlt)
      generalize vs k = v at *
      by_cases e1 : checkN (ls k) = 0
      · rw [if_pos e1] at st
        have HF := hid st
        rw [e1] at CK
        clear st e1
        go_wp2_with fail
        refine (CK.out _ (Below.refl _ _)).mono ?_
        rintro e w1 ⟨rfl, hb1⟩
        have HB1 := hid hb1
        clear hb1
        go_wp2_with fail
        exact ⟨⟨k + 1, by omega, by go_num, hid (HB.out.trans (HB1.out.mono HB.out.size)), HF⟩, by simp [intOf]; omega⟩
      · rw [if_neg e1] at st
        have HF := hid st
        have e2 : (checkN (ls k) != 0) = true := by simpa using e1
        generalize checkN (ls k) = c at *
        clear st
        go_wp2_with fail
        refine (CK.out _ (Below.refl _ _)).mono ?_
        rintro e w1 ⟨rfl, hb1⟩
        have HB1 := hid hb1
        clear hb1
        go_wp2_with fail
        go_ret
        exact ⟨by rw [HF.out]; rfl, HB.out.trans (HB1.out.mono HB.out.size)⟩
    · obtain rfl : k = len := by omega
      have HF := hid (show chkAll ls k 0 = 0 by rw [HK.out, Nat.sub_self]; rfl)
      go_wp2
      go_ret
      exact ⟨by rw [HF.out]; rfl, HB.out⟩
end Go.Proofs.Ytnlohjcjboelgaa.L
