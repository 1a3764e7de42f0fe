import Derived.Test.YtnlohjcjboelgaaRName
import Derived.Test.YtnlohjcjboelgaaRList
namespace Go.Proofs.Ytnlohjcjboelgaa.L
open Go.RowKit
set_option linter.unusedVariables false
theorem drewN_add (w : World) (a b : Nat) : (w.drewN a).drewN b = w.drewN (a + b) := by
  unfold World.drewN
  simp [Nat.add_assoc]
set_option maxHeartbeats 4000000 in
theorem rcheck_many (v : Value) (l : List It) (w : World) (hi : Items w v l) (hg : Good l) (h : 16 < l.length) : Calls Try.prog 22 #[v] w fun e w' => e = .returned (.int .i64 27) ∧ w' = w := by
  obtain ⟨a, cap, rfl, hi⟩ := hi
  have hl := hg.1.1
  unfold maxLen at hl
  generalize l.length = len at *
  clear hi
  go_enter Try.func22, Try.ntmps22
  go_wp2
  go_ret
  exact ⟨rfl, rfl⟩
set_option maxHeartbeats 4000000 in
theorem rcheck_few (v : Value) (l : List It) (w : World) (hi : Items w v l) (hg : Good l) (h : l.length ≤ 16) : Calls Try.prog 22 #[v] w fun e w' => e = .returned (.int .i64 (checkN l)) ∧ ∃ n, w' = w.drewN n := by
  obtain ⟨a, cap, rfl, hi⟩ := hi
  have HG := hid hg
  have HR := hid (show checkN l = chk l l.length 0 by unfold checkN; rw [if_neg (by omega)])
  obtain ⟨len, hlen⟩ : ∃ n, n = l.length := ⟨_, rfl⟩
  have HLEN := hid hlen
  rw [← hlen] at h hi HR ⊢
  clear hg hlen
  go_enter Try.func22, Try.ntmps22
  go_wp2
  go_loopw [3] (fun i wr => ∃ k : Nat, k ≤ len ∧ i = .int .i64 k ∧ (∃ n, wr = w.drewN n) ∧ Hid (checkN l = chk l (len - k) k)) (fun i _ => len - (intOf i).toNat)
  case atStart => exact ⟨0, Nat.zero_le _, rfl, ⟨0, rfl⟩, HR⟩
  case round =>
    obtain ⟨k, hk, rfl, ⟨nw, rfl⟩, HK⟩ := hrel
    by_cases hlt : k < len
    · rcases hi with h0 | ⟨b, off, rfl, hbl, hc⟩
      · omega
      obtain ⟨c0, c1⟩ := hc k hlt
      have hn := (HG.out.2 k (by rw [← HLEN.out]; exact hlt)).1
      have HN := hid (fun W => rname_any (nm l k) W hn)
      cases e1 : nameB (nm l k)
      · have HF := hid (HK.out.trans (chk_hit l len k hlt 24 (by unfold flt; rw [if_pos e1]) (by decide)))
        rw [e1] at HN
        generalize nm l k = s at *
        generalize am l k = n at *
        clear hc e1
        go_wp2_with (go_at_call 29; refine (HN.out _).mono ?_; rintro e w1 ⟨rfl, hww⟩; subst hww)
        go_ret
        exact ⟨by rw [HF.out]; rfl, nw, rfl⟩
      · rw [e1] at HN
        by_cases e2 : am l k ≤ 0
        · have HF := hid (HK.out.trans (chk_hit l len k hlt 26 (by unfold flt; rw [if_neg (by rw [e1]; decide), if_pos e2]) (by decide)))
          generalize nm l k = s at *
          generalize am l k = n at *
          clear hc e1
          go_wp2_with (go_at_call 29; refine (HN.out _).mono ?_; rintro e w1 ⟨rfl, hww⟩; subst hww)
          go_ret
          exact ⟨by rw [HF.out]; rfl, nw, rfl⟩
        · by_cases e3 : k = 0
          · subst e3
            have HF := hid (HK.out.trans (chk_miss l len 0 hlt (by unfold flt; rw [if_neg (by rw [e1]; decide), if_neg e2, if_neg (by omega)])))
            rw [Nat.zero_mul, Nat.add_zero] at c0 c1
            generalize nm l 0 = s at *
            generalize am l 0 = n at *
            clear hc e1
            go_wp2_with (go_at_call 29; refine (HN.out _).mono ?_; rintro e w1 ⟨rfl, hww⟩; subst hww)
            go_quiet (fail)
            go_wp2_with fail
            exact ⟨⟨1, by omega, rfl, ⟨_, rfl⟩, HF⟩, by simp [intOf]; omega⟩
          · obtain ⟨m, rfl⟩ : ∃ m, k = m + 1 := ⟨k - 1, by omega⟩
            obtain ⟨d0, d1⟩ := hc m (by omega)
            have HT := hid (fun h : leS (nm l (m + 1)) (nm l m) = true => HK.out.trans (chk_hit l len (m + 1) hlt 25 (by unfold flt; rw [if_neg (by rw [e1]; decide), if_neg e2, if_pos ⟨by omega, by rw [Nat.add_sub_cancel]; exact h⟩]) (by decide)))
            have HF := hid (fun h : leS (nm l (m + 1)) (nm l m) = false => HK.out.trans (chk_miss l len (m + 1) hlt (by unfold flt; rw [if_neg (by rw [e1]; decide), if_neg e2, if_neg (by rw [Nat.add_sub_cancel, h]; exact fun x => by cases x.2)])))
            generalize nm l (m + 1) = s at *
            generalize am l (m + 1) = n at *
            generalize nm l m = s' at *
            generalize am l m = n' at *
            clear hc e1
            go_wp2_with (go_at_call 29; refine (HN.out _).mono ?_; rintro e w1 ⟨rfl, hww⟩; subst hww)
            have hg : decide ((0 : Int) < (m : Int) + 1) = true := by simp
            go_quiet (fail)
            go_wp2_with fail
            · rename_i hle
              go_ret
              exact ⟨by rw [HT.out (by unfold leS; rcases hle with x | x <;> simp [x])]; rfl, nw + nq, drewN_add _ _ _⟩
            · rename_i hle
              exact ⟨⟨m + 1 + 1, by omega, by go_num, ⟨_, rfl⟩, hid (HF.out (by unfold leS; rw [hle.1, hle.2]; rfl))⟩, by simp [intOf]; omega⟩
    · obtain rfl : k = len := by omega
      have HF := hid (show checkN l = 0 by rw [HK.out, Nat.sub_self]; rfl)
      go_wp2
      go_ret
      exact ⟨by rw [HF.out]; rfl, nw, rfl⟩
theorem rcheck_any (v : Value) (l : List It) (w : World) (hi : Items w v l) (hg : Good l) : Calls Try.prog 22 #[v] w fun e w' => e = .returned (.int .i64 (checkN l)) ∧ ∃ n, w' = w.drewN n := by
  by_cases h : 16 < l.length
  · refine (rcheck_many v l w hi hg h).mono ?_
    rintro e w' ⟨rfl, rfl⟩
    exact ⟨by unfold checkN; rw [if_pos h], 0, rfl⟩
  · exact rcheck_few v l w hi hg (by omega)
end Go.Proofs.Ytnlohjcjboelgaa.L
