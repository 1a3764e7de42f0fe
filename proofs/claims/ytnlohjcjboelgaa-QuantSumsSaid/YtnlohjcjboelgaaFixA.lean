import Derived.Test.YtnlohjcjboelgaaMerge4
import Derived.Test.YtnlohjcjboelgaaLit
namespace Go.Proofs.Ytnlohjcjboelgaa.L
open Go.RowKit
set_option linter.unusedVariables false
theorem own_came {w : World} {base : Nat} {v : Value} {l : List It} (h : w.ownsRow base 41 2 v l.length (cellsF l)) : Came w v l ∧ Sl w v l := by
  rw [cellsF_eq] at h
  have hs := sl_own h
  refine ⟨?_, hs⟩
  obtain ⟨h1, h2⟩ := h
  rcases h2 with ⟨rfl, hz⟩ | ⟨g, cap, cur, rfl, _⟩
  · exact Or.inl ⟨rfl, List.length_eq_zero_iff.1 hz⟩
  · obtain ⟨a', cap', e, h'⟩ := hs.items
    cases e
    refine Or.inr ⟨_, _, rfl, ?_⟩
    rcases h' with h' | ⟨b, off, e, r⟩
    · exact Or.inl h'
    · cases e
      exact Or.inr ⟨_, _, rfl, r⟩
/-- What Add answers, for all that the law asks. -/
theorem add_right (v1 v2 : Value) (l c : List It) (w : World) (s1 : Sl w v1 l) (s2 : Sl w v2 c) (g1 : Good l) (g2 : Good c) (h1 : checkN l = 0) (h2 : checkN c = 0) (hlen : (mrg 40 l c).length ≤ 16) (hov : overAt (mrg 40 l c) (mrg 40 l c).length 0 = none) :
    Calls Try.prog 10 #[v1, v2] w fun e w' => ∃ v, e = .returned (.tuple #[v, .string ByteArray.empty, .int .i64 0]) ∧ Came w' v (sums (mrg 40 l c)) ∧ Sl w' v (sums (mrg 40 l c)) ∧ Below w.heap.size w w' := by
  refine (add_few v1 v2 l c w s1 s2 g1 g2 (two_good h1 h2) hlen (bounds_of fun z hz => ?_)).mono ?_
  · have := mrg_right h1 h2 g1 g2 40 z hz
    exact ⟨this.2.2.1, this.2.2.2.1, this.2.2.2.2.1, this.2.2.2.2.2.1⟩
  · rintro e w' ⟨v, s, er, rfl, hb, hp⟩
    rcases hp with ⟨K, hK, _⟩ | ⟨_, ho, rfl, rfl⟩
    · rw [hov] at hK; cases hK
    · obtain ⟨a, b⟩ := own_came ho
      exact ⟨v, rfl, a, b, hb⟩
/-- The same answer from both ways round, where there is none. -/
theorem add_wrong (v1 v2 : Value) (l c : List It) (w : World) (s1 : Sl w v1 l) (s2 : Sl w v2 c) (g1 : Good l) (g2 : Good c) (er : Int)
    (h : (er = chkAll (two l c) 2 0 ∧ er ≠ 0) ∨ (checkN l = 0 ∧ checkN c = 0 ∧ 16 < (mrg 40 l c).length ∧ er = 27) ∨ (checkN l = 0 ∧ checkN c = 0 ∧ (mrg 40 l c).length ≤ 16 ∧ overAt (mrg 40 l c) (mrg 40 l c).length 0 ≠ none ∧ er = 28)) :
    Calls Try.prog 10 #[v1, v2] w fun e w' => ∃ s, e = .returned (.tuple #[.slice none 0 0, .string s, .int .i64 er]) ∧ Below w.heap.size w w' := by
  rcases h with ⟨rfl, h⟩ | ⟨h1, h2, h3, rfl⟩ | ⟨h1, h2, h3, h4, rfl⟩
  · exact (add_bad v1 v2 l c w s1 s2 g1 g2 h).mono (by rintro e w' ⟨rfl, hb⟩; exact ⟨_, rfl, hb⟩)
  · exact (add_many v1 v2 l c w s1 s2 g1 g2 (two_good h1 h2) h3).mono (by rintro e w' ⟨rfl, hb⟩; exact ⟨_, rfl, hb⟩)
  · refine (add_few v1 v2 l c w s1 s2 g1 g2 (two_good h1 h2) h3 (bounds_of fun z hz => ?_)).mono ?_
    · have := mrg_right h1 h2 g1 g2 40 z hz
      exact ⟨this.2.2.1, this.2.2.2.1, this.2.2.2.2.1, this.2.2.2.2.2.1⟩
    · rintro e w' ⟨v, s, er, rfl, hb, hp⟩
      rcases hp with ⟨K, hK, rfl, rfl, rfl⟩ | ⟨hn, _⟩
      · exact ⟨_, rfl, hb⟩
      · exact absurd hn h4
/-- Sub of a sum. -/
theorem sub_sum (v1 v2 : Value) (S c : List It) (M : List Pr) (w : World) (s1 : Sl w v1 S) (s2 : Sl w v2 c) (g1 : Good S) (g2 : Good c) (h1 : checkN S = 0) (h2 : checkN c = 0) (hM : mrg 40 S c = M) (hu : ∀ z ∈ M, 0 ≤ z.2.1 ∧ z.2.1 ≤ 9223372036854775807 ∧ 0 ≤ z.2.2 ∧ z.2.2 ≤ 9223372036854775807 ∧ z.2.2 ≤ z.2.1) :
    Calls Try.prog 15 #[v1, v2] w fun e w' => ∃ v, e = .returned (.tuple #[v, .string ByteArray.empty, .int .i64 0]) ∧ Came w' v (diffs M) ∧ Below w.heap.size w w' := by
  subst hM
  have hl := mrg_len 40 S c
  have l1 := check_len h1
  have l2 := check_len h2
  refine (sub_few v1 v2 S c w s1 s2 g1 g2 (two_good h1 h2) (by omega) (bounds_of fun z hz => ?_)).mono ?_
  · have := hu z hz
    exact ⟨this.1, this.2.1, this.2.2.1, this.2.2.2.1⟩
  · rintro e w' ⟨v, s, er, rfl, hb, hp⟩
    rcases hp with ⟨K, hK, _⟩ | ⟨_, ho, rfl, rfl⟩
    · rw [underAt_none _ (fun z hz => (hu z hz).2.2.2.2)] at hK; cases hK
    · exact ⟨v, rfl, (own_came ho).1, hb⟩
def f1 : List It := [(cpu, 4)]
def f2 : List It := [(cpu, 1), (mem, 2)]
def f3 : List It := [(cpu, 5), (mem, 2)]
theorem f_sum : sums (mrg 40 f1 f2) = f3 := by kernel_rfl
theorem f_ok1 : checkN f1 = 0 := by kernel_rfl
theorem f_ok2 : checkN f2 = 0 := by kernel_rfl
theorem f_len : (mrg 40 f1 f2).length = 2 := by kernel_rfl
theorem f_ov : overAt (mrg 40 f1 f2) (mrg 40 f1 f2).length 0 = none := by kernel_rfl
theorem sl_new (w : World) (l : List It) (arr : Array Value) (t : TypeId) (b : Nat) (hb : b = w.heap.size) (hl : l.length ≤ 16) (hc : arr.toList = cellsL l) : Sl (w.alloc (.cells arr t)) (.slice (some ⟨b, 0, none⟩) l.length l.length) l := by
  obtain ⟨a, cap, e, h⟩ := items_new' w l arr t b hb hc
  cases e
  exact ⟨_, _, rfl, Nat.le_refl _, by unfold maxLen; omega, h⟩
set_option maxHeartbeats 4000000 in
theorem fixedSum_any (w : World) : Calls Try.prog 5 #[] w fun e w' => e = .returned (.bool true) ∧ Below w.heap.size w w' := by
  have hem : ByteArray.empty.toList = [] := by kernel_rfl
  have A := add_right (.slice (some ⟨w.heap.size, 0, none⟩) 1 1) (.slice (some ⟨w.heap.size + 1, 0, none⟩) 2 2) f1 f2 ((w.alloc (.cells #[.string cpu, .int .i64 4] 41)).alloc (.cells #[.string cpu, .int .i64 1, .string mem, .int .i64 2] 41))
    ((sl_new w f1 _ _ _ rfl (by decide) rfl).low (belowA _ _)) (sl_new _ f2 _ _ _ (by simp) (by decide) rfl) (good_of _ (by decide) (by decide)) (good_of _ (by decide) (by decide)) f_ok1 f_ok2 (by rw [f_len]; decide) f_ov
  rw [f_sum] at A
  have HA := hid A
  clear A
  go_enter Try.func5, Try.ntmps5
  go_wp2_with fail
  refine HA.out.mono ?_
  rintro e w1 ⟨v, rfl, _, sl, hb⟩
  have B := hid (show Below w.heap.size w w1 from (((Below.refl _ _).alloc (Nat.le_refl _) _).alloc (by simp) _).trans (hb.mono (by simp; omega)))
  have S := hid sl.items
  clear hb sl
  go_wp2_with fail
  refine (same_yes v _ f3 f3 (w1.alloc (.cells #[.string cpu, .int .i64 5, .string mem, .int .i64 2] 41)) (S.out.low (belowA _ _)) (items_new w1 f3 _ _ rfl) (by decide) rfl (fun _ _ => ⟨rfl, rfl⟩)).mono ?_
  rintro e w2 ⟨rfl, hb2⟩
  have B2 := hid ((B.out.alloc B.out.size _).trans (hb2.mono (by have := B.out.size; simp; omega)))
  clear hb2
  go_wp2_with fail
  go_ret
  exact ⟨rfl, B2.out⟩
end Go.Proofs.Ytnlohjcjboelgaa.L
