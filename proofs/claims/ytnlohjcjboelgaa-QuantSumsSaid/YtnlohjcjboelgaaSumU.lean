import Derived.Test.YtnlohjcjboelgaaRPure
import Derived.Test.YtnlohjcjboelgaaRAddM
import Derived.Test.YtnlohjcjboelgaaRShort
import Derived.Test.YtnlohjcjboelgaaFixA
import Derived.Test.YtnlohjcjboelgaaSub
import Derived.Test.YtnlohjcjboelgaaCop
namespace Go.Proofs.Ytnlohjcjboelgaa.L
open Go.RowKit
set_option linter.unusedVariables false
set_option maxHeartbeats 8000000 in
set_option maxRecDepth 100000 in
theorem sub_bad (v1 v2 : Value) (l c : List It) (w : World) (s1 : Sl w v1 l) (s2 : Sl w v2 c) (g1 : Good l) (g2 : Good c) (bad : chkAll (two l c) 2 0 ≠ 0) :
    Calls Try.prog 15 #[v1, v2] w fun e w' => e = .returned (.tuple #[.slice none 0 0, .string ByteArray.empty, .int .i64 (chkAll (two l c) 2 0)]) ∧ Below w.heap.size w w' := by
  have CA := hid (check_two v1 v2 l c w s1.items s2.items g1 g2)
  have e2 : (chkAll (two l c) 2 0 != 0) = true := by simpa using bad
  obtain ⟨a1, c1, rfl, _⟩ := s1
  obtain ⟨a2, c2, rfl, _⟩ := s2
  generalize chkAll (two l c) 2 0 = er at *
  generalize l.length = n1 at *
  generalize c.length = n2 at *
  clear bad
  go_enter Try.func15, Try.ntmps15
  go_wp2_with fail
  refine CA.out.mono ?_
  rintro e w1 ⟨rfl, hb1⟩
  have HB1 := hid hb1
  clear hb1
  go_wp2_with fail
  go_ret3
  exact ⟨rfl, HB1.out⟩
/-- An answer: its list, the bytes of its name, its error. -/
def AnsP (R : List It) (S : List UInt8) (er : Int) (w : World) (e : Ending) (w' : World) : Prop := ∃ v s, e = .returned (.tuple #[v, .string s, .int .i64 er]) ∧ s.toList = S ∧ Items w' v R ∧ Below w.heap.size w w'
theorem items_nil (w : World) : Items w (.slice none 0 0) [] := ⟨_, _, rfl, Or.inl rfl⟩
theorem ans_nil {w w' : World} {e : Ending} {s : ByteArray} {er : Int} (h : e = .returned (.tuple #[.slice none 0 0, .string s, .int .i64 er])) (hb : Below w.heap.size w w') : AnsP [] s.toList er w e w' := ⟨_, s, h, rfl, items_nil _, hb⟩
theorem bnds {l c : List It} (h1 : checkN l = 0) (h2 : checkN c = 0) (g1 : Good l) (g2 : Good c) : ∀ j, j < (mrg 40 l c).length → 0 ≤ px (mrg 40 l c) j ∧ px (mrg 40 l c) j ≤ 9223372036854775807 ∧ 0 ≤ py (mrg 40 l c) j ∧ py (mrg 40 l c) j ≤ 9223372036854775807 :=
  bounds_of fun z hz => by
    have := mrg_right h1 h2 g1 g2 40 z hz
    exact ⟨this.2.2.1, this.2.2.2.1, this.2.2.2.2.1, this.2.2.2.2.2.1⟩
theorem items_ownF {w : World} {base : Nat} {v : Value} {l : List It} (h : w.ownsRow base 41 2 v l.length (cellsF l)) : Items w v l := by
  rw [cellsF_eq] at h
  exact items_own h
/-- Both answer the same sum. -/
theorem add_uni (l c : List It) (g1 : Good l) (g2 : Good c) : ∃ R S er, R.length ≤ 40 ∧
    (∀ v1 v2 w, Sl w v1 l → Sl w v2 c → Calls Try.prog 10 #[v1, v2] w (AnsP R S er w)) ∧
    (∀ v1 v2 w, Items w v1 l → Items w v2 c → Calls Try.prog 12 #[v1, v2] w (AnsP R S er w)) := by
  by_cases bad : chkAll (two l c) 2 0 = 0
  · obtain ⟨o1, o2⟩ := two_ok bad
    have t : Two l c := ⟨o1, o2, g1, g2⟩
    have bl := both_len t.n (up_of o1) (up_of o2)
    have ml := mrg_len 40 l c
    have l1 := check_len o1
    have l2 := check_len o2
    by_cases hl : 16 < (mrg 40 l c).length
    · exact ⟨[], _, 27, by simp, fun v1 v2 w s1 s2 => (add_many v1 v2 l c w s1 s2 g1 g2 bad hl).mono (by rintro e w' ⟨h, hb⟩; exact ans_nil h hb), fun v1 v2 w i1 i2 => (radd_many v1 v2 l c w i1 i2 g1 g2 o1 o2 (by omega) (by omega)).mono (by rintro e w' ⟨h, hb⟩; exact ans_nil h hb)⟩
    · cases hov : overAt (mrg 40 l c) (mrg 40 l c).length 0 with
      | some K =>
        refine ⟨[], (pn (mrg 40 l c) K).toList, 28, by simp, fun v1 v2 w s1 s2 => (add_few v1 v2 l c w s1 s2 g1 g2 bad (by omega) (bnds o1 o2 g1 g2)).mono ?_, fun v1 v2 w i1 i2 => (radd_few v1 v2 l c w i1 i2 g1 g2 o1 o2 (by omega)).mono ?_⟩
        · rintro e w' ⟨v, s, er, rfl, hb, hp⟩
          rcases hp with ⟨K', hK, rfl, rfl, rfl⟩ | ⟨hn, _⟩
          · rw [hov] at hK; cases hK
            exact ans_nil rfl hb
          · rw [hov] at hn; cases hn
        · rintro e w' ⟨v, s, er, rfl, hb, hp⟩
          rcases hp with ⟨q, hq, oq, es, hle, rfl, rfl⟩ | ⟨hn, _⟩
          · rw [t.over_name hov hq oq es hle]
            exact ans_nil rfl hb
          · obtain ⟨i, hi, oi, _⟩ := t.over_some hov
            exact absurd oi (hn i hi)
      | none =>
        refine ⟨sums (mrg 40 l c), ByteArray.empty.toList, 0, by unfold sums; rw [List.length_map]; omega, fun v1 v2 w s1 s2 => (add_few v1 v2 l c w s1 s2 g1 g2 bad (by omega) (bnds o1 o2 g1 g2)).mono ?_, fun v1 v2 w i1 i2 => (radd_few v1 v2 l c w i1 i2 g1 g2 o1 o2 (by omega)).mono ?_⟩
        · rintro e w' ⟨v, s, er, rfl, hb, hp⟩
          rcases hp with ⟨K', hK, _⟩ | ⟨_, ho, rfl, rfl⟩
          · rw [hov] at hK; cases hK
          · exact ⟨_, _, rfl, rfl, items_ownF ho, hb⟩
        · rintro e w' ⟨v, s, er, rfl, hb, hp⟩
          rcases hp with ⟨q, hq, oq, _⟩ | ⟨_, ho, rfl, rfl⟩
          · exact absurd oq (t.over_none hov q hq)
          · rw [t.nonz_sums] at ho
            exact ⟨_, _, rfl, rfl, items_ownF ho, hb⟩
  · exact ⟨[], _, _, by simp, fun v1 v2 w s1 s2 => (add_bad v1 v2 l c w s1 s2 g1 g2 bad).mono (by rintro e w' ⟨h, hb⟩; exact ans_nil h hb), fun v1 v2 w i1 i2 => (radd_bad v1 v2 l c w i1 i2 g1 g2 bad).mono (by rintro e w' ⟨h, hb⟩; exact ans_nil h hb)⟩
theorem diffs_len (M : List Pr) : (diffs M).length ≤ M.length := by
  unfold diffs
  rw [List.length_map]
  exact List.length_filter_le _ _
/-- Both answer the same difference. -/
theorem sub_uni (l c : List It) (g1 : Good l) (g2 : Good c) : ∃ R S er, R.length ≤ 40 ∧
    (∀ v1 v2 w, Sl w v1 l → Sl w v2 c → Calls Try.prog 15 #[v1, v2] w (AnsP R S er w)) ∧
    (∀ v1 v2 w, Items w v1 l → Items w v2 c → Calls Try.prog 14 #[v1, v2] w (AnsP R S er w)) := by
  by_cases bad : chkAll (two l c) 2 0 = 0
  · obtain ⟨o1, o2⟩ := two_ok bad
    have t : Two l c := ⟨o1, o2, g1, g2⟩
    have bl := both_len t.n (up_of o1) (up_of o2)
    have ml := mrg_len 40 l c
    have l1 := check_len o1
    have l2 := check_len o2
    have dl := diffs_len (mrg 40 l c)
    cases hun : underAt (mrg 40 l c) (mrg 40 l c).length 0 with
    | some K =>
      refine ⟨[], (pn (mrg 40 l c) K).toList, 29, by simp, fun v1 v2 w s1 s2 => (sub_few v1 v2 l c w s1 s2 g1 g2 bad (by omega) (bnds o1 o2 g1 g2)).mono ?_, fun v1 v2 w i1 i2 => (rsub_good v1 v2 l c w i1 i2 g1 g2 o1 o2 (by omega)).mono ?_⟩
      · rintro e w' ⟨v, s, er, rfl, hb, hp⟩
        rcases hp with ⟨K', hK, rfl, rfl, rfl⟩ | ⟨hn, _⟩
        · rw [hun] at hK; cases hK
          exact ans_nil rfl hb
        · rw [hun] at hn; cases hn
      · rintro e w' ⟨v, s, er, rfl, hb, hp⟩
        rcases hp with ⟨k, hk, rfl, rfl, rfl⟩ | ⟨hn, _⟩
        · rw [t.sub_name hun hk]
          exact ans_nil rfl hb
        · rw [t.sub_none.2 hn] at hun; cases hun
    | none =>
      refine ⟨diffs (mrg 40 l c), ByteArray.empty.toList, 0, by omega, fun v1 v2 w s1 s2 => (sub_few v1 v2 l c w s1 s2 g1 g2 bad (by omega) (bnds o1 o2 g1 g2)).mono ?_, fun v1 v2 w i1 i2 => (rsub_good v1 v2 l c w i1 i2 g1 g2 o1 o2 (by omega)).mono ?_⟩
      · rintro e w' ⟨v, s, er, rfl, hb, hp⟩
        rcases hp with ⟨K', hK, _⟩ | ⟨_, ho, rfl, rfl⟩
        · rw [hun] at hK; cases hK
        · exact ⟨_, _, rfl, rfl, items_ownF ho, hb⟩
      · rintro e w' ⟨v, s, er, rfl, hb, hp⟩
        rcases hp with ⟨k, hk, _⟩ | ⟨_, ho, rfl, rfl⟩
        · rw [t.sub_none.1 hun] at hk; cases hk
        · rw [t.diffs hun] at ho
          exact ⟨_, _, rfl, rfl, items_ownF ho, hb⟩
  · exact ⟨[], _, _, by simp, fun v1 v2 w s1 s2 => (sub_bad v1 v2 l c w s1 s2 g1 g2 bad).mono (by rintro e w' ⟨h, hb⟩; exact ans_nil h hb), fun v1 v2 w i1 i2 => (rsub_bad v1 v2 l c w i1 i2 g1 g2 bad).mono (by rintro e w' ⟨h, hb⟩; exact ans_nil h hb)⟩
end Go.Proofs.Ytnlohjcjboelgaa.L
