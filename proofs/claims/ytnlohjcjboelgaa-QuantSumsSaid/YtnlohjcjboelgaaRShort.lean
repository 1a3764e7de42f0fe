import Derived.Test.YtnlohjcjboelgaaRSub
namespace Go.Proofs.Ytnlohjcjboelgaa.L
open Go.RowKit
set_option linter.unusedVariables false
theorem chk_three (l c u : List It) : chkAll (three l c u) 3 0 = if checkN l = 0 then (if checkN c = 0 then checkN u else checkN c) else checkN l := by
  show (if checkN l = 0 then (if checkN c = 0 then (if checkN u = 0 then 0 else checkN u) else checkN c) else checkN l) = _
  by_cases h : checkN l = 0
  · rw [if_pos h, if_pos h]
    by_cases h2 : checkN c = 0
    · rw [if_pos h2, if_pos h2]
      split <;> simp_all
    · rw [if_neg h2, if_neg h2]
  · rw [if_neg h, if_neg h]
set_option maxHeartbeats 8000000 in
theorem rshort_bad (v1 v2 v3 : Value) (l c u : List It) (w : World) (i1 : Items w v1 l) (i2 : Items w v2 c) (i3 : Items w v3 u) (g1 : Good l) (g2 : Good c) (g3 : Good u) (bad : chkAll (three l c u) 3 0 ≠ 0) :
    Calls Try.prog 16 #[v1, v2, v3] w fun e w' => e = .returned (.tuple #[.string ByteArray.empty, .int .i64 (chkAll (three l c u) 3 0)]) ∧ Below w.heap.size w w' := by
  have C1 := hid (rcheck_any v1 l w i1 g1)
  have C2 := hid (fun n => rcheck_any v2 c (w.drewN n) (i2.lowN n) g2)
  have C3 := hid (fun n => rcheck_any v3 u (w.drewN n) (i3.lowN n) g3)
  rw [chk_three] at bad ⊢
  by_cases h : checkN l = 0
  · rw [if_pos h] at bad ⊢
    rw [h] at C1
    by_cases h2 : checkN c = 0
    · rw [if_pos h2] at bad ⊢
      rw [h2] at C2
      have ne : (checkN u != 0) = true := by simpa using bad
      generalize checkN u = k at *
      go_enter Try.func16, Try.ntmps16
      go_wp2_with fail
      refine C1.out.mono ?_
      rintro e w1 ⟨rfl, n, hww⟩
      subst hww
      go_wp2_with fail
      refine (C2.out n).mono ?_
      rintro e w1 ⟨rfl, n2, hww⟩
      subst hww
      go_wp2_with fail
      refine (C3.out _).mono ?_
      rintro e w1 ⟨rfl, n3, hww⟩
      subst hww
      go_wp2_with fail
      go_ret2
      exact ⟨rfl, below_drewN (Below.refl _ _) _⟩
    · rw [if_neg h2] at bad ⊢
      have ne : (checkN c != 0) = true := by simpa using bad
      have ne2 : (checkN c == 0) = false := by simpa using bad
      generalize checkN c = k at *
      go_enter Try.func16, Try.ntmps16
      go_wp2_with fail
      refine C1.out.mono ?_
      rintro e w1 ⟨rfl, n, hww⟩
      subst hww
      go_wp2_with fail
      refine (C2.out n).mono ?_
      rintro e w1 ⟨rfl, n2, hww⟩
      subst hww
      go_wp2_with fail
      go_ret2
      exact ⟨rfl, below_drewN (Below.refl _ _) _⟩
  · rw [if_neg h] at bad ⊢
    have ne : (checkN l != 0) = true := by simpa using h
    have ne2 : (checkN l == 0) = false := by simpa using h
    generalize checkN l = k at *
    go_enter Try.func16, Try.ntmps16
    go_wp2_with fail
    refine C1.out.mono ?_
    rintro e w1 ⟨rfl, n, hww⟩
    subst hww
    go_wp2_with fail
    go_ret2
    exact ⟨rfl, below_drewN (Below.refl _ _) _⟩
theorem too_of {l c u : List It} {k : Nat} (h : 0 < am l k) : too l c u k = decide (getN c (nm l k) - getN u (nm l k) < am l k) := by
  unfold too
  congr 1
  apply propext
  constructor <;> intro <;> omega
set_option maxHeartbeats 8000000 in
set_option maxRecDepth 100000 in
theorem rshort_good (v1 v2 v3 : Value) (l c u : List It) (w : World) (i1 : Items w v1 l) (i2 : Items w v2 c) (i3 : Items w v3 u) (g1 : Good l) (g2 : Good c) (g3 : Good u) (ok : chkAll (three l c u) 3 0 = 0) :
    Calls Try.prog 16 #[v1, v2, v3] w fun e w' => e = .returned (.tuple #[.string (shortS l c u), .int .i64 (shortE l c u)]) ∧ Below w.heap.size w w' := by
  obtain ⟨o1, o2, o3⟩ := three_ok ok
  have HE := hid (show shortE l c u = (if (shortAt l c u l.length 0).isSome then 29 else 0) by unfold shortE; rw [if_pos ok])
  have HS := hid (show (∀ k, shortAt l c u l.length 0 = some k → shortS l c u = nm l k) ∧ (shortAt l c u l.length 0 = none → shortS l c u = ByteArray.empty) from ⟨fun k h => by unfold shortS; rw [if_pos ok, h], fun h => by unfold shortS; rw [if_pos ok, h]⟩)
  have NMC := hid (show ∀ i, i < l.length → (nm l i).size ≤ maxLen ∧ 0 < am l i ∧ am l i ≤ 9223372036854775807 from fun i hi => by
    obtain ⟨x, hx, e1, e2⟩ := nm_mem hi
    have := right_mem o1 g1 x hx
    rw [e1, e2]
    exact ⟨this.2.2.2, this.2.1, this.2.2.1⟩)
  have GB := hid (show ∀ s, 0 ≤ getN c s ∧ getN c s ≤ 9223372036854775807 ∧ 0 ≤ getN u s ∧ getN u s ≤ 9223372036854775807 from fun s => ⟨get_nonneg o2 s c.length 0 (by omega), (get_bound c s g2 c.length 0 (by omega)).2, get_nonneg o3 s u.length 0 (by omega), (get_bound u s g3 u.length 0 (by omega)).2⟩)
  have GL := hid (fun W s (hB : Below w.heap.size w W) (hs : s.size ≤ maxLen) => rget_any v2 c s W (i2.low hB) g2 hs)
  have GU := hid (fun W s (hB : Below w.heap.size w W) (hs : s.size ≤ maxLen) => rget_any v3 u s W (i3.low hB) g3 hs)
  have C1 := hid (rcheck_any v1 l w i1 g1)
  have C2 := hid (fun n => rcheck_any v2 c (w.drewN n) (i2.lowN n) g2)
  have C3 := hid (fun n => rcheck_any v3 u (w.drewN n) (i3.lowN n) g3)
  rw [o1] at C1
  rw [o2] at C2
  rw [o3] at C3
  have hl16 := check_len o1
  obtain ⟨a1, c1, rfl, x1⟩ := i1
  obtain ⟨len, hle⟩ : ∃ n, n = l.length := ⟨_, rfl⟩
  have N1 := hid hle
  rw [← hle] at x1 NMC hl16 C1 ⊢
  clear i2 i3 g1 g2 g3 ok o1 o2 o3 hle
  go_enter Try.func16, Try.ntmps16
  go_wp2_with fail
  refine C1.out.mono ?_
  rintro e w1 ⟨rfl, n1, hww⟩
  subst hww
  go_wp2_with fail
  refine (C2.out n1).mono ?_
  rintro e w1 ⟨rfl, n2, hww⟩
  subst hww
  go_wp2_with fail
  refine (C3.out _).mono ?_
  rintro e w1 ⟨rfl, n3, hww⟩
  subst hww
  go_wp2_with fail
  go_loopw [9] (fun i wr => ∃ k : Nat, k ≤ len ∧ i = .int .i64 k ∧ Hid (shortAt l c u l.length 0 = shortAt l c u (len - k) k) ∧ Hid (Below w.heap.size w wr)) (fun i _ => len - (intOf i).toNat)
  case atStart => exact ⟨0, Nat.zero_le _, rfl, hid (by rw [N1.out]; rfl), hid (below_drewN (Below.refl _ _) _)⟩
  case round =>
    obtain ⟨k, hk, rfl, HK, BW⟩ := hrel
    by_cases hlt : k < len
    · rcases x1 with h0 | ⟨b, off, rfl, hbl, hc⟩
      · omega
      obtain ⟨p0, p1⟩ := hc k hlt
      rw [← BW.out.cell (p := ⟨b, off + k * 2, none⟩) hbl] at p0
      rw [← BW.out.cell (p := ⟨b, off + k * 2 + 1, none⟩) hbl] at p1
      obtain ⟨m1, m2, m3⟩ := NMC.out k hlt
      have HST := hid (HK.out.trans (shortAt_step l c u len k hlt))
      have HTO := hid (too_of (c := c) (u := u) m2)
      have GL2 := hid (fun m => GL.out (wr.drewN m) (nm l k) (below_drewN BW.out m) m1)
      have GU2 := hid (fun m => GU.out (wr.drewN m) (nm l k) (below_drewN BW.out m) m1)
      obtain ⟨x0, x1, y0, y1⟩ := GB.out (nm l k)
      clear hc HK
      obtain ⟨s, hs⟩ : ∃ s, s = nm l k := ⟨_, rfl⟩
      have ES := hid hs
      rw [← hs] at p0 GL2 GU2 HTO x0 x1 y0 y1 m1
      generalize getN c s = x at *
      generalize getN u s = y at *
      generalize am l k = z at *
      clear hs
      by_cases lk : x - y < z
      · have HF := hid (show shortAt l c u l.length 0 = some k from by rw [HST.out, HTO.out, decide_eq_true lk, if_pos rfl])
        have HE2 := hid (show shortE l c u = 29 by rw [HE.out, HF.out]; rfl)
        have HS2 := hid (show shortS l c u = s from (HS.out.1 k HF.out).trans ES.out.symm)
        clear HST
        go_wp2_with fail
        go_quiet ((first | (go_at_call_of 24 v2; exact Calls.quiet_of (GL2.out _)) | (go_at_call_of 24 v3; exact Calls.quiet_of (GU2.out _))))
        go_wp2_with fail
        try (go_quiet (fail))
        try (go_wp2_with fail)
        go_ret2
        exact ⟨by rw [HE2.out, HS2.out]; rfl, by first | exact BW.out | exact below_drewN BW.out _ | exact below_drewN (below_drewN BW.out _) _⟩
      · have HF := hid (show shortAt l c u l.length 0 = shortAt l c u (len - (k + 1)) (k + 1) from by rw [HST.out, HTO.out, decide_eq_false lk]; rfl)
        clear HST
        go_wp2_with fail
        go_quiet ((first | (go_at_call_of 24 v2; exact Calls.quiet_of (GL2.out _)) | (go_at_call_of 24 v3; exact Calls.quiet_of (GU2.out _))))
        go_wp2_with fail
        exact ⟨⟨k + 1, by omega, by go_num, HF, hid (below_drewN BW.out _)⟩, by simp [intOf]; omega⟩
    · obtain rfl : k = len := by omega
      have HF := hid (show shortAt l c u l.length 0 = none by rw [HK.out, Nat.sub_self]; rfl)
      have HE2 := hid (show shortE l c u = 0 by rw [HE.out, HF.out]; rfl)
      have HS2 := hid (show shortS l c u = ByteArray.empty from HS.out.2 HF.out)
      clear HK
      go_wp2_with fail
      go_ret2
      exact ⟨by rw [HE2.out, HS2.out]; rfl, BW.out⟩
theorem rshort_any (v1 v2 v3 : Value) (l c u : List It) (w : World) (i1 : Items w v1 l) (i2 : Items w v2 c) (i3 : Items w v3 u) (g1 : Good l) (g2 : Good c) (g3 : Good u) :
    Calls Try.prog 16 #[v1, v2, v3] w fun e w' => e = .returned (.tuple #[.string (shortS l c u), .int .i64 (shortE l c u)]) ∧ Below w.heap.size w w' := by
  by_cases ok : chkAll (three l c u) 3 0 = 0
  · exact rshort_good v1 v2 v3 l c u w i1 i2 i3 g1 g2 g3 ok
  · have e1 : shortE l c u = chkAll (three l c u) 3 0 := by unfold shortE; rw [if_neg ok]
    have e2 : shortS l c u = ByteArray.empty := by unfold shortS; rw [if_neg ok]
    rw [e1, e2]
    exact rshort_bad v1 v2 v3 l c u w i1 i2 i3 g1 g2 g3 ok
end Go.Proofs.Ytnlohjcjboelgaa.L
