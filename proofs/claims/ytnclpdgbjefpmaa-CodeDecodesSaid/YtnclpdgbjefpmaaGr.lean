import Derived.Test.YtnclpdgbjefpmaaGp
namespace Go.Proofs.Ytnclpdgbjefpmaa.L
open Go.RowKit
set_option linter.unusedVariables false
set_option linter.unusedSimpArgs false
theorem made_own (w : World) : OwnB (w.alloc (.cells #[] 5)) w.heap.size (.slice (some ⟨w.heap.size, 0, none⟩) 0 0) [] := World.ownsRow_made w #[] 0 (Nat.le_refl _) (Nat.zero_le _) rfl
set_option maxHeartbeats 4000000 in
set_option maxRecDepth 100000 in
theorem dcount_any (n : Nat) (w : World) (hn : n < 9223372036854775808) : Calls Try.prog 25 #[.int .i64 (n : Int)] w fun e w' => ∃ v, e = .returned v ∧ OwnB w' w.heap.size v (cnt n) ∧ Below w.heap.size w w' := by
  have hcl := cnt_short 9 n (by omega)
  have HCL := hid hcl
  have HO0 := hid (made_own w)
  have HB0 := hid (belowA w (.cells #[] 5))
  clear hcl
  go_enter Try.func25, Try.ntmps25
  go_wp2_with fail
  go_loopw [0, 3] (fun i v wr => ∃ (m : Nat) (L1 : List UInt8) (v1 : Value), i = .int .i64 (m : Int) ∧ v = v1 ∧ Hid (m ≤ n) ∧ Hid (OwnB wr w.heap.size v1 L1) ∧ Hid (Below w.heap.size w wr) ∧ Hid (L1 ++ cnt m = cnt n)) (fun i _ _ => (intOf i).toNat)
  case atStart => exact ⟨n, [], _, rfl, rfl, hid (Nat.le_refl _), HO0, HB0, hid (by first | rfl | trivial)⟩
  case round =>
    obtain ⟨m, L1, v1, rfl, hv, HMN, HO, HB, HE⟩ := hrel
    have hv2 := hv.symm
    subst hv2
    clear hv
    have hlen : L1.length ≤ 10 := by
      have := congrArg List.length HE.out
      have := HCL.out
      simp only [List.length_append] at *
      omega
    have hle := HB.out.size
    obtain ⟨va, vc, rfl⟩ := ownb_form HO.out
    have hmn := HMN.out
    by_cases hm : 127 < m
    · have g1 : (127 : Int) < (m : Int) := by omega
      have e1 := tmodN m 128
      have e2 := tdivN m 128
      obtain ⟨c, hc⟩ : ∃ c, c = UInt8.ofNat (m % 128 + 128) := ⟨_, rfl⟩
      have hcm : cnt m = c :: cnt (m / 128) := by rw [cnt, if_pos hm, hc]
      have hd : (m : Int) % 128 + 128 = iv c := by unfold iv; rw [hc, u8_nat (by omega)]; omega
      have HD := hid hd
      have HC := hid hcm
      clear hd hcm hc
      have HL := hid (show L1.length ≤ 70368744177664 by omega)
      go_wp2_with (at_builtin; go_loud (refine wpList_byte rfl _ _ rfl w.heap.size (.slice va L1.length vc) L1 _ _ HD.out rfl HO.out rfl HL.out hle ?_))
      intro v' w1 ho' hg'
      obtain ⟨va', n', vc', rfl⟩ : ∃ va' n' vc', v' = .slice va' n' vc' := by obtain ⟨x, y, e⟩ := ownb_form ho'; exact ⟨_, _, _, e⟩
      have HO2 := hid ho'
      have HB2 := hid (below_grow HB.out HO.out hg')
      clear ho' hg'
      go_wp2_with fail
      refine ⟨⟨m / 128, L1 ++ [c], .slice va' n' vc', rfl, rfl, hid (by omega), HO2, HB2, hid (by rw [← HE.out, HC.out]; simp)⟩, by simp [intOf]; omega⟩
    · have g1 : ¬ (127 : Int) < (m : Int) := by omega
      obtain ⟨c, hc⟩ : ∃ c, c = UInt8.ofNat m := ⟨_, rfl⟩
      have hcm : cnt m = [c] := by rw [cnt, if_neg hm, hc]
      have hd : (m : Int) = iv c := by unfold iv; rw [hc, u8_nat (by omega)]
      have HD := hid hd
      have HC := hid hcm
      have hw8 : IntKind.u8.wrap (m : Int) = (m : Int) := by unfold IntKind.wrap; simp [IntKind.bits, IntKind.signed]; omega
      clear hd hcm hc
      have HL := hid (show L1.length ≤ 70368744177664 by omega)
      go_wp2_with (at_builtin; go_loud (refine wpList_byte rfl _ _ rfl w.heap.size (.slice va L1.length vc) L1 _ _ HD.out rfl HO.out rfl HL.out hle ?_))
      intro v' w1 ho' hg'
      obtain ⟨va', n', vc', rfl⟩ : ∃ va' n' vc', v' = .slice va' n' vc' := by obtain ⟨x, y, e⟩ := ownb_form ho'; exact ⟨_, _, _, e⟩
      have HO2 := hid ho'
      have HB2 := hid (below_grow HB.out HO.out hg')
      clear ho' hg'
      go_wp2_with fail
      go_ret
      exact ⟨_, rfl, by rw [← HE.out, HC.out]; exact HO2.out, HB2.out⟩
set_option maxHeartbeats 1000000 in
theorem dsigned_any (z : Int) (w : World) (h : shI z = true) : Calls Try.prog 27 #[.int .i64 z] w fun e w' => ∃ v, e = .returned v ∧ OwnB w' w.heap.size v (sgnC.W z) ∧ Below w.heap.size w w' := by
  have hz : -1000000000000000000 ≤ z ∧ z ≤ 1000000000000000000 := by unfold shI inR at h; simpa using h
  have HC := hid (dcount_any (zz z) w (by unfold zz; split <;> omega))
  rw [sgnC_W]
  by_cases h0 : 0 ≤ z
  · have e : ((zz z : Nat) : Int) = 2 * z := by unfold zz; rw [if_neg (by omega)]; omega
    rw [e] at HC
    generalize cnt (zz z) = l at *
    have h1 : ¬ z < 0 := by omega
    go_enter Try.func27, Try.ntmps27
    go_wp2_with fail
    refine HC.out.mono ?_
    rintro e w1 ⟨v, rfl, ho, hb⟩
    have HO := hid ho
    have HB := hid hb
    obtain ⟨a, c, rfl⟩ := ownb_form ho
    clear ho hb
    go_wp2_with fail
    go_ret
    exact ⟨_, rfl, HO.out, HB.out⟩
  · have e : ((zz z : Nat) : Int) = -2 * z - 1 := by unfold zz; rw [if_pos (by omega)]; omega
    rw [e] at HC
    generalize cnt (zz z) = l at *
    have h1 : z < 0 := by omega
    have h2 : ¬ 0 ≤ z := h0
    go_enter Try.func27, Try.ntmps27
    go_wp2_with fail
    refine HC.out.mono ?_
    rintro e w1 ⟨v, rfl, ho, hb⟩
    have HO := hid ho
    have HB := hid hb
    obtain ⟨a, c, rfl⟩ := ownb_form ho
    clear ho hb
    go_wp2_with fail
    go_ret
    exact ⟨_, rfl, HO.out, HB.out⟩
set_option maxHeartbeats 1000000 in
theorem dtext_any (s : ByteArray) (w : World) (h : shS s = true) : Calls Try.prog 26 #[.string s] w fun e w' => ∃ v, e = .returned v ∧ OwnB w' w.heap.size v (textC.W s) ∧ Below w.heap.size w w' := by
  have hs : s.size ≤ 127 := by unfold shS at h; simp only [decide_eq_true_eq] at h; omega
  have HC := hid (dcount_any s.size w (by omega))
  have hW : textC.W s = cnt s.size ++ s.data.toList := rfl
  rw [hW]
  have hcl := cnt_short 9 s.size (by omega)
  have HCL := hid hcl
  have hsm : s.size ≤ maxLen := by unfold maxLen; omega
  have HSS := hid hs
  clear h hcl hW
  go_enter Try.func26, Try.ntmps26
  go_wp2_with fail
  refine HC.out.mono ?_
  rintro e w1 ⟨v, rfl, ho, hb⟩
  have HO := hid ho
  have HB := hid hb
  obtain ⟨a, c, rfl⟩ := ownb_form ho
  clear ho hb HC
  have HSZ := hid (show w.heap.size ≤ w1.heap.size from HB.out.size)
  go_wp2_with (at_builtin; go_loud (refine wpList_text rfl _ _ rfl w.heap.size (.slice a (cnt s.size).length c) (cnt s.size) s rfl HO.out rfl (by have h1 := HCL.out; have h2 := HSS.out; omega) HSZ.out ?_))
  intro v' w2 ho' hg'
  obtain ⟨a', c', rfl⟩ := ownb_form ho'
  have HO2 := hid ho'
  have HB2 := hid (below_grow HB.out HO.out hg')
  clear ho' hg'
  go_wp2_with fail
  go_ret
  exact ⟨_, rfl, HO2.out, HB2.out⟩
theorem dfits_any (n : Int) (u : Bool) (w : World) : Calls Try.prog 69 #[.int .i64 n, .bool u] w fun e w' => e = .returned (.bool (fitB u n)) ∧ w' = w := by
  unfold fitB inR
  cases u with
  | false =>
    by_cases h : n = 0
    · have h1 : (n == 0) = true := by simpa using h
      go_enter Try.func69, Try.ntmps69
      go_wp2
      go_ret
      exact ⟨by first | (simp [h]; done) | (simp [h]; omega) | (simp; omega), rfl⟩
    · have h1 : (n == 0) = false := by simpa using h
      go_enter Try.func69, Try.ntmps69
      go_wp2
      go_ret
      exact ⟨by first | (simp [h]; done) | (simp [h]; omega) | (simp; omega), rfl⟩
  | true =>
    by_cases h : 0 ≤ n
    · by_cases h2 : n ≤ 65535
      · go_enter Try.func69, Try.ntmps69
        go_wp2
        go_ret
        exact ⟨by simp [h, h2], rfl⟩
      · go_enter Try.func69, Try.ntmps69
        go_wp2
        go_ret
        exact ⟨by simp [h, h2], rfl⟩
    · go_enter Try.func69, Try.ntmps69
      go_wp2
      go_ret
      exact ⟨by first | (simp [h]; done) | (simp; omega), rfl⟩
theorem results_tmp3 {fn : Func} {a b c : Tmp} (h : fn.results = #[.tmp a, .tmp b, .tmp c]) (tmps : Array Value) (P : Program) (w : World) : (results fn tmps).run P w = .ok (.tuple #[tmps.getD a undef, tmps.getD b undef, tmps.getD c undef]) w := by
  simp [results, h]
set_option maxHeartbeats 8000000 in
set_option maxRecDepth 100000 in
theorem duses_any (o : Int) (w : World) : Calls Try.prog 28 #[.int .i64 o] w fun e w' => e = .returned (.tuple #[.bool (us o).1, .bool (us o).2.1, .bool (us o).2.2]) ∧ w' = w := by
  have hc : o = 1 ∨ o = 2 ∨ o = 3 ∨ o = 4 ∨ o = 5 ∨ o = 6 ∨ o = 7 ∨ o = 12 ∨ o = 13 ∨ o = 14 ∨ o = 16 ∨ o = 17 ∨ o = 18 ∨ o = 19 ∨ o = 20 ∨ o = 21 ∨ o = 22 ∨ o = 23 ∨ o = 24 ∨ o = 25 ∨ o = 26 ∨ o = 31 ∨ o = 32 ∨ o = 33 ∨ o = 34 ∨ (o ≠ 1 ∧ o ≠ 2 ∧ o ≠ 3 ∧ o ≠ 4 ∧ o ≠ 5 ∧ o ≠ 6 ∧ o ≠ 7 ∧ o ≠ 12 ∧ o ≠ 13 ∧ o ≠ 14 ∧ o ≠ 16 ∧ o ≠ 17 ∧ o ≠ 18 ∧ o ≠ 19 ∧ o ≠ 20 ∧ o ≠ 21 ∧ o ≠ 22 ∧ o ≠ 23 ∧ o ≠ 24 ∧ o ≠ 25 ∧ o ≠ 26 ∧ o ≠ 31 ∧ o ≠ 32 ∧ o ≠ 33 ∧ o ≠ 34) := by omega
  rcases hc with rfl | rfl | rfl | rfl | rfl | rfl | rfl | rfl | rfl | rfl | rfl | rfl | rfl | rfl | rfl | rfl | rfl | rfl | rfl | rfl | rfl | rfl | rfl | rfl | rfl | h
  · rw [show (us 1).1 = true from rfl, show (us 1).2.1 = false from rfl, show (us 1).2.2 = false from rfl]
    go_enter Try.func28, Try.ntmps28
    go_wp2
    refine bodyPost_ret (results_tmp3 rfl _ _ _) rfl ⟨rfl, rfl⟩
  · rw [show (us 2).1 = true from rfl, show (us 2).2.1 = false from rfl, show (us 2).2.2 = false from rfl]
    go_enter Try.func28, Try.ntmps28
    go_wp2
    refine bodyPost_ret (results_tmp3 rfl _ _ _) rfl ⟨rfl, rfl⟩
  · rw [show (us 3).1 = true from rfl, show (us 3).2.1 = false from rfl, show (us 3).2.2 = false from rfl]
    go_enter Try.func28, Try.ntmps28
    go_wp2
    refine bodyPost_ret (results_tmp3 rfl _ _ _) rfl ⟨rfl, rfl⟩
  · rw [show (us 4).1 = true from rfl, show (us 4).2.1 = false from rfl, show (us 4).2.2 = false from rfl]
    go_enter Try.func28, Try.ntmps28
    go_wp2
    refine bodyPost_ret (results_tmp3 rfl _ _ _) rfl ⟨rfl, rfl⟩
  · rw [show (us 5).1 = true from rfl, show (us 5).2.1 = false from rfl, show (us 5).2.2 = false from rfl]
    go_enter Try.func28, Try.ntmps28
    go_wp2
    refine bodyPost_ret (results_tmp3 rfl _ _ _) rfl ⟨rfl, rfl⟩
  · rw [show (us 6).1 = true from rfl, show (us 6).2.1 = false from rfl, show (us 6).2.2 = false from rfl]
    go_enter Try.func28, Try.ntmps28
    go_wp2
    refine bodyPost_ret (results_tmp3 rfl _ _ _) rfl ⟨rfl, rfl⟩
  · rw [show (us 7).1 = true from rfl, show (us 7).2.1 = false from rfl, show (us 7).2.2 = false from rfl]
    go_enter Try.func28, Try.ntmps28
    go_wp2
    refine bodyPost_ret (results_tmp3 rfl _ _ _) rfl ⟨rfl, rfl⟩
  · rw [show (us 12).1 = true from rfl, show (us 12).2.1 = true from rfl, show (us 12).2.2 = false from rfl]
    go_enter Try.func28, Try.ntmps28
    go_wp2
    refine bodyPost_ret (results_tmp3 rfl _ _ _) rfl ⟨rfl, rfl⟩
  · rw [show (us 13).1 = true from rfl, show (us 13).2.1 = false from rfl, show (us 13).2.2 = false from rfl]
    go_enter Try.func28, Try.ntmps28
    go_wp2
    refine bodyPost_ret (results_tmp3 rfl _ _ _) rfl ⟨rfl, rfl⟩
  · rw [show (us 14).1 = true from rfl, show (us 14).2.1 = false from rfl, show (us 14).2.2 = false from rfl]
    go_enter Try.func28, Try.ntmps28
    go_wp2
    refine bodyPost_ret (results_tmp3 rfl _ _ _) rfl ⟨rfl, rfl⟩
  · rw [show (us 16).1 = true from rfl, show (us 16).2.1 = true from rfl, show (us 16).2.2 = true from rfl]
    go_enter Try.func28, Try.ntmps28
    go_wp2
    refine bodyPost_ret (results_tmp3 rfl _ _ _) rfl ⟨rfl, rfl⟩
  · rw [show (us 17).1 = true from rfl, show (us 17).2.1 = true from rfl, show (us 17).2.2 = false from rfl]
    go_enter Try.func28, Try.ntmps28
    go_wp2
    refine bodyPost_ret (results_tmp3 rfl _ _ _) rfl ⟨rfl, rfl⟩
  · rw [show (us 18).1 = false from rfl, show (us 18).2.1 = true from rfl, show (us 18).2.2 = true from rfl]
    go_enter Try.func28, Try.ntmps28
    go_wp2
    refine bodyPost_ret (results_tmp3 rfl _ _ _) rfl ⟨rfl, rfl⟩
  · rw [show (us 19).1 = false from rfl, show (us 19).2.1 = true from rfl, show (us 19).2.2 = false from rfl]
    go_enter Try.func28, Try.ntmps28
    go_wp2
    refine bodyPost_ret (results_tmp3 rfl _ _ _) rfl ⟨rfl, rfl⟩
  · rw [show (us 20).1 = false from rfl, show (us 20).2.1 = true from rfl, show (us 20).2.2 = true from rfl]
    go_enter Try.func28, Try.ntmps28
    go_wp2
    refine bodyPost_ret (results_tmp3 rfl _ _ _) rfl ⟨rfl, rfl⟩
  · rw [show (us 21).1 = false from rfl, show (us 21).2.1 = true from rfl, show (us 21).2.2 = false from rfl]
    go_enter Try.func28, Try.ntmps28
    go_wp2
    refine bodyPost_ret (results_tmp3 rfl _ _ _) rfl ⟨rfl, rfl⟩
  · rw [show (us 22).1 = false from rfl, show (us 22).2.1 = true from rfl, show (us 22).2.2 = false from rfl]
    go_enter Try.func28, Try.ntmps28
    go_wp2
    refine bodyPost_ret (results_tmp3 rfl _ _ _) rfl ⟨rfl, rfl⟩
  · rw [show (us 23).1 = false from rfl, show (us 23).2.1 = true from rfl, show (us 23).2.2 = false from rfl]
    go_enter Try.func28, Try.ntmps28
    go_wp2
    refine bodyPost_ret (results_tmp3 rfl _ _ _) rfl ⟨rfl, rfl⟩
  · rw [show (us 24).1 = true from rfl, show (us 24).2.1 = false from rfl, show (us 24).2.2 = false from rfl]
    go_enter Try.func28, Try.ntmps28
    go_wp2
    refine bodyPost_ret (results_tmp3 rfl _ _ _) rfl ⟨rfl, rfl⟩
  · rw [show (us 25).1 = true from rfl, show (us 25).2.1 = false from rfl, show (us 25).2.2 = true from rfl]
    go_enter Try.func28, Try.ntmps28
    go_wp2
    refine bodyPost_ret (results_tmp3 rfl _ _ _) rfl ⟨rfl, rfl⟩
  · rw [show (us 26).1 = true from rfl, show (us 26).2.1 = false from rfl, show (us 26).2.2 = false from rfl]
    go_enter Try.func28, Try.ntmps28
    go_wp2
    refine bodyPost_ret (results_tmp3 rfl _ _ _) rfl ⟨rfl, rfl⟩
  · rw [show (us 31).1 = true from rfl, show (us 31).2.1 = false from rfl, show (us 31).2.2 = false from rfl]
    go_enter Try.func28, Try.ntmps28
    go_wp2
    refine bodyPost_ret (results_tmp3 rfl _ _ _) rfl ⟨rfl, rfl⟩
  · rw [show (us 32).1 = true from rfl, show (us 32).2.1 = false from rfl, show (us 32).2.2 = false from rfl]
    go_enter Try.func28, Try.ntmps28
    go_wp2
    refine bodyPost_ret (results_tmp3 rfl _ _ _) rfl ⟨rfl, rfl⟩
  · rw [show (us 33).1 = true from rfl, show (us 33).2.1 = false from rfl, show (us 33).2.2 = false from rfl]
    go_enter Try.func28, Try.ntmps28
    go_wp2
    refine bodyPost_ret (results_tmp3 rfl _ _ _) rfl ⟨rfl, rfl⟩
  · rw [show (us 34).1 = true from rfl, show (us 34).2.1 = false from rfl, show (us 34).2.2 = false from rfl]
    go_enter Try.func28, Try.ntmps28
    go_wp2
    refine bodyPost_ret (results_tmp3 rfl _ _ _) rfl ⟨rfl, rfl⟩
  · have hu : us o = (false, false, false) := by
      unfold us
      rw [if_neg (by omega), if_neg (by omega), if_neg (by omega), if_neg (by omega), if_neg (by omega), if_neg (by omega)]
    rw [hu]
    obtain ⟨n1, n2, n3, n4, n5, n6, n7, n12, n13, n14, n16, n17, n18, n19, n20, n21, n22, n23, n24, n25, n26, n31, n32, n33, n34⟩ := h
    have m1 : (o == 1) = false := by simpa using n1
    have m2 : (o == 2) = false := by simpa using n2
    have m3 : (o == 3) = false := by simpa using n3
    have m4 : (o == 4) = false := by simpa using n4
    have m5 : (o == 5) = false := by simpa using n5
    have m6 : (o == 6) = false := by simpa using n6
    have m7 : (o == 7) = false := by simpa using n7
    have m12 : (o == 12) = false := by simpa using n12
    have m13 : (o == 13) = false := by simpa using n13
    have m14 : (o == 14) = false := by simpa using n14
    have m16 : (o == 16) = false := by simpa using n16
    have m17 : (o == 17) = false := by simpa using n17
    have m18 : (o == 18) = false := by simpa using n18
    have m19 : (o == 19) = false := by simpa using n19
    have m20 : (o == 20) = false := by simpa using n20
    have m21 : (o == 21) = false := by simpa using n21
    have m22 : (o == 22) = false := by simpa using n22
    have m23 : (o == 23) = false := by simpa using n23
    have m24 : (o == 24) = false := by simpa using n24
    have m25 : (o == 25) = false := by simpa using n25
    have m26 : (o == 26) = false := by simpa using n26
    have m31 : (o == 31) = false := by simpa using n31
    have m32 : (o == 32) = false := by simpa using n32
    have m33 : (o == 33) = false := by simpa using n33
    have m34 : (o == 34) = false := by simpa using n34
    go_enter Try.func28, Try.ntmps28
    go_wp2
    refine bodyPost_ret (results_tmp3 rfl _ _ _) rfl ⟨rfl, rfl⟩
end Go.Proofs.Ytnclpdgbjefpmaa.L
