import Derived.Test.YtiddnjjaidiohaaGreatDoorMgAE
namespace Go.Proofs.YtiddnjjaidiohaaGreatDoor.L
open Go.RowKit
set_option linter.unusedVariables false
theorem cell_nq {W W6 : World} {n : Nat} {a : Addr} {v : Option Value} (h : W.cell? a = v) (e : W6 = W.drewN n) : W6.cell? a = v := by rw [e]; exact h
/-- What the document asks of a part with these parts free ahead of it. -/
def PartD (T : List Pt) (p : Pt) (fr : List Int) : Prop := p.kids.length ≤ fr.length ∧ p.kids = fr.drop (fr.length - p.kids.length) ∧ tabD T p
theorem getD_mem {l : List Int} {k : Nat} (h : k < l.length) : l.getD k 0 ∈ l := by
  rw [List.getD_eq_getElem?_getD, List.getElem?_eq_getElem h]
  exact List.getElem_mem h
theorem drop_getD (l : List Int) (h k : Nat) : (l.drop h).getD k 0 = l.getD (h + k) 0 := by
  rw [List.getD_eq_getElem?_getD, List.getD_eq_getElem?_getD, List.getElem?_drop]
theorem eq_of_getD {A B : List Int} (hl : A.length = B.length) (h : ∀ j, j < A.length → A.getD j 0 = B.getD j 0) : A = B := by
  refine List.ext_getElem hl fun j h1 h2 => ?_
  have := h j h1
  rw [List.getD_eq_getElem?_getD, List.getD_eq_getElem?_getD, List.getElem?_eq_getElem h1, List.getElem?_eq_getElem h2] at this
  exact this
set_option maxHeartbeats 16000000 in
set_option maxRecDepth 100000 in
theorem rpart_any (a : Option Addr) (T : List Pt) (cap i : Nat) (fa : Option Addr) (fr : List Int) (fc : Nat) (w : World) (hT : PL w a T) (hi : i < T.length) (hL : T.length ≤ 1000) (hG : GdT T) (hF : RdI w fa fr) (hfl : fr.length ≤ 1000) (hfm : ∀ x, x ∈ fr → 0 ≤ x ∧ x < T.length) :
    Calls Tryz.prog 50 #[.agg #[.slice a T.length cap], .int .i64 (i : Int), .slice fa fr.length fc] w fun e w' => ∃ b, e = .returned (.bool b) ∧ (b = true ↔ PartD T (pt T i) fr) ∧ Below w.heap.size w w' := by
  obtain ⟨L, hLe⟩ : ∃ L, L = T.length := ⟨_, rfl⟩
  obtain ⟨m, hm⟩ : ∃ m, m = fr.length := ⟨_, rfl⟩
  have HT := hid hT
  have HG := hid hG
  have HF := hid hF
  have HFM := hid hfm
  have HL := hid hLe
  have HM := hid hm
  have HKI := hid rkids_any
  have HHO := hid rholds_any
  have HCL := hid rclass_any
  have hT2 := hT
  rw [← hLe] at hL hi ⊢
  rw [← hm] at hfl ⊢
  rcases hT2 with h0 | ⟨b2, o2, rfl, hb2, hc2⟩
  · have := HL.out; omega
  have hgk := HG.out.2 i (by rw [← HL.out]; exact hi)
  obtain ⟨ka, kc, q0, q1, q2, q3, rk⟩ := hc2 i (by rw [← HL.out]; exact hi)
  obtain ⟨p, hp⟩ : ∃ p, p = pt T i := ⟨_, rfl⟩
  rw [← hp] at q0 q1 q2 q3 rk hgk ⊢
  have HPT := hid hp
  obtain ⟨kd, tx, nu, ks⟩ := p
  simp only at q0 q1 q2 q3 rk hgk
  obtain ⟨n, hn⟩ : ∃ n, n = ks.length := ⟨_, rfl⟩
  rw [← hn] at q3 hgk
  have HN := hid hn
  have RK := hid rk
  have HHB := hid hb2
  clear hc2 hT hG hF hfm hLe hm hp hn rk
  have g1 : (i : Int) < (L : Int) := by omega
  have g2 : (0 : Int) ≤ (i : Int) := by omega
  have hXa := belowA w (.cells #[.slice (some ⟨b2, o2, none⟩) L cap] 26)
  have hX := hXa.alloc (by simp) (.cells #[.int .i64 kd, .string tx, .int .i64 nu, .slice ka n kc] 60)
  have HXB := hid hX
  have HXP := hid (show ((w.alloc (.cells #[.slice (some ⟨b2, o2, none⟩) L cap] 26)).alloc (.cells #[.int .i64 kd, .string tx, .int .i64 nu, .slice ka n kc] 60)).heap[w.heap.size + 1]? = some (.cells #[.int .i64 kd, .string tx, .int .i64 nu, .slice ka n kc] 60 (0, 0)) by
    have := heap_alloc_new (w.alloc (.cells #[.slice (some ⟨b2, o2, none⟩) L cap] 26)) (.cells #[.int .i64 kd, .string tx, .int .i64 nu, .slice ka n kc] 60)
    rwa [World.size_alloc] at this)
  have HXT := hid (show Boxed ((w.alloc (.cells #[.slice (some ⟨b2, o2, none⟩) L cap] 26)).alloc (.cells #[.int .i64 kd, .string tx, .int .i64 nu, .slice ka n kc] 60)) w.heap.size 26 (.slice (some ⟨b2, o2, none⟩) L cap) from (Boxed.new w _ _).alloc _)
  have HXS := hid (show ((w.alloc (.cells #[.slice (some ⟨b2, o2, none⟩) L cap] 26)).alloc (.cells #[.int .i64 kd, .string tx, .int .i64 nu, .slice ka n kc] 60)).heap.size = w.heap.size + 1 + 1 by simp)
  clear hXa hX
  have hne : w.heap.size ≠ b2 := by omega
  go_enter Tryz.func50, Tryz.ntmps50
  go_upto_region 2 with (fail)
  have RK2 := hid (RK.out.low HXB.out (Nat.le_refl _))
  have HF2 := hid (HF.out.low HXB.out (Nat.le_refl _))
  have HT2 := hid (HT.out.low HXB.out)
  clear q0 q1 q2 q3 hb2 hne
  generalize (w.alloc (.cells #[.slice (some ⟨b2, o2, none⟩) L cap] 26)).alloc (.cells #[.int .i64 kd, .string tx, .int .i64 nu, .slice ka n kc] 60) = X at *
  generalize hbp : w.heap.size + 1 = bp at *
  have HBP := hid hbp
  clear hbp
  have ⟨x0, x1, x2, x3⟩ := cells4 HXP.out
  have xt := HXT.out.cell
  cases c1 : kidsB kd n
  · have HC1 := hid c1
    go_wp2_with (go_at_call 71; refine (HKI.out _ _ _).mono ?_; rintro e w1 ⟨rfl, hww⟩; have hw2 := hww.symm; clear hww; subst hw2)
    go_ret
    refine ⟨false, rfl, ⟨(fun h => by cases h), fun h => ?_⟩, HXB.out⟩
    have h2 := h.2.2.1
    simp only at h2
    rw [← HN.out, HC1.out] at h2
    cases h2
  · by_cases c2 : kd < 1
    · have d2 : decide (kd < 1) = true := by simp; omega
      go_wp2_with (go_at_call 71; refine (HKI.out _ _ _).mono ?_; rintro e w1 ⟨rfl, hww⟩; have hw2 := hww.symm; clear hww; subst hw2)
      go_ret
      refine ⟨false, rfl, ⟨(fun h => by cases h), fun h => ?_⟩, HXB.out⟩
      have h2 := h.2.2.2.1
      simp only at h2
      omega
    · have d2 : decide (kd < 1) = false := by simp; omega
      by_cases c3 : 20 < kd
      · have d3 : decide (20 < kd) = true := by simp; omega
        go_wp2_with (go_at_call 71; refine (HKI.out _ _ _).mono ?_; rintro e w1 ⟨rfl, hww⟩; have hw2 := hww.symm; clear hww; subst hw2)
        go_ret
        refine ⟨false, rfl, ⟨(fun h => by cases h), fun h => ?_⟩, HXB.out⟩
        have h2 := h.2.2.2.2.1
        simp only at h2
        omega
      · have d3 : decide (20 < kd) = false := by simp; omega
        by_cases c4 : m < n
        · have d4 : decide ((m : Int) < (n : Int)) = true := by simp; omega
          go_wp2_with (go_at_call 71; refine (HKI.out _ _ _).mono ?_; rintro e w1 ⟨rfl, hww⟩; have hw2 := hww.symm; clear hww; subst hw2)
          go_ret
          refine ⟨false, rfl, ⟨(fun h => by cases h), fun h => ?_⟩, HXB.out⟩
          have h2 := h.1
          simp only at h2
          rw [← HN.out, ← HM.out] at h2
          omega
        · have d4 : decide ((m : Int) < (n : Int)) = false := by simp; omega
          have HC1 := hid c1
          cases c5 : holdsB kd tx nu
          · have HC5 := hid c5
            go_wp2_with (first | (go_at_call 71; refine (HKI.out _ _ _).mono ?_; rintro e w1 ⟨rfl, hww⟩; have hw2 := hww.symm; clear hww; subst hw2) | (go_at_call 72; refine (HHO.out _ _ _ _ _ _ _).mono ?_; rintro e w2 ⟨rfl, l2⟩; have L2 := hid l2; clear l2))
            go_ret
            refine ⟨false, rfl, ⟨(fun h => by cases h), fun h => ?_⟩, HXB.out.trans (L2.out.mono HXB.out.size)⟩
            have h2 := h.2.2.2.2.2.1
            simp only at h2
            rw [HC5.out] at h2
            cases h2
          · obtain ⟨h0, hh⟩ : ∃ h0, m = h0 + n := ⟨m - n, by omega⟩
            have hmn : (m : Int) - (n : Int) = (h0 : Int) := by omega
            have HC5 := hid c5
            go_upto_region 9 with (first | (go_at_call 71; refine (HKI.out _ _ _).mono ?_; rintro e w1 ⟨rfl, hww⟩; have hw2 := hww.symm; clear hww; subst hw2) | (go_at_call 72; refine (HHO.out _ _ _ _ _ _ _).mono ?_; rintro e w2 ⟨rfl, l2⟩; have L2 := hid l2; clear l2))
            have HX2 := hid ((L2.out.block _ (lt_blk HXP.out)).trans HXP.out)
            have HT3 := hid (show Boxed w2 w.heap.size 26 (.slice (some ⟨b2, o2, none⟩) L cap) from (L2.out.block _ HXT.out.lt).trans HXT.out)
            clear x0 x1 x2 x3 xt
            have ⟨x0, x1, x2, x3⟩ := cells4 HX2.out
            go_wp2_with fail
            have B2 := hid (HXB.out.trans (L2.out.mono HXB.out.size))
            have RK3 := hid (RK2.out.low L2.out (Nat.le_refl _))
            have HF3 := hid (HF2.out.low L2.out (Nat.le_refl _))
            have HT4 := hid (HT2.out.low L2.out)
            have HH := hid hh
            clear x0 x1 x2 x3 RK2 HF2 HT2 L2 hh c1 c5 d2 d3 d4
            go_loopw [11] (fun i wr => ∃ k : Nat, k ≤ n ∧ i = .int .i64 k ∧ Hid (Below w2.heap.size w2 wr) ∧ Hid (∀ j, j < k → ks.getD j 0 = fr.getD (h0 + j) 0 ∧ clsB kd (pt T (ks.getD j 0).toNat).kind = true)) (fun i _ => n - (intOf i).toNat)
            case atStart => exact ⟨0, Nat.zero_le _, rfl, hid (Below.refl _ _), hid (fun j hj => by omega)⟩
            case round =>
              obtain ⟨k, hk, rfl, HB, HE⟩ := hrel
              have hx := (HB.out.block _ (lt_blk HX2.out)).trans HX2.out
              have ⟨x0, x1, x2, x3⟩ := cells4 hx
              have xt := (show Boxed wr w.heap.size 26 (.slice (some ⟨b2, o2, none⟩) L cap) from (HB.out.block _ HT3.out.lt).trans HT3.out).cell
              by_cases hlt : k < n
              · have r1 := RK3.out.low HB.out (Nat.le_refl _)
                have r2 := HF3.out.low HB.out (Nat.le_refl _)
                have r3 := HT4.out.low HB.out
                rcases r1 with hz0 | ⟨b1, o1, rfl, hb1, hc1⟩
                · have := HN.out; omega
                rcases r2 with hz0 | ⟨b3, o3, rfl, hb3, hc3⟩
                · have := HM.out; omega
                have p0 := hc1 k (by rw [← HN.out]; exact hlt)
                have f0 := hc3 (h0 + k) (by rw [← HM.out]; have := HH.out; omega)
                obtain ⟨q, hq⟩ : ∃ q, q = h0 + k := ⟨_, rfl⟩
                rw [← hq] at f0
                have hqi : (h0 : Int) + (k : Int) = (q : Int) := by omega
                obtain ⟨x, hxe⟩ : ∃ x, x = ks.getD k 0 := ⟨_, rfl⟩
                obtain ⟨y, hye⟩ : ∃ y, y = fr.getD q 0 := ⟨_, rfl⟩
                rw [← hxe] at p0
                rw [← hye] at f0
                have hmy := HFM.out y (by rw [hye]; exact getD_mem (by rw [← HM.out]; have := HH.out; omega))
                rw [hq] at hye
                have HXE := hid hxe
                have HYE := hid hye
                clear hc1 hc3 hxe hye
                have g3 : (k : Int) < (n : Int) := by omega
                have g4 : (0 : Int) ≤ (k : Int) := by omega
                have g5 : (q : Int) < (m : Int) := by have := HH.out; omega
                have g6 : (0 : Int) ≤ (q : Int) := by omega
                clear hq
                by_cases exy : x = y
                · subst exy
                  obtain ⟨z, hz⟩ : ∃ z : Nat, x = z := ⟨x.toNat, by omega⟩
                  subst hz
                  have g7 : (z : Int) < (L : Int) := by have := HL.out; omega
                  have g8 : (0 : Int) ≤ (z : Int) := by omega
                  rcases r3 with hz0 | ⟨b4, o4, e4, hb4, hc4⟩
                  · have := HL.out; omega
                  cases e4
                  obtain ⟨_, _, k0, _⟩ := hc4 z (by rw [← HL.out]; omega)
                  obtain ⟨kk, hkk⟩ : ∃ kk, kk = (pt T z).kind := ⟨_, rfl⟩
                  rw [← hkk] at k0
                  have HKK := hid hkk
                  clear hc4 hkk
                  have e1 : ((z : Int) != (z : Int)) = false := by simp
                  go_wp2_with fail
                  go_quiet (fail)
                  obtain ⟨W6, hW6⟩ : ∃ W6, W6 = wr.drewN nq := ⟨_, rfl⟩
                  have HB6 := hid (show Below w2.heap.size w2 W6 by rw [hW6]; exact below_drewN HB.out nq)
                  replace p0 := cell_nq p0 hW6
                  replace x3 := cell_nq x3 hW6
                  replace xt := cell_nq xt hW6
                  replace k0 := cell_nq k0 hW6
                  rw [← hW6]
                  clear hW6 x0 x1 x2 f0 hx
                  go_wp2_with fail
                  go_quiet ((go_at_call 73; exact Calls.quiet_of_same (HCL.out _ _ _)))
                  cases c6 : clsB kd kk
                  · have HC6 := hid c6
                    go_wp2_with fail
                    go_ret
                    refine ⟨false, rfl, ⟨(fun h => by cases h), fun h => ?_⟩, B2.out.trans ((below_drewN HB6.out _).mono B2.out.size)⟩
                    have h2 := h.2.2.2.2.2.2 (z : Int) (by simp only; rw [HXE.out]; exact getD_mem (by rw [← HN.out]; exact hlt))
                    simp only [Int.toNat_natCast] at h2
                    rw [← HKK.out, HC6.out] at h2
                    cases h2
                  · have HC6 := hid c6
                    go_wp2_with fail
                    refine ⟨⟨k + 1, by omega, by go_num, hid (below_drewN HB6.out _), hid (fun j hj => ?_)⟩, by simp [intOf]; omega⟩
                    by_cases e : j = k
                    · rw [e]
                      refine ⟨HXE.out.symm.trans HYE.out, ?_⟩
                      rw [← HXE.out, Int.toNat_natCast, ← HKK.out]
                      exact HC6.out
                    · exact HE.out j (by omega)
                · have e1 : (x != y) = true := by simp [exy]
                  go_wp2_with fail
                  go_quiet (fail)
                  go_wp2_with fail
                  go_ret
                  refine ⟨false, rfl, ⟨(fun h => by cases h), fun h => ?_⟩, B2.out.trans ((below_drewN HB.out nq).mono B2.out.size)⟩
                  have h2 := h.2.1
                  simp only at h2
                  rw [← HN.out, ← HM.out, show m - n = h0 by have := HH.out; omega] at h2
                  refine absurd ?_ exy
                  rw [HXE.out, HYE.out, ← drop_getD, ← h2]
              · obtain rfl : k = n := by omega
                go_wp2_with fail
                go_ret
                refine ⟨true, rfl, ⟨fun _ => ?_, fun _ => rfl⟩, B2.out.trans (HB.out.mono B2.out.size)⟩
                refine ⟨?_, ?_, ?_, ?_, ?_, ?_, fun y hy => ?_⟩
                · simp only; rw [← HN.out, ← HM.out]; omega
                · simp only
                  rw [← HN.out, ← HM.out, show m - k = h0 by have := HH.out; omega]
                  refine eq_of_getD ?_ (fun j hj => ?_)
                  · rw [List.length_drop, ← HN.out, ← HM.out]; have := HH.out; omega
                  · rw [drop_getD]
                    exact (HE.out j (by rw [HN.out]; exact hj)).1
                · simp only; rw [← HN.out]; exact HC1.out
                · simp only; omega
                · simp only; omega
                · exact HC5.out
                · simp only at hy ⊢
                  obtain ⟨j, hj, e⟩ := List.getElem_of_mem hy
                  have h3 := (HE.out j (by rw [HN.out]; exact hj)).2
                  rw [List.getD_eq_getElem?_getD, List.getElem?_eq_getElem hj] at h3
                  simp only [Option.getD_some, e] at h3
                  exact h3
end Go.Proofs.YtiddnjjaidiohaaGreatDoor.L
