import Derived.Test.YtiddnjjaidiohaaGreatDoorMgAE
import Derived.WideShapes
namespace Go.Proofs.YtiddnjjaidiohaaGreatDoor.L
open Go.RowKit
set_option linter.unusedVariables false
theorem cell_nq {W W6 : World} {n : Nat} {a : Addr} {v : Option Value} (h : W.cell? a = v) (e : W6 = W.drewN n) : W6.cell? a = v := by rw [e]; exact h
/-- What the document asks of a part with these parts free ahead of it. -/
def PartD (T : List Pt) (p : Pt) (fr : List Int) : Prop := p.kids.length ≤ fr.length ∧ p.kids = fr.drop (fr.length - p.kids.length) ∧ tabD T p
theorem getD_mem {l : List Int} {k : Nat} (h : k < l.length) : l.getD k 0 ∈ l := by
  rw [List.getD_eq_getElem?_getD, List.getElem?_eq_getElem h]
  exact List.getElem_mem h
theorem drop_getD (l : List Int) (h k : Nat) : (l.drop h).getD k 0 = l.getD (h + k) 0 := by
  rw [List.getD_eq_getElem?_getD, List.getD_eq_getElem?_getD, List.getElem?_drop]
theorem eq_of_getD {A B : List Int} (hl : A.length = B.length) (h : ∀ j, j < A.length → A.getD j 0 = B.getD j 0) : A = B := by
  refine List.ext_getElem hl fun j h1 h2 => ?_
  have := h j h1
  rw [List.getD_eq_getElem?_getD, List.getD_eq_getElem?_getD, List.getElem?_eq_getElem h1, List.getElem?_eq_getElem h2] at this
  exact this
set_option maxHeartbeats 16000000 in
set_option maxRecDepth 100000 in
theorem rpart_any (a : Option Addr) (T : List Pt) (cap i : Nat) (fa : Option Addr) (fr : List Int) (fc : Nat) (w : World) (hT : PL w a T) (hi : i < T.length) (hL : T.length ≤ 1000) (hG : GdT T) (hF : RdI w fa fr) (hfl : fr.length ≤ 1000) (hfm : ∀ x, x ∈ fr → 0 ≤ x ∧ x < T.length) :
    Calls Tryz.prog 50 #[.agg #[.slice a T.length cap], .int .i64 (i : Int), .slice fa fr.length fc] w fun e w' => ∃ b, e = .returned (.bool b) ∧ (b = true ↔ PartD T (pt T i) fr) ∧ Below w.heap.size w w' := by
  obtain ⟨L, hLe⟩ : ∃ L, L = T.length := ⟨_, rfl⟩
  obtain ⟨m, hm⟩ : ∃ m, m = fr.length := ⟨_, rfl⟩
  have HT := hid hT
  have HG := hid hG
  have HF := hid hF
  have HFM := hid hfm
  have HL := hid hLe
  have HM := hid hm
  have HKI := hid rkids_any
  have HHO := hid rholds_any
  have HCL := hid rclass_any
  have hT2 := hT
  rw [← hLe] at hL hi ⊢
  rw [← hm] at hfl ⊢
  rcases hT2 with h0 | ⟨b2, o2, rfl, hb2, hc2⟩
  · have := HL.out; omega
  have hgk := HG.out.2 i (by rw [← HL.out]; exact hi)
  obtain ⟨ka, kc, q0, q1, q2, q3, rk⟩ := hc2 i (by rw [← HL.out]; exact hi)
  obtain ⟨p, hp⟩ : ∃ p, p = pt T i := ⟨_, rfl⟩
  rw [← hp] at q0 q1 q2 q3 rk hgk ⊢
  have HPT := hid hp
  obtain ⟨kd, tx, nu, ks⟩ := p
  simp only at q0 q1 q2 q3 rk hgk
  obtain ⟨n, hn⟩ : ∃ n, n = ks.length := ⟨_, rfl⟩
  rw [← hn] at q3 hgk
  have HN := hid hn
  have RK := hid rk
  have HHB := hid hb2
  clear hc2 hT hG hF hfm hLe hm hp hn rk
  have g1 : (i : Int) < (L : Int) := by omega
  have g2 : (0 : Int) ≤ (i : Int) := by omega
  have hXa := belowA w (.cells #[.slice (some ⟨b2, o2, none⟩) L cap] 26)
  have hX := hXa.alloc (by simp) (.cells #[.int .i64 kd, .string tx, .int .i64 nu, .slice ka n kc] 60)
  have HXB := hid hX
  have HXP := hid (show ((w.alloc (.cells #[.slice (some ⟨b2, o2, none⟩) L cap] 26)).alloc (.cells #[.int .i64 kd, .string tx, .int .i64 nu, .slice ka n kc] 60)).heap[w.heap.size + 1]? = some (.cells #[.int .i64 kd, .string tx, .int .i64 nu, .slice ka n kc] 60 (0, 0)) by
    have := heap_alloc_new (w.alloc (.cells #[.slice (some ⟨b2, o2, none⟩) L cap] 26)) (.cells #[.int .i64 kd, .string tx, .int .i64 nu, .slice ka n kc] 60)
    rwa [World.size_alloc] at this)
  have HXT := hid (show Boxed ((w.alloc (.cells #[.slice (some ⟨b2, o2, none⟩) L cap] 26)).alloc (.cells #[.int .i64 kd, .string tx, .int .i64 nu, .slice ka n kc] 60)) w.heap.size 26 (.slice (some ⟨b2, o2, none⟩) L cap) from (Boxed.new w _ _).alloc _)
  have HXS := hid (show ((w.alloc (.cells #[.slice (some ⟨b2, o2, none⟩) L cap] 26)).alloc (.cells #[.int .i64 kd, .string tx, .int .i64 nu, .slice ka n kc] 60)).heap.size = w.heap.size + 1 + 1 by simp)
  clear hXa hX
  have hne : w.heap.size ≠ b2 := by omega
  go_enter Tryz.func50, Tryz.ntmps50
  go_upto_region 2 with (fail)
  have RK2 := hid (RK.out.low HXB.out (Nat.le_refl _))
  have HF2 := hid (HF.out.low HXB.out (Nat.le_refl _))
  have HT2 := hid (HT.out.low HXB.out)
  clear q0 q1 q2 q3 hb2 hne
  generalize (w.alloc (.cells #[.slice (some ⟨b2, o2, none⟩) L cap] 26)).alloc (.cells #[.int .i64 kd, .string tx, .int .i64 nu, .slice ka n kc] 60) = X at *
  generalize hbp : w.heap.size + 1 = bp at *
  have HBP := hid hbp
  clear hbp
  have ⟨x0, x1, x2, x3⟩ := cells4 HXP.out
  have xt := HXT.out.cell
  cases c1 : kidsB kd n
  · have HC1 := hid c1
    go_wp2_with (go_at_call 71; refine (HKI.out _ _ _).mono ?_; rintro e w1 ⟨rfl, hww⟩; have hw2 := hww.symm; clear hww; subst hw2)
    go_ret
    refine ⟨false, rfl, ⟨(fun h => by cases h), fun h => ?_⟩, HXB.out⟩
    have h2 := h.2.2.1
    simp only at h2
    rw [← HN.out, HC1.out] at h2
    cases h2
  · by_cases c2 : kd < 1
    · have d2 : decide (kd < 1) = true := by simp; omega
      go_wp2_with (go_at_call 71; refine (HKI.out _ _ _).mono ?_; rintro e w1 ⟨rfl, hww⟩; have hw2 := hww.symm; clear hww; subst hw2)
      go_ret
      refine ⟨false, rfl, ⟨(fun h => by cases h), fun h => ?_⟩, HXB.out⟩
      have h2 := h.2.2.2.1
      simp only at h2
      omega
    · have d2 : decide (kd < 1) = false := by simp; omega
      by_cases c3 : 20 < kd
      · have d3 : decide (20 < kd) = true := by simp; omega
        go_wp2_with (go_at_call 71; refine (HKI.out _ _ _).mono ?_; rintro e w1 ⟨rfl, hww⟩; have hw2 := hww.symm; clear hww; subst hw2)
        go_ret
        refine ⟨false, rfl, ⟨(fun h => by cases h), fun h => ?_⟩, HXB.out⟩
        have h2 := h.2.2.2.2.1
        simp only at h2
        omega
      · have d3 : decide (20 < kd) = false := by simp; omega
        by_cases c4 : m < n
        · have d4 : decide ((m : Int) < (n : Int)) = true := by simp; omega
          go_wp2_with (go_at_call 71; refine (HKI.out _ _ _).mono ?_; rintro e w1 ⟨rfl, hww⟩; have hw2 := hww.symm; clear hww; subst hw2)
          go_ret
          refine ⟨false, rfl, ⟨(fun h => by cases h), fun h => ?_⟩, HXB.out⟩
          have h2 := h.1
          simp only at h2
          rw [← HN.out, ← HM.out] at h2
          omega
        · have d4 : decide ((m : Int) < (n : Int)) = false := by simp; omega
          have HC1 := hid c1
          cases c5 : holdsB kd tx nu
          · have HC5 := hid c5
            go_wp2_with (first | (go_at_call 71; refine (HKI.out _ _ _).mono ?_; rintro e w1 ⟨rfl, hww⟩; have hw2 := hww.symm; clear hww; subst hw2) | (go_at_call 72; refine (HHO.out _ _ _ _ _ _ _).mono ?_; rintro e w2 ⟨rfl, l2⟩; have L2 := hid l2; clear l2))
            go_ret
            refine ⟨false, rfl, ⟨(fun h => by cases h), fun h => ?_⟩, HXB.out.trans (L2.out.mono HXB.out.size)⟩
            have h2 := h.2.2.2.2.2.1
            simp only at h2
            rw [HC5.out] at h2
            cases h2
          · obtain ⟨h0, hh⟩ : ∃ h0, m = h0 + n := ⟨m - n, by omega⟩
            have hmn : (m : Int) - (n : Int) = (h0 : Int) := by omega
            have HC5 := hid c5
            go_upto_region 9 with (first | (go_at_call 71; refine (HKI.out _ _ _).mono ?_; rintro e w1 ⟨rfl, hww⟩; have hw2 := hww.symm; clear hww; subst hw2) | (go_at_call 72; refine (HHO.out _ _ _ _ _ _ _).mono ?_; rintro e w2 ⟨rfl, l2⟩; have L2 := hid l2; clear l2))
            have HX2 := hid ((L2.out.block _ (lt_blk HXP.out)).trans HXP.out)
            have HT3 := hid (show Boxed w2 w.heap.size 26 (.slice (some ⟨b2, o2, none⟩) L cap) from (L2.out.block _ HXT.out.lt).trans HXT.out)
            clear x0 x1 x2 x3 xt
            have ⟨x0, x1, x2, x3⟩ := cells4 HX2.out
            go_wp2_with fail
            have B2 := hid (HXB.out.trans (L2.out.mono HXB.out.size))
            have RK3 := hid (RK2.out.low L2.out (Nat.le_refl _))
            have HF3 := hid (HF2.out.low L2.out (Nat.le_refl _))
            have HT4 := hid (HT2.out.low L2.out)
            have HH := hid hh
            clear x0 x1 x2 x3 RK2 HF2 HT2 L2 hh c1 c5 d2 d3 d4
            go_loopw [11] (fun i wr => ∃ k : Nat, k ≤ n ∧ i = .int .i64 k ∧ Hid (Below w2.heap.size w2 wr) ∧ Hid (∀ j, j < k → ks.getD j 0 = fr.getD (h0 + j) 0 ∧ clsB kd (pt T (ks.getD j 0).toNat).kind = true)) (fun i _ => n - (intOf i).toNat)
            case atStart => exact ⟨0, Nat.zero_le _, rfl, hid (Below.refl _ _), hid (fun j hj => by omega)⟩
            case round =>
              obtain ⟨k, hk, rfl, HB, HE⟩ := hrel
              have hx := (HB.out.block _ (lt_blk HX2.out)).trans HX2.out
              have ⟨x0, x1, x2, x3⟩ := cells4 hx
              have xt := (show Boxed wr w.heap.size 26 (.slice (some ⟨b2, o2, none⟩) L cap) from (HB.out.block _ HT3.out.lt).trans HT3.out).cell
              by_cases hlt : k < n
              · have r1 := RK3.out.low HB.out (Nat.le_refl _)
                have r2 := HF3.out.low HB.out (Nat.le_refl _)
                have r3 := HT4.out.low HB.out
                rcases r1 with hz0 | ⟨b1, o1, rfl, hb1, hc1⟩
                · have := HN.out; omega
                rcases r2 with hz0 | ⟨b3, o3, rfl, hb3, hc3⟩
                · have := HM.out; omega
                have p0 := hc1 k (by rw [← HN.out]; exact hlt)
                have f0 := hc3 (h0 + k) (by rw [← HM.out]; have := HH.out; omega)
                obtain ⟨q, hq⟩ : ∃ q, q = h0 + k := ⟨_, rfl⟩
                rw [← hq] at f0
                have hqi : (h0 : Int) + (k : Int) = (q : Int) := by omega
                obtain ⟨x, hxe⟩ : ∃ x, x = ks.getD k 0 := ⟨_, rfl⟩
                obtain ⟨y, hye⟩ : ∃ y, y = fr.getD q 0 := ⟨_, rfl⟩
                rw [← hxe] at p0
                rw [← hye] at f0
                have hmy := HFM.out y (by rw [hye]; exact getD_mem (by rw [← HM.out]; have := HH.out; omega))
                rw [hq] at hye
                have HXE := hid hxe
                have HYE := hid hye
                clear hc1 hc3 hxe hye
                have g3 : (k : Int) < (n : Int) := by omega
                have g4 : (0 : Int) ≤ (k : Int) := by omega
                have g5 : (q : Int) < (m : Int) := by have := HH.out; omega
                have g6 : (0 : Int) ≤ (q : Int) := by omega
                clear hq
                by_cases exy : x = y
                · subst exy
                  obtain ⟨z, hz⟩ : ∃ z : Nat, x = z := ⟨x.toNat, by omega⟩
                  subst hz
                  have g7 : (z : Int) < (L : Int) := by have := HL.out; omega
                  have g8 : (0 : Int) ≤ (z : Int) := by omega
                  rcases r3 with hz0 | ⟨b4, o4, e4, hb4, hc4⟩
                  · have := HL.out; omega
                  cases e4
                  obtain ⟨_, _, k0, _⟩ := hc4 z (by rw [← HL.out]; omega)
                  obtain ⟨kk, hkk⟩ : ∃ kk, kk = (pt T z).kind := ⟨_, rfl⟩
                  rw [← hkk] at k0
                  have HKK := hid hkk
                  clear hc4 hkk
                  have e1 : ((z : Int) != (z : Int)) = false := by simp
                  go_wp2_with fail
                  go_quiet (fail)
                  obtain ⟨W6, hW6⟩ : ∃ W6, W6 = wr.drewN nq := ⟨_, rfl⟩
                  have HB6 := hid (show Below w2.heap.size w2 W6 by rw [hW6]; exact below_drewN HB.out nq)
                  replace p0 := cell_nq p0 hW6
                  replace x3 := cell_nq x3 hW6
                  replace xt := cell_nq xt hW6
                  replace k0 := cell_nq k0 hW6
                  rw [← hW6]
                  clear hW6 x0 x1 x2 f0 hx
                  go_wp2_with fail
                  go_quiet ((go_at_call 73; exact Calls.quiet_of_same (HCL.out _ _ _)))
                  cases c6 : clsB kd kk
                  · have HC6 := hid c6
                    go_wp2_with fail
                    go_ret
                    refine ⟨false, rfl, ⟨(fun h => by cases h), fun h => ?_⟩, B2.out.trans ((below_drewN HB6.out _).mono B2.out.size)⟩
                    have h2 := h.2.2.2.2.2.2 (z : Int) (by simp only; rw [HXE.out]; exact getD_mem (by rw [← HN.out]; exact hlt))
                    simp only [Int.toNat_natCast] at h2
                    rw [← HKK.out, HC6.out] at h2
                    cases h2
                  · have HC6 := hid c6
                    go_wp2_with fail
                    refine ⟨⟨k + 1, by omega, by go_num, hid (below_drewN HB6.out _), hid (fun j hj => ?_)⟩, by simp [intOf]; omega⟩
                    by_cases e : j = k
                    · rw [e]
                      refine ⟨HXE.out.symm.trans HYE.out, ?_⟩
                      rw [← HXE.out, Int.toNat_natCast, ← HKK.out]
                      exact HC6.out
                    · exact HE.out j (by omega)
                · have e1 : (x != y) = true := by simp [exy]
                  go_wp2_with fail
                  go_quiet (fail)
                  go_wp2_with fail
                  go_ret
                  refine ⟨false, rfl, ⟨(fun h => by cases h), fun h => ?_⟩, B2.out.trans ((below_drewN HB.out nq).mono B2.out.size)⟩
                  have h2 := h.2.1
                  simp only at h2
                  rw [← HN.out, ← HM.out, show m - n = h0 by have := HH.out; omega] at h2
                  refine absurd ?_ exy
                  rw [HXE.out, HYE.out, ← drop_getD, ← h2]
              · obtain rfl : k = n := by omega
                go_wp2_with fail
                go_ret
                refine ⟨true, rfl, ⟨fun _ => ?_, fun _ => rfl⟩, B2.out.trans (HB.out.mono B2.out.size)⟩
                refine ⟨?_, ?_, ?_, ?_, ?_, ?_, fun y hy => ?_⟩
                · simp only; rw [← HN.out, ← HM.out]; omega
                · simp only
                  rw [← HN.out, ← HM.out, show m - k = h0 by have := HH.out; omega]
                  refine eq_of_getD ?_ (fun j hj => ?_)
                  · rw [List.length_drop, ← HN.out, ← HM.out]; have := HH.out; omega
                  · rw [drop_getD]
                    exact (HE.out j (by rw [HN.out]; exact hj)).1
                · simp only; rw [← HN.out]; exact HC1.out
                · simp only; omega
                · simp only; omega
                · exact HC5.out
                · simp only at hy ⊢
                  obtain ⟨j, hj, e⟩ := List.getElem_of_mem hy
                  have h3 := (HE.out j (by rw [HN.out]; exact hj)).2
                  rw [List.getD_eq_getElem?_getD, List.getElem?_eq_getElem hj] at h3
                  simp only [Option.getD_some, e] at h3
                  exact h3
end Go.Proofs.YtiddnjjaidiohaaGreatDoor.L
namespace Go.Proofs.YtiddnjjaidiohaaGreatDoor.L
open Go.RowKit
set_option linter.unusedVariables false
theorem append_src {w : World} {ops : Array Oper} {rest : List Oper} {o : Oper} {a : Act} {Q : Exit → Act → World → Prop} (hgd : o.guard = none) (s x : Operand)
    (ho : o.op = .call { callee := .builtin .append, args := #[s, x], argTypes := #[58, 58] })
    (base : Nat) (v : Value) (zs : List Int) (hs : a.eval s = v) (hown : OwnI w base v zs) (xa : Option Addr) (n xc : Nat) (ys : List Int) (hn : n = ys.length) (hx : a.eval x = .slice xa n xc) (hno : xa = none → xc = 0) (hsrc : RdI w xa ys) (hbound : zs.length + ys.length ≤ 17592186044000) (hbase : base ≤ w.heap.size)
    (h : ∀ v'' w', OwnI w' base v'' (zs ++ ys) → w.grownBy w' v.ownBlock → wpList Tryz.prog ops Q rest (a.put o.dst v'') w') : wpList Tryz.prog ops Q (o :: rest) a w := by
  obtain ⟨i0, hi, hz0, hz1, hz2⟩ := info_parts info3
  subst hn
  cases xa with
  | none =>
    have hl : ys.length = 0 := by
      rcases hsrc with h | ⟨b, off, e, _⟩
      · exact h
      · cases e
    have he : ys = [] := List.length_eq_zero_iff.1 hl
    subst he
    rw [hno rfl] at hx
    refine wpList_append_own_none hgd s x 58 ho base 3 i0 1 Tryz.underlying58 hi v _ _ hs hown hx ?_
    exact h v w (by rw [List.append_nil]; exact hown) ⟨rfl, rfl, rfl, Nat.le_refl _, fun _ _ _ => rfl⟩
  | some ad =>
    refine wpList_append_own w hgd s x 58 ho base 3 i0 (.int .i64 0) 1 8 Tryz.underlying58 hi hz0 hz1 hz2 rfl (by decide) v _ _ hs hown ad ys.length xc (ys.map (Value.int .i64)) hx (by simp) ?_ (by intro u hu; simp at hu; obtain ⟨z, _, rfl⟩ := hu; rfl) (by unfold maxLen; omega) (by omega) hbase ?_
    · intro j u hu
      rw [List.getElem?_map] at hu
      by_cases hj : j < ys.length
      · rw [List.getElem?_eq_getElem hj] at hu
        cases hu
        rcases hsrc with h0 | ⟨b, off, e, hb, hc⟩
        · omega
        · cases e
          have := hc j hj
          rw [List.getD_eq_getElem?_getD, List.getElem?_eq_getElem hj] at this
          rw [Go.WideShapes.add_plain]
          exact this
      · rw [List.getElem?_eq_none (by omega)] at hu
        cases hu
    · intro v'' w' ho' hg _
      refine h v'' w' ?_ hg
      unfold OwnI
      rw [List.length_append, List.map_append]
      exact ho'
theorem own_rdI {w : World} {base : Nat} {a : Option Addr} {n cap : Nat} {zs : List Int} (h : OwnI w base (.slice a n cap) zs) : n = zs.length ∧ RdI w a zs ∧ (a = none → cap = 0) := by
  rcases h.2 with ⟨e, n0⟩ | ⟨g, cap', cur, e, hb, hg, h3, h4, h5, h6⟩
  · injection e with e1 e2 e3
    exact ⟨by omega, .inl n0, fun _ => e3⟩
  · obtain ⟨h1, h2⟩ := own_rd h 0 (Nat.zero_le _)
    injection e with e1 e2 e3
    subst e1
    refine ⟨h1, ?_, fun e => by cases e⟩
    rcases h2 with h2 | ⟨g', e', _, _, _, _, r⟩
    · exact .inl h2
    · cases e'
      exact r
theorem own_new0 (w : World) (base : Nat) (hb : base ≤ w.heap.size) : OwnI (w.alloc (.cells #[] 3)) base (.slice (some ⟨w.heap.size, 0, none⟩) 0 0) [] := World.ownsRow_made w #[] 0 hb (Nat.zero_le _) rfl
/-- What form answers. -/
def FrmR (T : List Pt) (c a : Int) : Prop :=
  (T.length = 0 ∧ c = 130 ∧ a = 0) ∨ (1000 < T.length ∧ c = 130 ∧ a = 1000) ∨
  (1 ≤ T.length ∧ T.length ≤ 1000 ∧ ((∃ i : Nat, a = i ∧ Bar T i ∧ c = 130) ∨ (Ok0 T ∧ Lst T ∧ c = 130 ∧ a = ((T.length - 1 : Nat) : Int)) ∨ (Ok0 T ∧ ¬ Lst T ∧ c = 0 ∧ a = 0)))
theorem okD_iff {T : List Pt} {k : Nat} : OkA T k ↔ PartD T (pt T k) (fre T k) := ⟨fun h => ⟨h.many, h.kids, h.tab⟩, fun h => ⟨h.1, h.2.1, h.2.2⟩⟩
set_option maxHeartbeats 16000000 in
set_option maxRecDepth 100000 in
theorem rform_any (a : Option Addr) (T : List Pt) (cap : Nat) (w : World) (hT : PL w a T) (hG : GdT T) :
    Calls Tryz.prog 28 #[.agg #[.slice a T.length cap]] w fun e w' => ∃ c i : Int, e = .returned (.tuple #[.int .i64 c, .int .i64 i]) ∧ FrmR T c i ∧ Below w.heap.size w w' := by
  obtain ⟨i3, hi, hz0, hz1i, hz2⟩ := info_parts info3
  obtain ⟨L, hLe⟩ : ∃ L, L = T.length := ⟨_, rfl⟩
  have HT := hid hT
  have HL := hid hLe
  have HG := hid hG
  have HPA := hid rpart_any
  have HCO := hid rcond_any
  have hLm := hG.1
  rw [← hLe] at hLm ⊢
  have HX0 := hid (Boxed.new w 26 (.slice a L cap))
  have HB0 := hid (belowA w (.cells #[.slice a L cap] 26))
  have HS0 := hid (show (w.alloc (.cells #[.slice a L cap] 26)).heap.size = w.heap.size + 1 by simp)
  clear hT hLe hG
  by_cases h0 : L = 0
  · have e0 : ((L : Int) == 0) = true := by simp [h0]
    have HH := hid h0
    clear h0
    go_enter Tryz.func28, Tryz.ntmps28
    go_wp2_with fail
    (try simp only [Exit.inBlock, Exit.then])
    refine bodyPost_ret (results_tmp2 rfl _ _ _) rfl ⟨130, 0, rfl, .inl ⟨by rw [← HL.out]; exact HH.out, rfl, rfl⟩, HB0.out⟩
  · have e0 : ((L : Int) == 0) = false := by simp; omega
    by_cases h1 : 1000 < L
    · have e1 : decide ((1000 : Int) < (L : Int)) = true := by simp; omega
      go_enter Tryz.func28, Tryz.ntmps28
      go_wp2_with fail
      (try simp only [Exit.inBlock, Exit.then])
      refine bodyPost_ret (results_tmp2 rfl _ _ _) rfl ⟨130, 1000, rfl, .inr (.inl ⟨by rw [← HL.out]; exact h1, rfl, rfl⟩), HB0.out⟩
    · have e1 : decide ((1000 : Int) < (L : Int)) = false := by simp; omega
      go_enter Tryz.func28, Tryz.ntmps28
      go_wp2_with fail
      have HTX := hid (HT.out.low HB0.out)
      generalize hXe : w.alloc (.cells #[.slice a L cap] 26) = X at *
      clear hXe
      go_loopw [4, 5] (fun v i wr => ∃ k : Nat, k ≤ L ∧ i = .int .i64 k ∧ Hid (Below X.heap.size X wr) ∧ Hid (OwnI wr X.heap.size v (fre T k)) ∧ Hid (∀ j, j < k → OkA T j)) (fun _ i _ => L - (intOf i).toNat)
      case atStart => exact ⟨0, Nat.zero_le _, rfl, hid (Below.refl _ _), hid (World.ownsRow_nil _ _ _ _), hid (fun j hj => by omega)⟩
      case round =>
        obtain ⟨k, hk, rfl, HB, OW, HE⟩ := hrel
        obtain ⟨va, vc, rfl⟩ := own_form OW.out
        have hfl := fre_len T k
        obtain ⟨m, hm⟩ : ∃ m, m = (fre T k).length := ⟨_, rfl⟩
        rw [← hm] at OW hfl ⊢
        have HM := hid hm
        clear hm
        have xt := (show Boxed wr w.heap.size 26 (.slice a L cap) from (HB.out.block _ HX0.out.lt).trans HX0.out).cell
        by_cases hlt : k < L
        · have HPP := HPA.out a T cap k va (fre T k) vc wr (HTX.out.low HB.out) (by rw [← HL.out]; exact hlt) (by rw [← HL.out]; omega) HG.out (own_rdI OW.out).2.1 (by rw [← HM.out]; omega) (fun x hx => by have := fre_mem T k x hx; have := HL.out; omega)
          rw [← HL.out, ← HM.out] at HPP
          have HP2 := hid HPP
          clear HPP
          have g1 : (k : Int) < (L : Int) := by omega
          have g2 : (0 : Int) ≤ (k : Int) := by omega
          go_upto_region 10 with (go_at_call 50; refine HP2.out.mono ?_; rintro e w1 ⟨bb, rfl, hbb, l1⟩; have L1 := hid l1; have HBB := hid hbb; clear l1 hbb)
          cases bb
          · go_wp2_with fail
            (try simp only [Exit.inBlock, Exit.then])
            refine bodyPost_ret (results_tmp2 rfl _ _ _) rfl ⟨130, k, rfl, .inr (.inr ⟨by rw [← HL.out]; omega, by rw [← HL.out]; omega, .inl ⟨k, rfl, ⟨by rw [← HL.out]; exact hlt, fun ho => ?_, HE.out⟩, rfl⟩⟩), HB0.out.trans ((HB.out.trans (L1.out.mono HB.out.size)).mono HB0.out.size)⟩
            have := HBB.out.2 (okD_iff.1 ho)
            cases this
          · have hok : OkA T k := okD_iff.2 (HBB.out.1 rfl)
            have BX1 := hid (HB.out.trans (L1.out.mono HB.out.size))
            have O1 := hid (own_low OW.out L1.out)
            have r2 := HTX.out.low BX1.out
            have hT1 := r2
            rcases r2 with h0 | ⟨b2, o2, rfl, hb2, hc2⟩
            · have := HL.out; omega
            obtain ⟨ka, kc, _, _, _, q3, _⟩ := hc2 k (by rw [← HL.out]; exact hlt)
            have hmany := hok.many
            obtain ⟨n, hn⟩ : ∃ n, n = (pt T k).kids.length := ⟨_, rfl⟩
            rw [← hn, ← HM.out] at hmany
            rw [← hn] at q3
            obtain ⟨h, hh⟩ : ∃ h, m = h + n := ⟨m - n, by omega⟩
            have hmn : (m : Int) - (n : Int) = (h : Int) := by omega
            have HRN := head_run (h := h) O1.out HM.out (by omega)
            have HFR := hid (show fre T (k + 1) = (fre T k).take h ++ [(k : Int)] by
              show (fre T k).take ((fre T k).length - (pt T k).kids.length) ++ _ = _
              rw [← hn, ← HM.out, show m - n = h by omega])
            have HHM := hid (show h ≤ m by omega)
            have hh1 : h ≤ 1000 := by omega
            have HOKK := hid hok
            clear xt hok hmany hn hc2 hT1
            have xt := (show Boxed (w1.alloc (.cells #[] 3)) w.heap.size 26 (.slice (some ⟨b2, o2, none⟩) L cap) from ((BX1.out.alloc BX1.out.size _).block _ HX0.out.lt).trans HX0.out).cell
            have bV := belowA w1 (.cells #[] 3)
            replace q3 := (bV.cell (p := ⟨b2, o2 + k * 4 + 3, none⟩) hb2).trans q3
            have BV := hid (BX1.out.alloc BX1.out.size (.cells #[] 3))
            have O2 := hid (own_low O1.out bV)
            have N0 := hid (own_new0 w1 X.heap.size BX1.out.size)
            clear bV hb2 hh
            have HC0 := hid (show h = ((fre T k).take h).length by rw [List.length_take, ← HM.out]; have := HHM.out; omega)
            have RS := hid (own_rdI (own_take (show OwnI (w1.alloc (.cells #[] 3)) X.heap.size (.slice va (fre T k).length vc) (fre T k) by rw [← HM.out]; exact O2.out) h (by rw [← HM.out]; exact HHM.out))).2
            have HBD := hid (show ([] : List Int).length + ((fre T k).take h).length ≤ 17592186044000 by rw [← HC0.out]; simp; omega)
            have HSZ := hid (show X.heap.size ≤ (w1.alloc (.cells #[] 3)).heap.size from BV.out.size)
            have hown : ∀ j, (Value.slice (some ⟨w1.heap.size, 0, none⟩) 0 0).ownBlock = some j → X.heap.size ≤ j := by
              intro j e
              simp [Value.ownBlock] at e
              have := BX1.out.size
              omega
            have HOB := hid hown
            clear hown
            go_wp2_with (at_builtin; refine append_src rfl _ _ rfl X.heap.size _ [] rfl N0.out va h vc ((fre T k).take h) HC0.out rfl RS.out.2 RS.out.1 HBD.out HSZ.out ?_)
            intro v2 w3 o3 g3
            (try rw [List.nil_append] at o3)
            have B3 := hid (show Below X.heap.size X w3 from BV.out.grown g3 HSZ.out HOB.out)
            have O3 := hid o3
            obtain ⟨va3, vc3, rfl⟩ := own_form o3
            rw [← HC0.out]
            have own3 := hid (own_block o3)
            have O4 : w3.ownsRow X.heap.size 3 1 (.slice va3 h vc3) h (((fre T k).take h).map (Value.int .i64)) := by
              have := o3
              unfold OwnI at this
              rw [← HC0.out] at this
              exact this
            have O5 := hid O4
            rw [← HC0.out] at own3
            clear o3 g3 O4 O2 N0 O1 RS HRN xt q3
            go_wp2_with (at_builtin; refine wpList_append_own _ rfl _ _ 58 rfl X.heap.size 3 i3 (.int .i64 0) 1 8 Tryz.underlying58 hi hz0 hz1i hz2 rfl (by decide) _ _ _ rfl (O5.out.alloc _) ⟨w3.heap.size, 0, none⟩ 1 1 [.int .i64 k] rfl rfl ?c1 ?c2 ?c3 ?c4 ?c5 ?_)
            case c1 => exact cell_one_new _ _ _
            case c2 => first | rfl | (intro x hx; simp at hx; subst hx; rfl)
            case c3 => unfold maxLen; omega
            case c4 => omega
            case c5 => have := B3.out.size; simp; omega
            intro v4 w4 hown' hgrow _
            have B4 := hid (show Below X.heap.size X w4 from (B3.out.alloc B3.out.size _).grown hgrow (by have := B3.out.size; simp; omega) (fun j e => (own3.out j e).1))
            have O6 := hid (show OwnI w4 X.heap.size v4 (fre T (k + 1)) by
              rw [HFR.out]
              unfold OwnI
              rw [List.map_append, List.length_append, ← HC0.out, List.map_take]
              exact hown')
            clear hown' hgrow
            go_wp2_with fail
            refine ⟨⟨k + 1, by omega, by go_num, B4, O6, hid (fun j hj => ?_)⟩, by simp [intOf]; omega⟩
            by_cases e : j = k
            · rw [e]; exact HOKK.out
            · exact HE.out j (by omega)
        · obtain rfl : k = L := by omega
          have HOK0 := hid (show Ok0 T from fun j hj => HE.out j (by rw [HL.out]; exact hj))
          have hll : ((k : Int) - 1) = ((k - 1 : Nat) : Int) := by omega
          have r2 := HTX.out.low HB.out
          rcases r2 with h0 | ⟨b2, o2, rfl, hb2, hc2⟩
          · have := HL.out; omega
          obtain ⟨ka, kc, q0, _⟩ := hc2 (k - 1) (by rw [← HL.out]; omega)
          clear hc2
          obtain ⟨kk, hkk⟩ : ∃ kk, kk = (pt T (k - 1)).kind := ⟨_, rfl⟩
          rw [← hkk] at q0
          have HKK := hid hkk
          clear hkk
          have g1 : ((k - 1 : Nat) : Int) < (k : Int) := by omega
          have g2 : (0 : Int) ≤ ((k - 1 : Nat) : Int) := by omega
          generalize hkm : k - 1 = km at *
          have HKM := hid hkm
          clear hkm
          have hB := HB0.out.trans (HB.out.mono HB0.out.size)
          have HBB := hid hB
          clear hB
          cases hc : decide (1 ≤ kk ∧ kk ≤ 10)
          · have HCC := hid hc
            go_wp2_with (go_at_call 51; refine (HCO.out _ _).mono ?_; rw [HCC.out]; rintro e w1 ⟨rfl, hww⟩; have hw2 := hww.symm; clear hww; subst hw2)
            (try simp only [Exit.inBlock, Exit.then])
            refine bodyPost_ret (results_tmp2 rfl _ _ _) rfl ⟨130, km, rfl, .inr (.inr ⟨by rw [← HL.out]; omega, by rw [← HL.out]; omega, .inr (.inl ⟨HOK0.out, .inl (fun h => ?_), rfl, by rw [← HL.out, HKM.out]⟩)⟩), HBB.out⟩
            rw [← HL.out, HKM.out, ← HKK.out] at h
            have := HCC.out
            simp at this
            omega
          · have HCC := hid hc
            by_cases h1m : 1 < m
            · have d1 : decide ((1 : Int) < (m : Int)) = true := by simp; omega
              go_wp2_with (go_at_call 51; refine (HCO.out _ _).mono ?_; rw [HCC.out]; rintro e w1 ⟨rfl, hww⟩; have hw2 := hww.symm; clear hww; subst hw2)
              (try simp only [Exit.inBlock, Exit.then])
              refine bodyPost_ret (results_tmp2 rfl _ _ _) rfl ⟨130, km, rfl, .inr (.inr ⟨by rw [← HL.out]; omega, by rw [← HL.out]; omega, .inr (.inl ⟨HOK0.out, .inr ?_, rfl, by rw [← HL.out, HKM.out]⟩)⟩), HBB.out⟩
              rw [← HL.out, ← HM.out]
              exact h1m
            · have d1 : decide ((1 : Int) < (m : Int)) = false := by simp; omega
              go_wp2_with (go_at_call 51; refine (HCO.out _ _).mono ?_; rw [HCC.out]; rintro e w1 ⟨rfl, hww⟩; have hw2 := hww.symm; clear hww; subst hw2)
              (try simp only [Exit.inBlock, Exit.then])
              refine bodyPost_ret (results_tmp2 rfl _ _ _) rfl ⟨0, 0, rfl, .inr (.inr ⟨by rw [← HL.out]; omega, by rw [← HL.out]; omega, .inr (.inr ⟨HOK0.out, ?_, rfl, rfl⟩)⟩), HBB.out⟩
              rintro (h | h)
              · rw [← HL.out, HKM.out, ← HKK.out] at h
                have := HCC.out
                simp at this
                exact h this
              · rw [← HL.out, ← HM.out] at h
                exact h1m h
end Go.Proofs.YtiddnjjaidiohaaGreatDoor.L
