import Derived.Test.YtlhlpamciafocaaGreatDoorMgAY
namespace Go.Proofs.YtlhlpamciafocaaGreatDoor.L.Sw
open Go.RowKit
set_option linter.unusedVariables false
set_option maxRecDepth 100000 in
theorem run_cl (a b c d e f g : Value) (w : World) : (Instr.field 88 (.agg #[a, b, c, d, e, f, g]) 0).run Tryz.prog w = .ok a w := by kernel_rfl
set_option maxHeartbeats 8000000 in
set_option maxRecDepth 100000 in
theorem right_any (a : Option Addr) (T : List Pt) (cap : Nat) (p : Pt) (ka : Option Addr) (kc : Nat) (w : World) (hT : PL w a T) (hk : RdI w ka p.kids) (hin : ∀ x, x ∈ p.kids → 0 ≤ x ∧ x < T.length) (hl : p.kids.length ≤ 1000) (hL : T.length ≤ 1000) :
    Calls Tryz.prog 38 #[.slice a T.length cap, .agg #[.int .i64 p.kind, .string p.text, .int .i64 p.num, .slice ka p.kids.length kc]] w fun e w' => ∃ b, e = .returned (.bool b) ∧ (b = true ↔ tabP T p) ∧ Below w.heap.size w w' := by
  obtain ⟨kd, tx, nu, ks⟩ := p
  simp only at *
  obtain ⟨n, hn⟩ : ∃ n, n = ks.length := ⟨_, rfl⟩
  obtain ⟨L, hLe⟩ : ∃ L, L = T.length := ⟨_, rfl⟩
  have HT := hid hT
  have HK := hid hk
  have HIN := hid hin
  have HN := hid hn
  have HL := hid hLe
  have HFO := hid formof_any
  have HTK := hid takes_any
  have HFI := hid fits_any
  rw [← hn] at hl ⊢
  rw [← hLe] at hL ⊢
  clear hT hk hin hn hLe
  have hB0 := belowA w (.cells #[.int .i64 kd, .string tx, .int .i64 nu, .slice ka n kc] 50)
  have hX0 := heap_alloc_new w (.cells #[.int .i64 kd, .string tx, .int .i64 nu, .slice ka n kc] 50)
  have HB0 := hid hB0
  have HX0 := hid hX0
  clear hB0 hX0
  have RC := run_cl
  go_enter Tryz.func38, Tryz.ntmps38
  unfold fmv at HFO
  go_upto_region 2 with (go_at_call 39; refine (HFO.out _ _).mono ?_; rintro e w1 ⟨rfl, l1⟩; have L1 := hid l1; clear l1; have hX1 := (L1.out.block _ (lt_blk HX0.out)).trans HX0.out; have ⟨x0, x1, x2, x3⟩ := cells4 hX1)
  have hB5 := belowA w1 (.cells #[.int .i64 (fmO kd).cl, .int .i64 (fmO kd).kd, .int .i64 (fmO kd).ls, .int .i64 (fmO kd).ms, .bool (fmO kd).tx, .int .i64 (fmO kd).lo, .int .i64 (fmO kd).hi] 88)
  have hX5 := heap_alloc_new w1 (.cells #[.int .i64 (fmO kd).cl, .int .i64 (fmO kd).kd, .int .i64 (fmO kd).ls, .int .i64 (fmO kd).ms, .bool (fmO kd).tx, .int .i64 (fmO kd).lo, .int .i64 (fmO kd).hi] 88)
  have HX1 := hid ((hB5.block _ (lt_blk hX1)).trans hX1)
  have HB5 := hid (show Below w.heap.size w (w1.alloc (.cells #[.int .i64 (fmO kd).cl, .int .i64 (fmO kd).kd, .int .i64 (fmO kd).ls, .int .i64 (fmO kd).ms, .bool (fmO kd).tx, .int .i64 (fmO kd).lo, .int .i64 (fmO kd).hi] 88)) from (HB0.out.trans (L1.out.mono (by simp))).trans (hB5.mono (by have := L1.out.size; simp at this; omega)))
  have hlt5 : w.heap.size ≠ w1.heap.size := by have := L1.out.size; simp at this; omega
  have HX5 := hid hX5
  have HS5 := hid (show (w1.alloc (.cells #[.int .i64 (fmO kd).cl, .int .i64 (fmO kd).kd, .int .i64 (fmO kd).ls, .int .i64 (fmO kd).ms, .bool (fmO kd).tx, .int .i64 (fmO kd).lo, .int .i64 (fmO kd).hi] 88)).heap.size = w1.heap.size + 1 by simp)
  unfold fmv at HTK HFI
  clear hB5 hX5 hX1 L1 x0 x1 x2 x3 HB0 HX0
  generalize w1.alloc (.cells #[.int .i64 (fmO kd).cl, .int .i64 (fmO kd).kd, .int .i64 (fmO kd).ls, .int .i64 (fmO kd).ms, .bool (fmO kd).tx, .int .i64 (fmO kd).lo, .int .i64 (fmO kd).hi] 88) = W5 at *
  generalize w1.heap.size = b5 at *
  have ⟨x0, x1, x2, x3⟩ := cells4 HX1.out
  go_wp2_with fail
  clear x0 x1 x2 x3
  go_loopw [14] (fun i wr => ∃ k : Nat, k ≤ n ∧ i = .int .i64 k ∧ Hid (Below W5.heap.size W5 wr) ∧ Hid (∀ j, j < k → takesB (fmO kd) (fmO (pt T (ks.getD j 0).toNat).kind).cl = true)) (fun i _ => n - (intOf i).toNat)
  case atStart => exact ⟨0, Nat.zero_le _, rfl, hid (Below.refl _ _), hid (fun j hj => by omega)⟩
  case round =>
    obtain ⟨k, hk, rfl, HB, HE⟩ := hrel
    have hx5 := (HB.out.block _ (lt_blk HX5.out)).trans HX5.out
    have ⟨f0, f1, f2, f3, f4, f5, f6⟩ := cells7 hx5
    by_cases hlt : k < n
    · have r1 := (HK.out.low HB5.out (Nat.le_refl _)).low HB.out (Nat.le_refl _)
      have r2 := (HT.out.low HB5.out).low HB.out
      rcases r1 with h0 | ⟨b1, o1, rfl, hb1, hc1⟩
      · have := HN.out; omega
      have hkn : k < ks.length := by rw [← HN.out]; exact hlt
      have p0 := hc1 k hkn
      have hmem : ks.getD k 0 ∈ ks := by rw [List.getD_eq_getElem?_getD, List.getElem?_eq_getElem hkn]; exact List.getElem_mem hkn
      have hx := HIN.out _ hmem
      obtain ⟨x, hxe⟩ : ∃ x : Nat, ks.getD k 0 = x := ⟨(ks.getD k 0).toNat, by omega⟩
      rw [hxe] at p0 hx
      have HXE := hid hxe
      rcases r2 with h0 | ⟨b2, o2, rfl, hb2, hc2⟩
      · have := HL.out; omega
      obtain ⟨_, _, q0, _⟩ := hc2 x (by omega)
      have g3 : (x : Int) < (L : Int) := by have := HL.out; omega
      clear hc1 hc2 hmem hxe hx hkn
      have g1 : (k : Int) < (n : Int) := by omega
      have g2 : (0 : Int) ≤ (k : Int) := by omega
      have g4 : (0 : Int) ≤ (x : Int) := by omega
      generalize hkk : (pt T x).kind = kk at *
      have HKK := hid hkk
      clear hkk
      go_wp2_with fail
      go_region_held3 (fun Y => Y.cell? ⟨b5, 0, none⟩ = some (.int .i64 (fmO kd).cl) ∧ Y.cell? ⟨b5, 1, none⟩ = some (.int .i64 (fmO kd).kd) ∧ Y.cell? ⟨b5, 2, none⟩ = some (.int .i64 (fmO kd).ls) ∧ Y.cell? ⟨b5, 3, none⟩ = some (.int .i64 (fmO kd).ms) ∧ Y.cell? ⟨b5, 4, none⟩ = some (.bool (fmO kd).tx) ∧ Y.cell? ⟨b5, 5, none⟩ = some (.int .i64 (fmO kd).lo) ∧ Y.cell? ⟨b5, 6, none⟩ = some (.int .i64 (fmO kd).hi) ∧ Y.cell? ⟨b2, o2 + x * 4, none⟩ = some (.int .i64 kk))
        (first | exact ⟨f0, f1, f2, f3, f4, f5, f6, q0⟩ | exact T2 | exact T3)
        (first
          | (go_at_call 39; refine (HFO.out _ _).mono ?_; rintro e w2 ⟨rfl, l2⟩
             have l2' : Below wr.heap.size wr w2 := ⟨l2.os, l2.tape, l2.output, l2.size, l2.block⟩
             have L2 := hid l2'
             have y5 := (l2'.block _ (lt_blk hx5)).trans hx5
             have ⟨t0, t1, t2, t3, t4, t5, t6⟩ := cells7 y5
             have T2 := And.intro t0 (And.intro t1 (And.intro t2 (And.intro t3 (And.intro t4 (And.intro t5 (And.intro t6 ((l2'.cell (p := ⟨b2, o2 + x * 4, none⟩) hb2).trans q0)))))))
             clear l2 l2' t0 t1 t2 t3 t4 t5 t6)
          | (go_at_call 55; refine (HTK.out (fmO kd) (fmO kk).cl _).mono ?_; rintro e w3 ⟨rfl, l3⟩
             have l3' : Below w2.heap.size w2 w3 := ⟨l3.os, l3.tape, l3.output, l3.size, l3.block⟩
             have L3 := hid l3'
             have z5 := (l3'.block _ (lt_blk y5)).trans y5
             have ⟨t0, t1, t2, t3, t4, t5, t6⟩ := cells7 z5
             have T3 := And.intro t0 (And.intro t1 (And.intro t2 (And.intro t3 (And.intro t4 (And.intro t5 (And.intro t6 ((l3'.cell (p := ⟨b2, o2 + x * 4, none⟩) (Nat.lt_of_lt_of_le hb2 L2.out.size)).trans T2.2.2.2.2.2.2.2)))))))
             clear l3 l3' t0 t1 t2 t3 t4 t5 t6))
      have B3 := hid (show Below W5.heap.size W5 w3 from (HB.out.trans (L2.out.mono HB.out.size)).trans (L3.out.mono (Nat.le_trans HB.out.size L2.out.size)))
      clear T2 T3 L2 L3 y5 z5 f0 f1 f2 f3 f4 f5 f6 hx5 q0 p0
      cases ht : takesB (fmO kd) (fmO kk).cl
      · go_wp2_with fail
        go_ret
        refine ⟨false, rfl, ⟨(fun h => by cases h), fun h => ?_⟩, HB5.out.trans (B3.out.mono HB5.out.size)⟩
        have hkn : k < ks.length := by rw [← HN.out]; exact hlt
        have hmem : ks.getD k 0 ∈ ks := by rw [List.getD_eq_getElem?_getD, List.getElem?_eq_getElem hkn]; exact List.getElem_mem hkn
        have := h.2 _ hmem
        rw [HXE.out] at this
        rw [show ((x : Int)).toNat = x from Int.toNat_natCast x, HKK.out, ht] at this
        cases this
      · have HTT := hid ht
        clear ht
        go_wp2_with fail
        refine ⟨⟨k + 1, by omega, by go_num, B3, hid (fun j hj => ?_)⟩, by simp [intOf]; omega⟩
        by_cases e : j = k
        · rw [e, HXE.out, show ((x : Int)).toNat = x from Int.toNat_natCast x, HKK.out]
          exact HTT.out
        · exact HE.out j (by omega)
    · obtain rfl : k = n := by omega
      have hx1 := (HB.out.block _ (lt_blk HX1.out)).trans HX1.out
      have ⟨x0, x1, x2, x3⟩ := cells4 hx1
      go_wp2_with (go_at_call 56; refine (HFI.out (fmO kd) kd nu tx ka k kc _).mono ?_; rintro e w2 ⟨rfl, l2⟩; have L2 := hid l2; clear l2)
      go_ret
      refine ⟨_, rfl, ?_, (HB5.out.trans (HB.out.mono HB5.out.size)).trans (L2.out.mono (Nat.le_trans HB5.out.size HB.out.size))⟩
      unfold tabP
      simp only
      rw [← HN.out]
      constructor
      · intro h
        refine ⟨h, fun y hy => ?_⟩
        obtain ⟨j, hj, e⟩ := List.getElem_of_mem hy
        have := HE.out j (by rw [HN.out]; exact hj)
        rw [List.getD_eq_getElem?_getD, List.getElem?_eq_getElem hj] at this
        simp only [Option.getD_some, e] at this
        exact this
      · intro h
        exact h.1
end Go.Proofs.YtlhlpamciafocaaGreatDoor.L.Sw
namespace Go.Proofs.YtlhlpamciafocaaGreatDoor.L.Sw
open Go.RowKit
set_option linter.unusedVariables false
set_option maxHeartbeats 16000000 in
set_option maxRecDepth 100000 in
theorem barred_any (a : Option Addr) (T : List Pt) (cap : Nat) (w : World) (hT : PL w a T) (h1 : 1 ≤ T.length) (hL : T.length ≤ 1000) (hG : GdT T) :
    Calls Tryz.prog 26 #[.slice a T.length cap] w fun e w' => ∃ i : Int, e = .returned (.int .i64 i) ∧ BarR T i ∧ Below w.heap.size w w' := by
  obtain ⟨i3, hi, hz0, hz1i, hz2⟩ := info_parts info3
  obtain ⟨L, hLe⟩ : ∃ L, L = T.length := ⟨_, rfl⟩
  have HT := hid hT
  have HL := hid hLe
  have HG := hid hG
  have HEQ := hid equal_any
  have HRI := hid right_any
  have HFO := hid formof_any
  have RC := run_cl
  rw [← hLe] at hL h1 ⊢
  clear hT hLe hG
  go_enter Tryz.func26, Tryz.ntmps26
  go_wp2_with fail
  go_loopw [3, 10] (fun v i wr => ∃ k : Nat, k ≤ L ∧ i = .int .i64 k ∧ Hid (Below w.heap.size w wr) ∧ Hid (OwnI wr w.heap.size v (fre T k)) ∧ Hid (∀ j, j < k → OkA T j)) (fun _ i _ => L - (intOf i).toNat)
  case atStart => exact ⟨0, Nat.zero_le _, rfl, hid (Below.refl _ _), hid (World.ownsRow_nil _ _ _ _), hid (fun j hj => by omega)⟩
  case round =>
    obtain ⟨k, hk, rfl, HB, OW, HE⟩ := hrel
    obtain ⟨va, vc, rfl⟩ := own_form OW.out
    have hfl := fre_len T k
    obtain ⟨m, hm⟩ : ∃ m, m = (fre T k).length := ⟨_, rfl⟩
    rw [← hm] at OW hfl ⊢
    have HM := hid hm
    clear hm
    by_cases hlt : k < L
    · have r2 := HT.out.low HB.out
      rcases r2 with h0 | ⟨b2, o2, rfl, hb2, hc2⟩
      · have := HL.out; omega
      have hgk := HG.out.2 k (by rw [← HL.out]; exact hlt)
      obtain ⟨ka, kc, q0, q1, q2, q3, rk⟩ := hc2 k (by rw [← HL.out]; exact hlt)
      clear hc2
      have HOK := hid (ok_iff (T := T) (k := k) (by omega))
      obtain ⟨p, hp⟩ : ∃ p, p = pt T k := ⟨_, rfl⟩
      rw [← hp] at q0 q1 q2 q3 rk hgk HOK
      have HPT := hid hp
      obtain ⟨kd, tx, nu, ks⟩ := p
      simp only at q0 q1 q2 q3 rk hgk HOK
      obtain ⟨n, hn⟩ : ∃ n, n = ks.length := ⟨_, rfl⟩
      rw [← hn] at q3 hgk HOK
      have HN := hid hn
      have RK := hid rk
      clear hp hn rk
      have g1 : (k : Int) < (L : Int) := by omega
      have g2 : (0 : Int) ≤ (k : Int) := by omega
      by_cases hA : m < n
      · have d1 : decide ((m : Int) - (n : Int) < 0) = true := by simp; omega
        go_wp2_with fail
        go_quiet (fail)
        go_wp2_with fail
        go_ret
        refine ⟨_, rfl, .inl ⟨k, rfl, by have := HL.out; omega, fun h => ?_, HE.out⟩, below_drewN (HB.out.alloc HB.out.size _) nq⟩
        have := (HOK.out.1 h).1
        rw [← HM.out] at this
        omega
      · obtain ⟨h, hh⟩ : ∃ h, m = h + n := ⟨m - n, by omega⟩
        have hmn : (m : Int) - (n : Int) = (h : Int) := by omega
        have d1 : decide ((h : Int) < 0) = false := by simp
        obtain ⟨tx1, tc1, TR, TRD⟩ := tail_run OW.out HM.out hh
        have bx := belowA wr (.cells #[.int .i64 kd, .string tx, .int .i64 nu, .slice ka n kc] 50)
        have HBX := hid bx
        have HXC := hid (heap_alloc_new wr (.cells #[.int .i64 kd, .string tx, .int .i64 nu, .slice ka n kc] 50))
        have HXS := hid (show (wr.alloc (.cells #[.int .i64 kd, .string tx, .int .i64 nu, .slice ka n kc] 50)).heap.size = wr.heap.size + 1 by simp)
        have HD := hid (TRD _ bx)
        have RK2 := hid (RK.out.low bx (Nat.le_refl _))
        have HPL := hid (HT.out.low (HB.out.trans (bx.mono HB.out.size)))
        have hdl : ((fre T k).drop h).length = n := by rw [List.length_drop, ← HM.out]; omega
        have HQ := HEQ.out ka tx1 ks ((fre T k).drop h) kc tc1
        rw [hdl, ← HN.out] at HQ
        have HQ2 := hid HQ
        have HH := hid hh
        have HGK := hid hgk
        clear TRD HQ hh bx hdl
        go_wp2_with fail
        generalize wr.alloc (.cells #[.int .i64 kd, .string tx, .int .i64 nu, .slice ka n kc] 50) = X at *
        generalize hwr : wr.heap.size = bx at *
        have HWR := hid hwr
        clear hwr q0 q1 q2 q3
        have ⟨x0, x1, x2, x3⟩ := cells4 HXC.out
        by_cases hEq : ks = (fre T k).drop h
        · have eD : decide (ks = (fre T k).drop h) = true := by simp [hEq]
          rw [eD] at HQ2
          have HNE := hid hEq
          have HR := fun W (hb : Below X.heap.size X W) => HRI.out (some ⟨b2, o2, none⟩) T cap ⟨kd, tx, nu, ks⟩ ka kc W (HPL.out.low hb) (RK2.out.low hb (Nat.le_refl _)) (fun y hy => by rw [hEq] at hy; have := fre_mem T k y (List.mem_of_mem_drop hy); have := HL.out; omega) (by simp only; rw [← HN.out]; omega) (by rw [← HL.out]; exact hL)
          simp only at HR
          rw [← HN.out, ← HL.out] at HR
          have HR2 := hid HR
          clear hEq eD HR
          go_region_held3 (fun Y => Y.cell? ⟨bx, 0, none⟩ = some (.int .i64 kd) ∧ Y.cell? ⟨bx, 1, none⟩ = some (.string tx) ∧ Y.cell? ⟨bx, 2, none⟩ = some (.int .i64 nu) ∧ Y.cell? ⟨bx, 3, none⟩ = some (.slice ka n kc))
            (first | exact ⟨x0, x1, x2, x3⟩ | exact T2 | exact T3)
            (first
              | (go_at_call 37; refine (HQ2.out _ (RK2.out.low ?k1 (Nat.le_refl _)) (HD.out.low ?k1 (Nat.le_refl _)) HGK.out).mono ?_
                 case k1 => exact ⟨rfl, rfl, rfl, Nat.le_refl _, fun _ _ => rfl⟩
                 rintro e w2 ⟨rfl, m2, hm2⟩
                 have L2 := hid (show Below X.heap.size X w2 by rw [hm2]; exact ⟨rfl, rfl, rfl, Nat.le_refl _, fun _ _ => rfl⟩)
                 have T2 := cells4 ((L2.out.block _ (lt_blk HXC.out)).trans HXC.out)
                 clear hm2)
              | (go_at_call 38; refine (HR2.out _ (show Below X.heap.size X _ from ⟨L2.out.os, L2.out.tape, L2.out.output, L2.out.size, L2.out.block⟩)).mono ?_
                 rintro e w3 ⟨bb, rfl, hbb, l3⟩
                 have L3 := hid (show Below X.heap.size X w3 from L2.out.trans (l3.mono L2.out.size))
                 have HBB := hid hbb
                 have T3 := cells4 ((L3.out.block _ (lt_blk HXC.out)).trans HXC.out)
                 clear l3 hbb))
          have BW3 := hid (show Below w.heap.size w w3 from (HB.out.trans (HBX.out.mono (by have := HB.out.size; have := HWR.out; omega))).trans (L3.out.mono (by have := HB.out.size; have := HWR.out; have := HXS.out; omega)))
          have BR3 := hid (show Below wr.heap.size wr w3 from (show Below wr.heap.size wr X by rw [HWR.out]; exact HBX.out).trans (L3.out.mono (by have := HWR.out; have := HXS.out; omega)))
          clear T2 T3 L2 x0 x1 x2 x3 HR2 HQ2 TR
          cases bb
          · go_wp2_with fail
            go_ret
            refine ⟨_, rfl, .inl ⟨k, rfl, by have := HL.out; omega, fun ho => ?_, HE.out⟩, BW3.out⟩
            have h2 := HBB.out.2 (HOK.out.1 ho).2.2
            cases h2
          · have HRN := head_run (h := h) OW.out HM.out (by have := HH.out; omega)
            have O0 := hid (own_take (show OwnI w3 w.heap.size (.slice va (fre T k).length vc) (fre T k) by rw [← HM.out]; exact own_low OW.out BR3.out) h (by have := HH.out; have := HM.out; omega))
            have own0 := hid (own_block O0.out)
            have hhm : h ≤ 1000 := by have := HH.out; omega
            have hok : OkA T k := HOK.out.2 ⟨by have := HM.out; have := HH.out; omega, by rw [← HM.out, show m - n = h by have := HH.out; omega]; exact HNE.out, HBB.out.1 rfl⟩
            have HFR := hid (show fre T (k + 1) = (fre T k).take h ++ [(k : Int)] by
              show (fre T k).take ((fre T k).length - (pt T k).kids.length) ++ _ = _
              rw [← HPT.out]
              simp only
              rw [← HM.out, ← HN.out, show m - n = h by have := HH.out; omega])
            have HOKK := hid hok
            have hth : ((fre T k).take h).length = h := by rw [List.length_take, ← HM.out]; have := HH.out; omega
            have O1 : w3.ownsRow w.heap.size 3 1 (.slice va h vc) h (((fre T k).take h).map (Value.int .i64)) := by
              have := O0.out
              unfold OwnI at this
              rw [hth] at this
              exact this
            have O2 := hid O1
            clear hok hmn O1 hth
            go_wp2_with (at_builtin; refine wpList_append_own _ rfl _ _ 34 rfl w.heap.size 3 i3 (.int .i64 0) 1 8 Tryz.underlying34 hi hz0 hz1i hz2 rfl (by decide) _ _ _ rfl (O2.out.alloc _) ⟨w3.heap.size, 0, none⟩ 1 1 [.int .i64 k] rfl rfl ?c1 ?c2 ?c3 ?c4 ?c5 ?_)
            case c2 => rfl
            case c3 => unfold maxLen; omega
            case c4 => omega
            case c5 => have := BW3.out.size; simp; omega
            intro v' w4 hown' hgrow _
            have B4 := hid (show Below w.heap.size w w4 from (BW3.out.alloc BW3.out.size _).grown hgrow (by have := BW3.out.size; simp; omega) (fun j e => (own0.out j e).1))
            have O4 := hid (show OwnI w4 w.heap.size v' (fre T (k + 1)) by
              rw [HFR.out]
              unfold OwnI
              rw [List.map_append, List.length_append, List.length_take, ← HM.out, show min h m = h by have := HH.out; omega]
              rw [List.map_take]
              exact hown')
            clear hown' hgrow
            go_wp2_with fail
            refine ⟨⟨k + 1, by omega, by go_num, B4, O4, hid (fun j hj => ?_)⟩, by simp [intOf]; omega⟩
            by_cases e : j = k
            · rw [e]; exact HOKK.out
            · exact HE.out j (by omega)
        · have eD : decide (ks = (fre T k).drop h) = false := by simp [hEq]
          rw [eD] at HQ2
          have HNE := hid hEq
          clear hEq eD
          go_quiet ((go_at_call 37; exact Calls.quiet_of (HQ2.out _ (RK2.out.drew _) (HD.out.drew _) HGK.out)))
          go_wp2_with fail
          go_ret
          refine ⟨_, rfl, .inl ⟨k, rfl, by have := HL.out; omega, fun ho => ?_, HE.out⟩, below_drewN (HB.out.trans (HBX.out.mono (by have := HB.out.size; have := HWR.out; omega))) nq⟩
          have h2 := (HOK.out.1 ho).2.1
          rw [← HM.out, show m - n = h by have := HH.out; omega] at h2
          exact HNE.out h2
    · obtain rfl : k = L := by omega
      have HOK0 := hid (show Ok0 T from fun j hj => HE.out j (by rw [HL.out]; exact hj))
      have hll : ((k : Int) - 1) = ((k - 1 : Nat) : Int) := by omega
      have HLS := hid (show ((T.length - 1 : Nat) : Int) = ((k - 1 : Nat) : Int) by rw [← HL.out])
      by_cases h1m : 1 < m
      · have d1 : decide ((1 : Int) < (m : Int)) = true := by simp; omega
        go_wp2_with fail
        go_ret
        refine ⟨_, rfl, .inr (.inl ⟨HLS.out.symm, HOK0.out, .inr ?_⟩), HB.out⟩
        rw [← HL.out, ← HM.out]
        exact h1m
      · have d1 : decide ((1 : Int) < (m : Int)) = false := by simp; omega
        have r2 := HT.out.low HB.out
        rcases r2 with h0 | ⟨b2, o2, rfl, hb2, hc2⟩
        · have := HL.out; omega
        obtain ⟨ka, kc, q0, _⟩ := hc2 (k - 1) (by rw [← HL.out]; omega)
        clear hc2
        obtain ⟨kk, hkk⟩ : ∃ kk, kk = (pt T (k - 1)).kind := ⟨_, rfl⟩
        rw [← hkk] at q0
        have HKK := hid hkk
        clear hkk
        have g1 : ((k - 1 : Nat) : Int) < (k : Int) := by omega
        have g2 : (0 : Int) ≤ ((k - 1 : Nat) : Int) := by omega
        generalize hkm : k - 1 = km at *
        have HKM := hid hkm
        clear hkm
        unfold fmv at HFO
        by_cases hc : (fmO kk).cl = 1
        · have e1 : ((fmO kk).cl != 1) = false := by simp [hc]
          have HC := hid hc
          clear hc
          go_wp2_with (go_at_call 39; refine (HFO.out _ _).mono ?_; rintro e w1 ⟨rfl, l1⟩; have L1 := hid l1; clear l1)
          go_ret
          refine ⟨_, rfl, .inr (.inr ⟨rfl, HOK0.out, ?_⟩), HB.out.trans (L1.out.mono HB.out.size)⟩
          rintro (h | h)
          · have h3 := (cl_one kk).1 HC.out
            rw [← HL.out, HKM.out, ← HKK.out] at h
            exact h h3
          · rw [← HL.out, ← HM.out] at h
            exact h1m h
        · have e1 : ((fmO kk).cl != 1) = true := by simp [hc]
          have HC := hid hc
          clear hc
          go_wp2_with (go_at_call 39; refine (HFO.out _ _).mono ?_; rintro e w1 ⟨rfl, l1⟩; have L1 := hid l1; clear l1)
          go_ret
          refine ⟨_, rfl, .inr (.inl ⟨HLS.out.symm, HOK0.out, .inl ?_⟩), HB.out.trans (L1.out.mono HB.out.size)⟩
          intro h
          rw [← HL.out, HKM.out, ← HKK.out] at h
          exact HC.out ((cl_one kk).2 h)
end Go.Proofs.YtlhlpamciafocaaGreatDoor.L.Sw
