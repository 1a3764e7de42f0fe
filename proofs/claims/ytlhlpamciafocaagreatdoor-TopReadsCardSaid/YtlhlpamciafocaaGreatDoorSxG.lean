import Derived.Test.YtlhlpamciafocaaGreatDoorSxF
namespace Go.Proofs.YtlhlpamciafocaaGreatDoor.L
open Go.RowKit
set_option linter.unusedVariables false
set_option linter.unusedSimpArgs false
theorem parR_small {src : ByteArray} {s : PS} (h : parR src = .ok s) : src.size ≤ 4096 := by
  unfold parR at h
  cases hs : (scanT src).2 with
  | some q => obtain ⟨c, a⟩ := q; rw [hs] at h; cases h
  | none => exact (scan_shape hs).1
set_option maxHeartbeats 8000000 in
set_option maxRecDepth 100000 in
theorem topreads_any (src : ByteArray) (w : World) (hv : Vars w) (ht : Sw.TabW w) (h1 : src.size ≤ 140737488355328) : Calls Tryz.prog 5 #[.string src] w fun e w' => e = .returned (.bool true) ∧ Below w.heap.size w w' := by
  have HV := hid hv
  have HTV := hid ht
  clear hv ht
  cases hpr : parR src with
  | error q =>
    obtain ⟨c, x⟩ := q
    have HPR := hid hpr
    obtain ⟨hcode, hx0, hx1⟩ := either_bad hpr
    have HNZ := hid (parR_code hpr)
    clear hpr
    obtain ⟨ZC, hz⟩ : ∃ ZC : Array Value, ZC = f19 0 0 := ⟨_, rfl⟩
    have HZC := hid hz
    have HZ9 := hid (show ZC.size = 19 by rw [hz]; rfl)
    clear hz
    have e1 : (#[.int .i64 0, .int .i64 0, .string ⟨#[]⟩, .int .i64 0, .int .i64 0, .int .i64 0, .string ⟨#[]⟩, .int .i64 0, .int .i64 0, .int .i64 0, .string ⟨#[]⟩, .int .i64 0, .int .i64 0, .int .i64 0, .string ⟨#[]⟩, .int .i64 0, .int .i64 0, .int .i64 0, .string ⟨#[]⟩] : Array Value) = ZC := by rw [HZC.out]; rfl
    obtain ⟨cs, hcs⟩ : ∃ cs : Array Value, cs = f19 (c : Int) x := ⟨_, rfl⟩
    have HCS := hid hcs
    have HC9 := hid (show cs.size = 19 by rw [hcs]; rfl)
    have HQ := hid (show cs[0]? = some (.int .i64 (c : Int)) ∧ cs[1]? = some (.int .i64 x) by rw [hcs]; exact ⟨rfl, rfl⟩)
    clear hcs
    have a1 : decide ((0 : Int) < (c : Int)) = true := by simp; omega
    have a1n : (0 : Int) < (c : Int) := by omega
    have b1 : decide ((0 : Int) ≤ x) = true := by simpa using hx0
    have b2 : decide (x ≤ (src.size : Int)) = true := by simpa using hx1
    clear hcode
    go_enter Tryz.func5, Tryz.ntmps5
    go_wp2_with fail
    refine (reads_any w HV.out HTV.out).mono ?_
    rintro e W1 ⟨rfl, l1⟩
    have HL1 := hid l1
    clear l1
    go_wp2_with fail
    refine (parse_any src W1 (HV.out.low HL1.out)).mono ?_
    rintro e W2 ⟨hp, l2⟩
    have HL2 := hid (bch HL1.out l2)
    clear l2
    obtain ⟨N, rfl, hf⟩ := par_bad HPR.out hp
    have HF2 := hid hf
    clear hf hp
    unfold fv
    go_upto_region 4 with fail
    have HB3 := hid (belowA W2 (.cells #[.slice none 0 0] 24))
    have HX3 := hid (heap_alloc_new W2 (.cells #[.slice none 0 0] 24))
    have HL3 := hid (bch HL2.out HB3.out)
    have HF3 := hid (show Fli _ N c x from (HB3.out.block N (lt_blk HF2.out)).trans HF2.out)
    generalize W2.alloc (.cells #[.slice none 0 0] 24) = W3 at *
    generalize hb3 : W2.heap.size = b3 at *
    clear hb3
    have HRD := hid (read_flt N c x W3 HF3.out HNZ.out)
    rw [← HCS.out] at HRD
    unfold fv at HRD
    go_upto_region 5 with fail
    refine wp_region_lit ?_
    refine wpList_plain rfl fun K hK => ?_
    have HK := hid hK
    clear hK
    go_simp
    (try rw [e1])
    refine HK.out _ _ ?_
    clear HK
    try simp only [Act.put, List.setIfInBounds_toArray, List.set_cons_zero, List.set_cons_succ]
    refine wpList_step fun K hK => ?_
    rw [if_pos (by first | rfl | kernel_rfl)]
    go_simp
    refine (HRD.out).mono ?_
    rintro e W4 ⟨rfl, l⟩
    refine hK _ _ ?_
    clear hK K
    try simp only [Act.put, List.setIfInBounds_toArray, List.set_cons_zero, List.set_cons_succ]
    refine wpList_plain rfl fun K hK => ?_
    have HK := hid hK
    clear hK
    go_simp
    (try rw [e1])
    refine HK.out _ _ ?_
    clear HK
    try simp only [Act.put, List.setIfInBounds_toArray, List.set_cons_zero, List.set_cons_succ]
    have HX5 := hid (heap_alloc_new W4 (.cells ZC 45))
    have HL4 := hid (bch HL3.out l)
    have HX34 := hid ((l.block _ (lt_blk HX3.out)).trans HX3.out)
    have HL5 := hid (HL4.out.trans ((belowA W4 (.cells ZC 45)).mono HL4.out.size))
    have HX35 := hid (((belowA W4 (.cells ZC 45)).block _ (lt_blk HX34.out)).trans HX34.out)
    have HGE := hid HL4.out.size
    have HN3 := hid (Nat.ne_of_lt (lt_blk HX34.out))
    clear l
    refine wpList_store_row rfl 45 _ _ rfl W4.heap.size cs rfl rfl 45 ZC HX5.out (by rw [HC9.out]; exact info53) (by rw [HC9.out, HZ9.out]) (by rw [HCS.out]; kernel_rfl) ?_
    try simp only [Act.put, List.setIfInBounds_toArray, List.set_cons_zero, List.set_cons_succ]
    have HX6 := hid (setRow_heap _ _ ZC cs _ _ HX5.out)
    have HL6 := hid (below_row HL5.out W4.heap.size cs HGE.out)
    have HX36 := hid (show ((W4.alloc (.cells ZC 45)).setRow W4.heap.size cs).heap[b3]? = _ from (setRow_other _ _ _ _ HN3.out).trans HX35.out)
    clear HX5 HL5 HX35
    generalize (W4.alloc (.cells ZC 45)).setRow W4.heap.size cs = W6 at *
    generalize W4.heap.size = b8 at *
    have k0 : W6.cell? ⟨b8, 0, none⟩ = some (.int .i64 (c : Int)) := (cell_of_row _ _ 0 _ _ _ HX6.out).trans HQ.out.1
    have k1 : W6.cell? ⟨b8, 1, none⟩ = some (.int .i64 x) := (cell_of_row _ _ 1 _ _ _ HX6.out).trans HQ.out.2
    have kt : W6.cell? ⟨b3, 0, none⟩ = some (.slice none 0 0) := cell_of_row _ _ 0 _ _ _ HX36.out
    go_wp2_with fail
    go_ret
    exact ⟨rfl, HL6.out⟩
  | ok s =>
    have hz0 := parR_small hpr
    have hrl := read_len hpr
    have R0 := either_ok hpr
    have HR := hid (valid_of hpr)
    have HPR := hid hpr
    have HBG := hid (fun j (hj : j < s.os.length) => (show ∃ n : Nat, s.os.getD j 0 = (n : Int) ∧ n < src.size from by obtain ⟨n, h1, h2, _⟩ := R0.bg j (by rw [← R0.len]; exact hj); exact ⟨n, h1, h2⟩))
    have HOL := hid R0.len
    clear R0 hpr
    go_enter Tryz.func5, Tryz.ntmps5
    go_wp2_with fail
    refine (reads_any w HV.out HTV.out).mono ?_
    rintro e W1 ⟨rfl, l1⟩
    have HL1 := hid l1
    clear l1
    go_wp2_with fail
    refine (parse_any src W1 (HV.out.low HL1.out)).mono ?_
    rintro e W2 ⟨hp, l2⟩
    have HL2 := hid (bch HL1.out l2)
    clear l2
    obtain ⟨va, vc, oa, oc, rfl, hpl, hro⟩ := par_ok HPR.out hp
    have HRO2 := hid hro
    clear hp hro HPR
    rw [HOL.out]
    generalize hos : s.os = os at *
    clear hos
    generalize hT : s.ps = T at *
    clear hT s
    obtain ⟨L, hL⟩ : ∃ L, L = T.length := ⟨_, rfl⟩
    have HL := hid hL
    have hLp : ((L : Int) == 0) = false := by have := HR.out.ok.1; simp; omega
    have hLL : ((L : Int) != (L : Int)) = false := by simp
    have hL1 : 1 ≤ L := by have := HR.out.ok.1; omega
    rw [← hL]
    clear hL
    have hLm : L ≤ 1000 := by have := HR.out.ok.2.1; have := HL.out; omega
    have HGD := hid (res_gd HR.out)
    have HPL2 := hid hpl.pl
    have HRL := hid hrl
    clear hpl hrl
    go_upto_region 4 with fail
    have HB3 := hid (belowA W2 (.cells #[.slice va L vc] 24))
    have HX3 := hid (heap_alloc_new W2 (.cells #[.slice va L vc] 24))
    have HL3 := hid (bch HL2.out HB3.out)
    have HPL3 := hid (HPL2.out.low HB3.out)
    have HRO3 := hid (HRO2.out.low HB3.out (Nat.le_refl _))
    generalize W2.alloc (.cells #[.slice va L vc] 24) = W3 at *
    generalize W2.heap.size = b3 at *
    have x3 : W3.cell? ⟨b3, 0, none⟩ = some (.slice va L vc) := cell_of_row _ _ 0 _ _ _ HX3.out
    clear HB3 HPL2 HRO2
    go_wp2_with fail
    refine (show Calls Tryz.prog 8 #[.agg #[.slice va L vc]] W3 _ from by rw [HL.out]; exact Sw.valid_any va T vc W3 HPL3.out HGD.out).mono ?_
    rintro e W4 ⟨ev, rfl, l4, he⟩
    obtain rfl := err_nil he HR.out
    have HL4 := hid (bch HL3.out l4)
    have HX4 := hid ((l4.block _ (lt_blk HX3.out)).trans HX3.out)
    have HPL4 := hid (HPL3.out.low l4)
    have HRO4 := hid (HRO3.out.low l4 (Nat.le_refl _))
    clear l4 x3 HX3 HPL3 HRO3 he
    go_wp2_with fail
    go_loopw [7] (fun i wr => ∃ k : Nat, k ≤ L ∧ i = .int .i64 k ∧ Hid (wr = W4)) (fun i _ => L - (intOf i).toNat)
    case atStart => exact ⟨0, Nat.zero_le _, rfl, hid rfl⟩
    case round =>
      obtain ⟨k, hk, rfl, HW⟩ := hrel
      obtain rfl := HW.out
      by_cases hlt : k < L
      · rcases HRO4.out with h9 | ⟨ho, po, rfl, hol, hoc⟩
        · have := HOL.out; have := HL.out; omega
        have p0 := hoc k (by rw [HOL.out, ← HL.out]; exact hlt)
        obtain ⟨n, hn1, hn2⟩ := HBG.out k (by rw [HOL.out, ← HL.out]; exact hlt)
        rw [hn1] at p0
        clear hoc hn1
        have g1 : (k : Int) < (L : Int) := by omega
        have g2 : (0 : Int) ≤ (k : Int) := by omega
        have g3 : ¬ (n : Int) < 0 := by omega
        have g4 : ¬ (src.size : Int) ≤ (n : Int) := by omega
        have g3d : decide ((n : Int) < 0) = false := by simp
        have g4d : decide ((src.size : Int) ≤ (n : Int)) = false := by simp; omega
        go_wp2_with fail
        exact ⟨⟨k + 1, by omega, by go_num, hid (by first | rfl | trivial)⟩, by simp [intOf]; omega⟩
      · obtain rfl : k = L := by omega
        have x4 : wr.cell? ⟨b3, 0, none⟩ = some (.slice va k vc) := cell_of_row _ _ 0 _ _ _ HX4.out
        go_wp2_with fail
        refine (show Calls Tryz.prog 10 #[.agg #[.slice va k vc]] wr _ from by rw [HL.out]; exact Sw.text_any va T vc wr HPL4.out HGD.out (HTV.out.low HL4.out)).mono ?_
        rintro e W5 ⟨R, ev, rfl, l5, hx⟩
        have HL5 := hid (bch HL4.out l5)
        have HX5 := hid ((l5.block _ (lt_blk HX4.out)).trans HX4.out)
        have HPL5 := hid (HPL4.out.low l5)
        clear l5 x4 HX4 HPL4 HRO4
        have hsz : ((src.size : Nat) : Int) ≤ 4096 := by omega
        rcases hx with ⟨he, hne, -⟩ | ⟨-, hs, rfl, rfl⟩ | ⟨-, hs, rfl, N, rfl, hf, -⟩
        · exact absurd (err_nil he HR.out) hne
        rotate_left
        · have h4 := HRL.out.2 hs
          have HRF := hid (Sw.read_yes N 131 (-1) W5 hf (by decide))
          clear hf hs
          unfold fv at *
          go_wp2_with fail
          refine HRF.out.mono ?_
          rintro e W6 ⟨rfl, l6⟩
          have HL6 := hid (bch HL5.out l6)
          clear l6
          have hrc := run_code
          have h4i : (4096 : Int) < 4 * (src.size : Int) := by omega
          go_wp2_with fail
          go_ret
          exact ⟨(by first | rfl | (simp; omega)), HL6.out⟩
        obtain ⟨s2, h1, h2⟩ := reads_res HR.out hs
        have HSH := hid hs
        have h4 := HRL.out.1
        obtain ⟨R, hRe⟩ : ∃ R, R = S ((txs T T.length).getD (T.length - 1) []) := ⟨_, rfl⟩
        have h4s : R.size ≤ 4 * src.size := by rw [hRe, S_size]; exact h4
        clear h4
        rw [← hRe] at h1 ⊢
        have HRE := hid hRe
        have HP := hid h1
        have HP2 := hid h2
        clear hs h1 h2 hRe
        have h4i : (R.size : Int) ≤ 4 * (src.size : Int) := by omega
        have h4n : ¬ 4 * (src.size : Int) < (R.size : Int) := by omega
        go_wp2_with fail
        refine (parse_any R W5 (HV.out.low HL5.out)).mono ?_
        rintro e W6 ⟨hp, l6⟩
        obtain ⟨ya, yc, oa2, oc2, rfl, hpl, -⟩ := par_ok HP.out hp
        rw [HP2.out] at hpl ⊢
        have HYL := hid hpl.pl
        rw [← HL.out]
        have HL6 := hid (bch HL5.out l6)
        have HX6 := hid ((l6.block _ (lt_blk HX5.out)).trans HX5.out)
        have HPL6 := hid (HPL5.out.low l6)
        clear hp hpl l6 HX5 HPL5
        go_upto_region 20 with fail
        have HBA := hid (belowA W6 (.cells #[.slice ya k yc] 24))
        have HYA := hid (heap_alloc_new W6 (.cells #[.slice ya k yc] 24))
        have HXA := hid ((HBA.out.block _ (lt_blk HX6.out)).trans HX6.out)
        have HLA := hid (bch HL6.out HBA.out)
        have HPLA := hid (HPL6.out.low HBA.out)
        have HYLA := hid (HYL.out.low HBA.out)
        clear HYL HPL6 HX6 HBA
        generalize W6.alloc (.cells #[.slice ya k yc] 24) = WA at *
        generalize W6.heap.size = bA at *
        have xA : WA.cell? ⟨b3, 0, none⟩ = some (.slice va k vc) := cell_of_row _ _ 0 _ _ _ HXA.out
        have yA : WA.cell? ⟨bA, 0, none⟩ = some (.slice ya k yc) := cell_of_row _ _ 0 _ _ _ HYA.out
        go_wp2_with fail
        refine (show Calls Tryz.prog 17 #[.agg #[.slice ya k yc], .agg #[.slice va k vc]] WA _ from by rw [HL.out]; exact same_parts ya va T yc vc WA HYLA.out HPLA.out (res_kids HR.out).1 (res_kids HR.out).2).mono ?_
        rintro e WB ⟨rfl, lB⟩
        have HLB := hid (bch HLA.out lB)
        have HYB := hid ((lB.block _ (lt_blk HYA.out)).trans HYA.out)
        have HYLB := hid (HYLA.out.low lB)
        clear lB xA yA
        have yB : WB.cell? ⟨bA, 0, none⟩ = some (.slice ya k yc) := cell_of_row _ _ 0 _ _ _ HYB.out
        go_wp2_with fail
        refine (show Calls Tryz.prog 10 #[.agg #[.slice ya k yc]] WB _ from by rw [HL.out]; exact Sw.text_any ya T yc WB HYLB.out HGD.out (HTV.out.low HLB.out)).mono ?_
        rintro e WC ⟨R2, ev, rfl, lC, hx⟩
        have HLC := hid (bch HLB.out lC)
        clear lC yB
        rcases hx with ⟨he, hne, -⟩ | ⟨-, -, rfl, hR2⟩ | ⟨-, hs, -⟩
        · exact absurd (err_nil he HR.out) hne
        · rw [← HRE.out] at hR2
          subst hR2
          go_wp2_with fail
          go_ret
          exact ⟨rfl, HLC.out⟩
        · exact absurd HSH.out hs
end Go.Proofs.YtlhlpamciafocaaGreatDoor.L
