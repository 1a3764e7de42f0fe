import Derived.Test.YtcldglilhhhdoaaGreatDoorMgAY
namespace Go.Proofs.YtcldglilhhhdoaaGreatDoor.L
open Go.RowKit
set_option linter.unusedVariables false
set_option linter.unusedSimpArgs false
theorem bch2 {W W1 W2 : World} (h : Below W.heap.size W W1) (k : Below W1.heap.size W1 W2) : Below W.heap.size W W2 := h.trans (k.mono h.size)
theorem kid_most {src : ByteArray} {j : Nat} (h : j < (rdp src).length) : (pt (rdp src) j).kids.length ≤ 100000 := by
 unfold rdp at h ⊢
 cases hp : parR src with
 | error e => rw [hp] at h; exact absurd h (Nat.not_lt_zero _)
 | ok s =>
  rw [hp] at h
  have r := either_ok hp
  have h5 := (r.ok j h).1; have h6 := fre_len s.ps j; have h7 := r.most
  have h8 : j < s.ps.length := h
  show (pt s.ps j).kids.length ≤ _
  omega
theorem pl_of {W : World} {B : Nat} {va : Option Addr} {n vc : Nat} {T : List Pt} {ks : Nat → Value} (h : OwnP W B (.slice va n vc) T ks T.length) : PL W va T := by
 obtain ⟨a, c, e, h⟩ := h.pl
 injection e with e _ _
 rw [e]
 exact h.pl
theorem rd_of {W : World} {B : Nat} {va : Option Addr} {n vc : Nat} {l : List Int} (h : OwnI W B (.slice va n vc) l) : RdI W va l := by
 obtain ⟨a, c, e, h⟩ := own_rdi h
 injection e with e _ _
 rw [e]
 exact h
theorem rep_get {n q : Nat} {m : Int} (h : q < n) : (List.replicate n m).getD q 0 = m := by
 rw [List.getD_eq_getElem?_getD, List.getElem?_replicate, if_pos h]
 rfl
set_option maxHeartbeats 16000000 in
set_option maxRecDepth 100000 in
theorem pmemory_any (src oth : ByteArray) (w : World) (hv : Vars w) : Calls Tryz.prog 8 #[.string src, .string oth] w fun e w' => e = .returned (.bool true) ∧ Below w.heap.size w w' := by
 have HV := hid hv
 obtain ⟨ZC, hz⟩ : ∃ ZC : Array Value, ZC = f19 0 0 := ⟨_, rfl⟩
 have HZC := hid hz
 have HZ9 := hid (show ZC.size = 19 by rw [hz]; rfl)
 clear hz hv
 have HMS := hid (rdp_most src)
 have HMO := hid (rdp_most oth)
 obtain ⟨pn, hpn⟩ : ∃ x, x = (rdp src).length := ⟨_, rfl⟩
 have Hpn := hid hpn
 clear hpn
 obtain ⟨on, hon⟩ : ∃ x, x = (rdo src).length := ⟨_, rfl⟩
 have Hon := hid hon
 clear hon
 obtain ⟨qn, hqn⟩ : ∃ x, x = (rdp oth).length := ⟨_, rfl⟩
 have Hqn := hid hqn
 clear hqn
 obtain ⟨qm, hqm⟩ : ∃ x, x = (rdo oth).length := ⟨_, rfl⟩
 have Hqm := hid hqm
 clear hqm
 have hp1 : pn ≤ 1000 := by rw [Hpn.out]; exact HMS.out.1
 have hq1 : qn ≤ 1000 := by rw [Hqn.out]; exact HMO.out.1
 have hpm : pn ≤ maxLen := by unfold maxLen; omega
 have hqm : qn ≤ maxLen := by unfold maxLen; omega
 go_enter Tryz.func8, Tryz.ntmps8
 go_wp2_with fail
 refine (wakes_any w HV.out).mono ?_
 rintro e W1 ⟨rfl, l1⟩
 have HLW1 := hid l1
 clear l1
 go_wp2_with fail
 refine (parse_any src W1 (HV.out.low HLW1.out)).mono ?_
 rintro e W2 ⟨hp, l⟩
 obtain ⟨va, ca, oa, da, era, Ba, ka, rfl, hb1, hb2, ht, hw⟩ := par_three hp l.size
 have HTa := hid ht
 have HWa := hid hw
 have HBa := hid (And.intro hb1 hb2)
 have HLW2 := hid (HLW1.out.trans (l.mono HLW1.out.size))
 have HDW2 := hid l
 clear hp l ht hw hb1 hb2
 rw [← Hpn.out, ← Hon.out] at HTa HWa ⊢
 go_upto_region 4 with fail
 have HB3 := hid (belowA W2 (.cells #[.slice va pn ca] 25))
 have HXa := hid (heap_alloc_new W2 (.cells #[.slice va pn ca] 25))
 generalize W2.alloc (.cells #[.slice va pn ca] 25) = W3 at *
 have HLW3 := hid (HLW2.out.trans (HB3.out.mono HLW2.out.size))
 have HDW3 := hid HB3.out
 clear HB3
 obtain ⟨ba, hb⟩ : ∃ b, b = W2.heap.size := ⟨_, rfl⟩
 have HBXa := hid hb
 rw [← hb]
 rw [← hb] at HXa
 clear hb
 go_wp2_with fail
 refine (parse_any src W3 (HV.out.low HLW3.out)).mono ?_
 rintro e W4 ⟨hp, l⟩
 obtain ⟨vb, cb, ob, db, erb, Bb, kb, rfl, hb1, hb2, ht, hw⟩ := par_three hp l.size
 have HTb := hid ht
 have HWb := hid hw
 have HBb := hid (And.intro hb1 hb2)
 have HLW4 := hid (HLW3.out.trans (l.mono HLW3.out.size))
 have HDW4 := hid l
 clear hp l ht hw hb1 hb2
 rw [← Hpn.out, ← Hon.out] at HTb HWb ⊢
 go_upto_region 5 with fail
 have HB3 := hid (belowA W4 (.cells #[.slice vb pn cb] 25))
 have HXb := hid (heap_alloc_new W4 (.cells #[.slice vb pn cb] 25))
 generalize W4.alloc (.cells #[.slice vb pn cb] 25) = W5 at *
 have HLW5 := hid (HLW4.out.trans (HB3.out.mono HLW4.out.size))
 have HDW5 := hid HB3.out
 clear HB3
 obtain ⟨bb, hb⟩ : ∃ b, b = W4.heap.size := ⟨_, rfl⟩
 have HBXb := hid hb
 rw [← hb]
 rw [← hb] at HXb
 clear hb
 go_wp2_with fail
 refine (parse_any oth W5 (HV.out.low HLW5.out)).mono ?_
 rintro e W6 ⟨hp, l⟩
 obtain ⟨vc, cc, oc, dc, erc, Bc, kc, rfl, hb1, hb2, ht, hw⟩ := par_three hp l.size
 have HTc := hid ht
 have HWc := hid hw
 have HBc := hid (And.intro hb1 hb2)
 have HLW6 := hid (HLW5.out.trans (l.mono HLW5.out.size))
 have HDW6 := hid l
 clear hp l ht hw hb1 hb2
 rw [← Hqn.out, ← Hqm.out] at HTc HWc ⊢
 go_upto_region 6 with fail
 have HB3 := hid (belowA W6 (.cells #[.slice vc qn cc] 25))
 have HXc := hid (heap_alloc_new W6 (.cells #[.slice vc qn cc] 25))
 generalize W6.alloc (.cells #[.slice vc qn cc] 25) = W7 at *
 have HLW7 := hid (HLW6.out.trans (HB3.out.mono HLW6.out.size))
 have HDW7 := hid HB3.out
 clear HB3
 obtain ⟨bc, hb⟩ : ∃ b, b = W6.heap.size := ⟨_, rfl⟩
 have HBXc := hid hb
 rw [← hb]
 rw [← hb] at HXc
 clear hb
 go_upto_region 6 with fail
 refine wp_region_lit ?_
 have e1 : (#[.int .i64 0, .int .i64 0, .string ⟨#[]⟩, .int .i64 0, .int .i64 0, .int .i64 0, .string ⟨#[]⟩, .int .i64 0, .int .i64 0, .int .i64 0, .string ⟨#[]⟩, .int .i64 0, .int .i64 0, .int .i64 0, .string ⟨#[]⟩, .int .i64 0, .int .i64 0, .int .i64 0, .string ⟨#[]⟩] : Array Value) = ZC := by rw [HZC.out]; rfl
 refine wpList_plain rfl fun K hK => ?_
 have HK := hid hK
 clear hK
 go_simp
 (try rw [e1])
 refine HK.out _ _ ?_
 clear HK
 try simp only [Act.put, List.setIfInBounds_toArray, List.set_cons_zero, List.set_cons_succ]
 refine wpList_step fun K hK => ?_
 rw [if_pos (by first | rfl | kernel_rfl)]
 go_simp
 refine (rparse_any src W7).mono ?_
 rintro e W8 ⟨hp, l⟩
 obtain ⟨vw, cw, ow, dw, Fw, Bw, kw, rfl, hfc, hb1, ht⟩ := rpr_three hp
 have HTw := hid ht
 have HBw := hid hb1
 have H9w := hid (show Fw.size = 19 by rw [hfc]; rfl)
 have HFw := hid hfc
 have HLW8 := hid (HLW7.out.trans (l.mono HLW7.out.size))
 have HDW8 := hid l
 clear hp l ht hb1 hfc
 rw [← Hpn.out, ← Hon.out] at HTw ⊢
 refine hK _ _ ?_
 clear hK K
 try simp only [Act.put, List.setIfInBounds_toArray, List.set_cons_zero, List.set_cons_succ]
 refine wpList_plain rfl fun K hK => ?_
 have HK := hid hK
 clear hK
 go_simp
 (try rw [e1])
 refine HK.out _ _ ?_
 clear HK
 try simp only [Act.put, List.setIfInBounds_toArray, List.set_cons_zero, List.set_cons_succ]
 refine wpList_plain rfl fun K hK => ?_
 have HK := hid hK
 clear hK
 go_simp
 (try rw [e1])
 refine HK.out _ _ ?_
 clear HK
 try simp only [Act.put, List.setIfInBounds_toArray, List.set_cons_zero, List.set_cons_succ]
 refine wpList_plain rfl fun K hK => ?_
 have HK := hid hK
 clear hK
 go_simp
 (try rw [e1])
 refine HK.out _ _ ?_
 clear HK
 try simp only [Act.put, List.setIfInBounds_toArray, List.set_cons_zero, List.set_cons_succ]
 refine wpList_plain rfl fun K hK => ?_
 have HK := hid hK
 clear hK
 go_simp
 (try rw [e1])
 refine HK.out _ _ ?_
 clear HK
 try simp only [Act.put, List.setIfInBounds_toArray, List.set_cons_zero, List.set_cons_succ]
 refine wpList_plain rfl fun K hK => ?_
 have HK := hid hK
 clear hK
 go_simp
 (try rw [e1])
 refine HK.out _ _ ?_
 clear HK
 try simp only [Act.put, List.setIfInBounds_toArray, List.set_cons_zero, List.set_cons_succ]
 refine wpList_plain rfl fun K hK => ?_
 have HK := hid hK
 clear hK
 go_simp
 (try rw [e1])
 refine HK.out _ _ ?_
 clear HK
 try simp only [Act.put, List.setIfInBounds_toArray, List.set_cons_zero, List.set_cons_succ]
 have HT5 := hid (show ((W8.alloc (.cells #[.slice none 0 0] 25)).alloc (.cells ZC 35)).heap[W8.heap.size]? = some (.cells #[.slice none 0 0] 25 (0, 0)) from ((belowA (W8.alloc (.cells #[.slice none 0 0] 25)) (.cells ZC 35)).block _ (by simp)).trans (heap_alloc_new W8 _))
 have HE5 := hid (show ((W8.alloc (.cells #[.slice none 0 0] 25)).alloc (.cells ZC 35)).heap[W8.heap.size + 1]? = some (.cells ZC 35 (0, 0)) by have h1 := heap_alloc_new (W8.alloc (.cells #[.slice none 0 0] 25)) (.cells ZC 35); rw [World.size_alloc] at h1; exact h1)
 have HB5 := hid (show Below W8.heap.size W8 ((W8.alloc (.cells #[.slice none 0 0] 25)).alloc (.cells ZC 35)) from (belowA W8 _).trans ((belowA _ _).mono (belowA W8 _).size))
 generalize ((W8.alloc (.cells #[.slice none 0 0] 25)).alloc (.cells ZC 35)) = Wz at *
 refine wpList_store_row rfl 25 _ _ rfl W8.heap.size #[.slice vw pn cw] rfl rfl 25 _ HT5.out infoTr rfl (by kernel_rfl) ?_
 try simp only [Act.put, List.setIfInBounds_toArray, List.set_cons_zero, List.set_cons_succ]
 refine wpList_plain rfl fun K hK => ?_
 have HK := hid hK
 clear hK
 go_simp
 (try rw [e1])
 refine HK.out _ _ ?_
 clear HK
 try simp only [Act.put, List.setIfInBounds_toArray, List.set_cons_zero, List.set_cons_succ]
 refine wpList_store_row rfl 35 _ _ rfl (W8.heap.size + 1) Fw rfl rfl 35 _ ((setRow_other _ _ _ _ (by omega)).trans HE5.out) (by rw [H9w.out]; exact info19) (by rw [HZ9.out, H9w.out]) (by rw [HFw.out]; kernel_rfl) ?_
 try simp only [Act.put, List.setIfInBounds_toArray, List.set_cons_zero, List.set_cons_succ]
 refine wpList_nil ?_
 have HXw := hid (two_rows HT5.out HE5.out #[.slice vw pn cw] Fw).1
 have HDW9 := hid (below_row (below_row HB5.out W8.heap.size #[.slice vw pn cw] (Nat.le_refl _)) (W8.heap.size + 1) Fw (by omega))
 generalize (Wz.setRow W8.heap.size #[.slice vw pn cw]).setRow (W8.heap.size + 1) Fw = W9 at *
 have HLW9 := hid (HLW8.out.trans (HDW9.out.mono HLW8.out.size))
 clear e1 HT5 HE5 HB5
 obtain ⟨bw, hb⟩ : ∃ b, b = W8.heap.size := ⟨_, rfl⟩
 have HBXw := hid hb
 rw [← hb]
 rw [← hb] at HXw
 clear hb
 go_upto_region 7 with fail
 refine wp_region_lit ?_
 have e1 : (#[.int .i64 0, .int .i64 0, .string ⟨#[]⟩, .int .i64 0, .int .i64 0, .int .i64 0, .string ⟨#[]⟩, .int .i64 0, .int .i64 0, .int .i64 0, .string ⟨#[]⟩, .int .i64 0, .int .i64 0, .int .i64 0, .string ⟨#[]⟩, .int .i64 0, .int .i64 0, .int .i64 0, .string ⟨#[]⟩] : Array Value) = ZC := by rw [HZC.out]; rfl
 refine wpList_plain rfl fun K hK => ?_
 have HK := hid hK
 clear hK
 go_simp
 (try rw [e1])
 refine HK.out _ _ ?_
 clear HK
 try simp only [Act.put, List.setIfInBounds_toArray, List.set_cons_zero, List.set_cons_succ]
 refine wpList_step fun K hK => ?_
 rw [if_pos (by first | rfl | kernel_rfl)]
 go_simp
 refine (rparse_any oth W9).mono ?_
 rintro e Wa ⟨hp, l⟩
 obtain ⟨vt, ct, ot, dt, Ft, Bt, kt, rfl, hfc, hb1, ht⟩ := rpr_three hp
 have HTt := hid ht
 have HBt := hid hb1
 have H9t := hid (show Ft.size = 19 by rw [hfc]; rfl)
 have HFt := hid hfc
 have HLWa := hid (HLW9.out.trans (l.mono HLW9.out.size))
 have HDWa := hid l
 clear hp l ht hb1 hfc
 rw [← Hqn.out, ← Hqm.out] at HTt ⊢
 refine hK _ _ ?_
 clear hK K
 try simp only [Act.put, List.setIfInBounds_toArray, List.set_cons_zero, List.set_cons_succ]
 refine wpList_plain rfl fun K hK => ?_
 have HK := hid hK
 clear hK
 go_simp
 (try rw [e1])
 refine HK.out _ _ ?_
 clear HK
 try simp only [Act.put, List.setIfInBounds_toArray, List.set_cons_zero, List.set_cons_succ]
 refine wpList_plain rfl fun K hK => ?_
 have HK := hid hK
 clear hK
 go_simp
 (try rw [e1])
 refine HK.out _ _ ?_
 clear HK
 try simp only [Act.put, List.setIfInBounds_toArray, List.set_cons_zero, List.set_cons_succ]
 refine wpList_plain rfl fun K hK => ?_
 have HK := hid hK
 clear hK
 go_simp
 (try rw [e1])
 refine HK.out _ _ ?_
 clear HK
 try simp only [Act.put, List.setIfInBounds_toArray, List.set_cons_zero, List.set_cons_succ]
 refine wpList_plain rfl fun K hK => ?_
 have HK := hid hK
 clear hK
 go_simp
 (try rw [e1])
 refine HK.out _ _ ?_
 clear HK
 try simp only [Act.put, List.setIfInBounds_toArray, List.set_cons_zero, List.set_cons_succ]
 refine wpList_plain rfl fun K hK => ?_
 have HK := hid hK
 clear hK
 go_simp
 (try rw [e1])
 refine HK.out _ _ ?_
 clear HK
 try simp only [Act.put, List.setIfInBounds_toArray, List.set_cons_zero, List.set_cons_succ]
 refine wpList_plain rfl fun K hK => ?_
 have HK := hid hK
 clear hK
 go_simp
 (try rw [e1])
 refine HK.out _ _ ?_
 clear HK
 try simp only [Act.put, List.setIfInBounds_toArray, List.set_cons_zero, List.set_cons_succ]
 have HT5 := hid (show ((Wa.alloc (.cells #[.slice none 0 0] 25)).alloc (.cells ZC 35)).heap[Wa.heap.size]? = some (.cells #[.slice none 0 0] 25 (0, 0)) from ((belowA (Wa.alloc (.cells #[.slice none 0 0] 25)) (.cells ZC 35)).block _ (by simp)).trans (heap_alloc_new Wa _))
 have HE5 := hid (show ((Wa.alloc (.cells #[.slice none 0 0] 25)).alloc (.cells ZC 35)).heap[Wa.heap.size + 1]? = some (.cells ZC 35 (0, 0)) by have h1 := heap_alloc_new (Wa.alloc (.cells #[.slice none 0 0] 25)) (.cells ZC 35); rw [World.size_alloc] at h1; exact h1)
 have HB5 := hid (show Below Wa.heap.size Wa ((Wa.alloc (.cells #[.slice none 0 0] 25)).alloc (.cells ZC 35)) from (belowA Wa _).trans ((belowA _ _).mono (belowA Wa _).size))
 generalize ((Wa.alloc (.cells #[.slice none 0 0] 25)).alloc (.cells ZC 35)) = Wz at *
 refine wpList_store_row rfl 25 _ _ rfl Wa.heap.size #[.slice vt qn ct] rfl rfl 25 _ HT5.out infoTr rfl (by kernel_rfl) ?_
 try simp only [Act.put, List.setIfInBounds_toArray, List.set_cons_zero, List.set_cons_succ]
 refine wpList_plain rfl fun K hK => ?_
 have HK := hid hK
 clear hK
 go_simp
 (try rw [e1])
 refine HK.out _ _ ?_
 clear HK
 try simp only [Act.put, List.setIfInBounds_toArray, List.set_cons_zero, List.set_cons_succ]
 refine wpList_store_row rfl 35 _ _ rfl (Wa.heap.size + 1) Ft rfl rfl 35 _ ((setRow_other _ _ _ _ (by omega)).trans HE5.out) (by rw [H9t.out]; exact info19) (by rw [HZ9.out, H9t.out]) (by rw [HFt.out]; kernel_rfl) ?_
 try simp only [Act.put, List.setIfInBounds_toArray, List.set_cons_zero, List.set_cons_succ]
 refine wpList_nil ?_
 have HXt := hid (two_rows HT5.out HE5.out #[.slice vt qn ct] Ft).1
 have HDWb := hid (below_row (below_row HB5.out Wa.heap.size #[.slice vt qn ct] (Nat.le_refl _)) (Wa.heap.size + 1) Ft (by omega))
 generalize (Wz.setRow Wa.heap.size #[.slice vt qn ct]).setRow (Wa.heap.size + 1) Ft = Wb at *
 have HLWb := hid (HLWa.out.trans (HDWb.out.mono HLWa.out.size))
 clear e1 HT5 HE5 HB5
 obtain ⟨bt, hb⟩ : ∃ b, b = Wa.heap.size := ⟨_, rfl⟩
 have HBXt := hid hb
 rw [← hb]
 rw [← hb] at HXt
 clear hb
 have TA := hid (HTa.out.low (bch2 (bch2 (bch2 (bch2 (bch2 (bch2 (bch2 (bch2 (bch2 (Below.refl _ W2) HDW3.out) HDW4.out) HDW5.out) HDW6.out) HDW7.out) HDW8.out) HDW9.out) HDWa.out) HDWb.out))
 have TB := hid (HTb.out.low (bch2 (bch2 (bch2 (bch2 (bch2 (bch2 (bch2 (Below.refl _ W4) HDW5.out) HDW6.out) HDW7.out) HDW8.out) HDW9.out) HDWa.out) HDWb.out))
 have TC := hid (HTc.out.low (bch2 (bch2 (bch2 (bch2 (bch2 (Below.refl _ W6) HDW7.out) HDW8.out) HDW9.out) HDWa.out) HDWb.out))
 have TW := hid (HTw.out.low (bch2 (bch2 (bch2 (Below.refl _ W8) HDW9.out) HDWa.out) HDWb.out))
 have TT := hid (HTt.out.low (bch2 (Below.refl _ Wa) HDWb.out))
 have XA := hid (((bch2 (bch2 (bch2 (bch2 (bch2 (bch2 (bch2 (bch2 (Below.refl _ W3) HDW4.out) HDW5.out) HDW6.out) HDW7.out) HDW8.out) HDW9.out) HDWa.out) HDWb.out).block ba (lt_blk HXa.out)).trans HXa.out)
 have XB := hid (((bch2 (bch2 (bch2 (bch2 (bch2 (bch2 (Below.refl _ W5) HDW6.out) HDW7.out) HDW8.out) HDW9.out) HDWa.out) HDWb.out).block bb (lt_blk HXb.out)).trans HXb.out)
 have XC := hid (((bch2 (bch2 (bch2 (bch2 (Below.refl _ W7) HDW8.out) HDW9.out) HDWa.out) HDWb.out).block bc (lt_blk HXc.out)).trans HXc.out)
 have XW := hid (((bch2 (bch2 (Below.refl _ W9) HDWa.out) HDWb.out).block bw (lt_blk HXw.out)).trans HXw.out)
 have XT := HXt
 have HSZ := hid (show W1.heap.size ≤ Ba ∧ Ba ≤ W2.heap.size ∧ W2.heap.size + 1 ≤ Bb ∧ Bb ≤ W4.heap.size ∧ W4.heap.size ≤ Bc ∧ W4.heap.size ≤ Bw ∧ W4.heap.size ≤ Bt ∧ w.heap.size ≤ W1.heap.size ∧ ba = W2.heap.size ∧ bb = W4.heap.size ∧ W4.heap.size ≤ bc ∧ W4.heap.size ≤ bw ∧ W4.heap.size ≤ bt by (have h1 := HBa.out; have h2 := HBb.out; have h3 := HBc.out; have h4 := HBw.out; have h5 := HBt.out; have h6 := HLW1.out.size; have h7 := HDW3.out.size; have h8 := HDW4.out.size; have h9 := HDW5.out.size; have h10 := HDW6.out.size; have h11 := HDW7.out.size; have h12 := HDW8.out.size; have h13 := HDW9.out.size; have h14 := HDWa.out.size; have h15 := lt_blk HXa.out; have h16 := HBXa.out; have h17 := HBXb.out; have h18 := HBXc.out; have h19 := HBXw.out; have h20 := HBXt.out; omega))
 have HKA := hid (show (∀ j, j < pn → ∀ b, (ka j).ownBlock = some b → Ba ≤ b ∧ b < W2.heap.size) ∧ (∀ b, (Value.slice va pn ca).ownBlock = some b → Ba ≤ b ∧ b < W2.heap.size) ∧ (∀ b, (Value.slice oa on da).ownBlock = some b → Ba ≤ b ∧ b < W2.heap.size) from ⟨fun j hj b e => ⟨(row_at (HTa.out.tree.kids j (by rw [← Hpn.out]; exact hj)) e).1, (row_at (HTa.out.tree.kids j (by rw [← Hpn.out]; exact hj)) e).2.1⟩, fun b e => ⟨(row_at HTa.out.tree.row e).1, (row_at HTa.out.tree.row e).2.1⟩, fun b e => ⟨(row_at HTa.out.offs e).1, (row_at HTa.out.offs e).2.1⟩⟩)
 have HKB := hid (show ∀ j, j < pn → ∀ b, (kb j).ownBlock = some b → Bb ≤ b ∧ b < W4.heap.size from fun j hj b e => ⟨(row_at (HTb.out.tree.kids j (by rw [← Hpn.out]; exact hj)) e).1, (row_at (HTb.out.tree.kids j (by rw [← Hpn.out]; exact hj)) e).2.1⟩)
 have HRA := hid (show Wb.ownsRow Ba 46 4 (.slice va pn ca) pn (CP (rdp src) ka pn) by have h8 := TA.out.tree.row; rw [← Hpn.out] at h8; exact h8)
 clear HTa HTb HTc HTw HTt HDW2 HDW3 HDW4 HDW5 HDW6 HDW7 HDW8 HDW9 HDWa HDWb HXa HXb HXc HXw HXt
 have HKM := hid (show ∀ j, j < pn → (pt (rdp src) j).kids.length ≤ 100000 from fun j hj => kid_most (by rw [← Hpn.out]; exact hj))
 go_wp2_with fail
 go_loopw [20] (fun p wr => ∃ i : Nat, i ≤ pn ∧ p = .int .i64 i ∧ Hid (Md Ba W2.heap.size Wb wr) ∧ Hid (wr.ownsRow Ba 46 4 (.slice va pn ca) pn (CP (rdp src) ka pn)) ∧ Hid (∀ j, i ≤ j → j < pn → OwnI wr Ba (ka j) (pt (rdp src) j).kids) ∧ Hid (OwnI wr Ba (.slice oa on da) (rdo src))) (fun p _ => pn - (intOf p).toNat)
 case atStart => exact ⟨0, Nat.zero_le _, rfl, hid (Md.refl _ _ _), HRA, hid (fun j _ hj => TA.out.tree.kids j (by rw [← Hpn.out]; exact hj)), hid TA.out.offs⟩
 case round =>
  obtain ⟨i, hi, rfl, HM, HR, HK, HO⟩ := hrel
  have x1 : wr.cell? ⟨ba, 0, none⟩ = some (.slice va pn ca) := cell_of_row _ _ 0 _ _ _ (HM.out.box XA.out (by have := HSZ.out; omega))
  by_cases hlt : i < pn
  ·obtain ⟨g, hg, hgl, hgc⟩ := part_kid HR.out hlt
   subst hg
   obtain ⟨kg, kc, hke⟩ := own_form (HK.out i (Nat.le_refl _) hlt)
   obtain ⟨kn, hkn⟩ : ∃ kn, kn = (pt (rdp src) i).kids.length := ⟨_, rfl⟩
   have HKN := hid hkn
   rw [← hkn] at hke
   rw [hke] at hgc
   have HKE := hid hke
   clear hke hkn
   have g1 : (i : Int) < (pn : Int) := by omega
   have g0 : (0 : Int) ≤ (i : Int) := by omega
   have hw7 : IntKind.i64.wrap (-7 - (i : Int)) = -7 - (i : Int) := by (simp [IntKind.wrap, IntKind.bits, IntKind.signed]; omega)
   go_wp2_with fail
   have hwi := wipe_any (HK.out i (Nat.le_refl _) hlt) (-7 - (i : Int)) (by have h8 := HMS.out.2.2 i (by rw [← Hpn.out]; exact hlt); have h9 := HKM.out i hlt; omega) (by have h8 := HM.out.size; have h9 := HSZ.out; have h10 := lt_blk XA.out; omega)
   rw [HKE.out] at hwi
   refine hwi.mono ?_
   clear hwi
   rintro e Y ⟨rfl, hown, hwp⟩
   rw [← HKE.out] at hwp
   have HWP := hid hwp
   clear hown hwp x1 hgc
   have HMY := hid (HM.out.wp HWP.out (HKA.out.1 i hlt))
   have HRY := hid (row_kept HR.out (fun k e => HWP.out.block k (row_at HR.out e).2.1 (fun e2 => type_ne HR.out (HK.out i (Nat.le_refl _) hlt) (by decide) e e2)))
   have HKY := hid (show ∀ j, i + 1 ≤ j → j < pn → OwnI Y Ba (ka j) (pt (rdp src) j).kids from fun j h1 h2 => row_kept (HK.out j (by omega) h2) (fun k e => HWP.out.block k (row_at (HK.out j (by omega) h2) e).2.1 (fun e2 => HWa.out.two i j hlt h2 (by omega) k e2 e)))
   have HOY := hid (row_kept HO.out (fun k e => HWP.out.block k (row_at HO.out e).2.1 (fun e2 => HWa.out.offs i hlt k e2 e)))
   go_wp2_with fail
   refine ⟨⟨i + 1, by omega, by go_num, hid HMY.out, hid HRY.out, hid HKY.out, hid HOY.out⟩, by simp [intOf]; omega⟩
  ·obtain rfl : i = pn := by omega
   clear HK hlt
   go_wp2_with fail
   clear x1
   have TC1 := hid (HM.out.tre TC.out (by have := HSZ.out; omega))
   have TT1 := hid (HM.out.tre TT.out (by have := HSZ.out; omega))
   have TB1 := hid (HM.out.tre TB.out (by have := HSZ.out; omega))
   have TW1 := hid (HM.out.tre TW.out (by have := HSZ.out; omega))
   have XA1 := hid (HM.out.box XA.out (by have := HSZ.out; omega))
   have XB1 := hid (HM.out.box XB.out (by have := HSZ.out; omega))
   have XC1 := hid (HM.out.box XC.out (by have := HSZ.out; omega))
   have XW1 := hid (HM.out.box XW.out (by have := HSZ.out; omega))
   have XT1 := hid (HM.out.box XT.out (by have := HSZ.out; omega))
   have PC := hid (pl_of TC1.out.tree)
   have PT := hid (pl_of TT1.out.tree)
   generalize wr = V at *
   go_loopw [21] (fun p wr => ∃ k : Nat, k ≤ qn ∧ p = .int .i64 k ∧ Hid (∃ m, wr = V.drewN m)) (fun p _ => qn - (intOf p).toNat)
   case atStart => exact ⟨0, Nat.zero_le _, rfl, hid ⟨0, rfl⟩⟩
   case round =>
    obtain ⟨k, hk, rfl, HQ⟩ := hrel
    obtain ⟨m0, hm0⟩ := HQ.out
    have HMM := hid hm0
    have x1 : wr.cell? ⟨bc, 0, none⟩ = some (.slice vc qn cc) := by rw [hm0]; exact cell_of_row _ _ 0 _ _ _ XC1.out
    have x2 : wr.cell? ⟨bt, 0, none⟩ = some (.slice vt qn ct) := by rw [hm0]; exact cell_of_row _ _ 0 _ _ _ XT1.out
    clear hm0 HQ
    by_cases hlt : k < qn
    ·rcases PC.out with h9 | ⟨ga, pa, hva, hga, hca⟩
     ·have := Hqn.out; omega
     obtain ⟨ha, kc1, _, _, _, q3, rka⟩ := hca k (by rw [← Hqn.out]; exact hlt)
     rcases PT.out with h9 | ⟨gb, pb, hvb, hgb, hcb⟩
     ·have := Hqn.out; omega
     obtain ⟨hb, kc2, _, _, _, r3, rkb⟩ := hcb k (by rw [← Hqn.out]; exact hlt)
     subst hva hvb
     have hkb := HMO.out.2.2 k (by rw [← Hqn.out]; exact hlt)
     obtain ⟨kn, hkn⟩ : ∃ kn, kn = (pt (rdp oth) k).kids.length := ⟨_, rfl⟩
     have HKN := hid hkn
     rw [← hkn] at q3 r3 hkb
     have RKA := hid rka
     have RKB := hid rkb
     have Q3 := hid q3
     have R3 := hid r3
     clear hkn rka rkb hca hcb
     have hkm : kn ≤ maxLen := by unfold maxLen; omega
     have g1 : (k : Int) < (qn : Int) := by omega
     have g0 : (0 : Int) ≤ (k : Int) := by omega
     have q3 : wr.cell? ⟨ga, pa + k * 4 + 3, none⟩ = some (.slice ha kn kc1) := by rw [HMM.out]; exact q3
     have r3 : wr.cell? ⟨gb, pb + k * 4 + 3, none⟩ = some (.slice hb kn kc2) := by rw [HMM.out]; exact r3
     go_wp2_with fail
     clear q3 r3 x1 x2
     go_loopw [22] (fun p wr2 => ∃ q : Nat, q ≤ kn ∧ p = .int .i64 q ∧ Hid (∃ m, wr2 = V.drewN m)) (fun p _ => kn - (intOf p).toNat)
     case atStart => exact ⟨0, Nat.zero_le _, rfl, hid ⟨m0, HMM.out⟩⟩
     case round =>
      obtain ⟨q, hq, rfl, HQ2⟩ := hrel
      obtain ⟨m1, hm1⟩ := HQ2.out
      have HMM1 := hid hm1
      have x1 : wr.cell? ⟨bc, 0, none⟩ = some (.slice (some ⟨ga, pa, none⟩) qn cc) := by rw [hm1]; exact cell_of_row _ _ 0 _ _ _ XC1.out
      have x2 : wr.cell? ⟨bt, 0, none⟩ = some (.slice (some ⟨gb, pb, none⟩) qn ct) := by rw [hm1]; exact cell_of_row _ _ 0 _ _ _ XT1.out
      have q3 : wr.cell? ⟨ga, pa + k * 4 + 3, none⟩ = some (.slice ha kn kc1) := by rw [hm1]; exact Q3.out
      have r3 : wr.cell? ⟨gb, pb + k * 4 + 3, none⟩ = some (.slice hb kn kc2) := by rw [hm1]; exact R3.out
      by_cases hqn : q < kn
      ·rcases RKA.out with h9 | ⟨hg, pg, rfl, hal, hac⟩
       ·have := HKN.out; omega
       rcases RKB.out with h9 | ⟨hg2, pg2, rfl, hbl, hbc⟩
       ·have := HKN.out; omega
       have p0 : wr.cell? ⟨hg, pg + q, none⟩ = some (.int .i64 ((pt (rdp oth) k).kids.getD q 0)) := by rw [hm1]; exact hac q (by rw [← HKN.out]; exact hqn)
       have p1 : wr.cell? ⟨hg2, pg2 + q, none⟩ = some (.int .i64 ((pt (rdp oth) k).kids.getD q 0)) := by rw [hm1]; exact hbc q (by rw [← HKN.out]; exact hqn)
       clear hac hbc hm1 HQ2
       generalize (pt (rdp oth) k).kids.getD q 0 = x at *
       have g3 : (q : Int) < (kn : Int) := by omega
       have g4 : (0 : Int) ≤ (q : Int) := by omega
       have g5 : (q : Int) ≤ 1000000 := by omega
       have f5 : (x != x) = false := by simp
       go_wp2_with fail
       go_quiet (fail)
       go_wp2_with fail
       refine ⟨⟨q + 1, by omega, by go_num, hid ⟨m1 + nq, by rw [HMM1.out, World.drewN_drewN]⟩⟩, by simp [intOf]; omega⟩
      ·obtain rfl : q = kn := by omega
       clear hm1 HQ2
       go_wp2_with fail
       refine ⟨⟨k + 1, by omega, by go_num, hid ⟨m1, HMM1.out⟩⟩, by simp [intOf]; omega⟩
    ·obtain rfl : k = qn := by omega
     have HBD := hid (show Below V.heap.size V wr by rw [HMM.out]; exact below_drewN (Below.refl _ V) m0)
     clear HMM
     have HM2 := hid (HM.out.low HBD.out)
     have HR2 := hid (row_kept HR.out (fun b e => HBD.out.block b (row_at HR.out e).2.1))
     have HO2 := hid (own_low HO.out HBD.out)
     have x3 : wr.cell? ⟨ba, 0, none⟩ = some (.slice va i ca) := cell_of_row _ _ 0 _ _ _ ((HBD.out.block ba (lt_blk XA1.out)).trans XA1.out)
     go_wp2_with fail
     refine (wipep_any HR2.out 99 0 ⟨#[63]⟩ (by omega) (by have h8 := HM2.out.size; have h9 := HSZ.out; have h10 := lt_blk XA.out; omega)).mono ?_
     rintro e Y1 ⟨rfl, hwp⟩
     have HM3 := hid (HM2.out.wp hwp HKA.out.2.1)
     have HO3 := hid (row_kept HO2.out (fun b e => hwp.block b (row_at HO2.out e).2.1 (fun e2 => type_ne HO2.out HR2.out (by decide) e e2)))
     clear hwp x1 x2 x3
     go_wp2_with fail
     have hwi := wipe_any HO3.out (-1) (by have h8 := HMS.out.2.1; omega) (by have h8 := HM3.out.size; have h9 := HSZ.out; have h10 := lt_blk XA.out; omega)
     refine hwi.mono ?_
     clear hwi
     rintro e Y2 ⟨rfl, hown, hwp⟩
     have HM4 := hid (HM3.out.wp hwp HKA.out.2.2)
     clear hown hwp
     have TC4 := hid (HM4.out.tre TC.out (by have := HSZ.out; omega))
     have TT4 := hid (HM4.out.tre TT.out (by have := HSZ.out; omega))
     have TB4 := hid (HM4.out.tre TB.out (by have := HSZ.out; omega))
     have TW4 := hid (HM4.out.tre TW.out (by have := HSZ.out; omega))
     have XB4 := hid (HM4.out.box XB.out (by have := HSZ.out; omega))
     have XC4 := hid (HM4.out.box XC.out (by have := HSZ.out; omega))
     have XW4 := hid (HM4.out.box XW.out (by have := HSZ.out; omega))
     have XT4 := hid (HM4.out.box XT.out (by have := HSZ.out; omega))
     have PB4 := hid (pl_of TB4.out.tree)
     have RB4 := hid (rd_of TB4.out.offs)
     have PW4 := hid (pl_of TW4.out.tree)
     have RW4 := hid (rd_of TW4.out.offs)
     have PC4 := hid (pl_of TC4.out.tree)
     have RC4 := hid (rd_of TC4.out.offs)
     have PT4 := hid (pl_of TT4.out.tree)
     have RT4 := hid (rd_of TT4.out.offs)
     have x1 : Y2.cell? ⟨bb, 0, none⟩ = some (.slice vb i cb) := cell_of_row _ _ 0 _ _ _ XB4.out
     have x2 : Y2.cell? ⟨bw, 0, none⟩ = some (.slice vw i cw) := cell_of_row _ _ 0 _ _ _ XW4.out
     go_wp2_with fail
     have hsm := same_tree vb vw (rdp src) cb cw Y2 PB4.out PW4.out HMS.out.1 HMS.out.2.2
     rw [← Hpn.out] at hsm
     refine hsm.mono ?_
     clear hsm x1 x2
     rintro e Y3 ⟨rfl, l⟩
     have HY3 := hid l
     clear l
     go_wp2_with fail
     have hsi := sints_yes ob ow (rdo src) db dw Y3 (RB4.out.low HY3.out (Nat.le_refl _)) (RW4.out.low HY3.out (Nat.le_refl _)) (by have h8 := HMS.out.2.1; omega)
     rw [← Hon.out] at hsi
     refine hsi.mono ?_
     clear hsi
     rintro e Y4 ⟨rfl, l⟩
     have HY4 := hid (HY3.out.trans (l.mono HY3.out.size))
     clear l
     have x1 : Y4.cell? ⟨bc, 0, none⟩ = some (.slice vc k cc) := cell_of_row _ _ 0 _ _ _ ((HY4.out.block bc (lt_blk XC4.out)).trans XC4.out)
     have x2 : Y4.cell? ⟨bt, 0, none⟩ = some (.slice vt k ct) := cell_of_row _ _ 0 _ _ _ ((HY4.out.block bt (lt_blk XT4.out)).trans XT4.out)
     go_wp2_with fail
     have hsm := same_tree vc vt (rdp oth) cc ct Y4 (PC4.out.low HY4.out) (PT4.out.low HY4.out) HMO.out.1 HMO.out.2.2
     rw [← Hqn.out] at hsm
     refine hsm.mono ?_
     clear hsm x1 x2
     rintro e Y5 ⟨rfl, l⟩
     have HY5 := hid (HY4.out.trans (l.mono HY4.out.size))
     clear l
     go_wp2_with fail
     have hsi := sints_yes oc ot (rdo oth) dc dt Y5 (RC4.out.low HY5.out (Nat.le_refl _)) (RT4.out.low HY5.out (Nat.le_refl _)) (by have h8 := HMO.out.2.1; omega)
     rw [← Hqm.out] at hsi
     refine hsi.mono ?_
     clear hsi
     rintro e Y6 ⟨rfl, l⟩
     have HY6 := hid (HY5.out.trans (l.mono HY5.out.size))
     clear l
     have HM6 := hid (HM4.out.low HY6.out)
     have TB6 := hid (TB4.out.low HY6.out)
     have TW6 := hid (TW4.out.low HY6.out)
     have XB6 := hid ((HY6.out.block bb (lt_blk XB4.out)).trans XB4.out)
     have XW6 := hid ((HY6.out.block bw (lt_blk XW4.out)).trans XW4.out)
     have HB6 := hid (HM6.out.below HLWb.out (by have := HSZ.out; omega))
     have HRB := hid (show Y6.ownsRow Bb 46 4 (.slice vb i cb) i (CP (rdp src) kb i) by have h8 := TB6.out.tree.row; rw [← Hpn.out] at h8; exact h8)
     clear HY3 HY4 HY5
     go_wp2_with fail
     go_loopw [23] (fun p wr => ∃ r : Nat, r ≤ i ∧ p = .int .i64 r ∧ Hid (Md Bb W4.heap.size Y6 wr) ∧ Hid (wr.ownsRow Bb 46 4 (.slice vb i cb) i (CP (rdp src) kb i)) ∧ Hid (∀ j, j < i → OwnI wr Bb (kb j) (wl (rdp src) r j))) (fun p _ => i - (intOf p).toNat)
     case atStart => exact ⟨0, Nat.zero_le _, rfl, hid (Md.refl _ _ _), HRB, hid (fun j hj => by rw [wl_ge (Nat.not_lt_zero _)]; exact TB6.out.tree.kids j (by rw [← Hpn.out]; exact hj))⟩
     case round =>
      obtain ⟨r, hr, rfl, HN, HRW, HKW⟩ := hrel
      have x1 : wr.cell? ⟨bb, 0, none⟩ = some (.slice vb i cb) := cell_of_row _ _ 0 _ _ _ (HN.out.box XB6.out (by have := HSZ.out; omega))
      by_cases hrl : r < i
      ·obtain ⟨g, hg, hgl, hgc⟩ := part_kid HRW.out hrl
       subst hg
       obtain ⟨kg, kc, hke⟩ := own_form (HKW.out r hrl)
       obtain ⟨kn, hkn⟩ : ∃ kn, kn = (wl (rdp src) r r).length := ⟨_, rfl⟩
       rw [← hkn] at hke
       have HKN := hid hkn
       rw [hke] at hgc
       have HKE := hid hke
       clear hke hkn
       have g1 : (r : Int) < (i : Int) := by omega
       have g0 : (0 : Int) ≤ (r : Int) := by omega
       have hw7 : IntKind.i64.wrap (-1000 - (r : Int)) = -1000 - (r : Int) := by (simp [IntKind.wrap, IntKind.bits, IntKind.signed]; omega)
       go_wp2_with fail
       have hwi := wipe_any (HKW.out r hrl) (-1000 - (r : Int)) (by rw [wl_len]; have h9 := HKM.out r hrl; omega) (by have h8 := HN.out.size; have h9 := HSZ.out; have h10 := lt_blk XB6.out; omega)
       rw [HKE.out] at hwi
       refine hwi.mono ?_
       clear hwi
       rintro e Y ⟨rfl, hown, hwp⟩
       rw [← HKE.out] at hwp hown
       have HWP := hid hwp
       have HOWN := hid hown
       clear hown hwp x1 hgc g1 g0 hw7
       have HNY := hid (HN.out.wp HWP.out (HKB.out r hrl))
       have HRY := hid (row_kept HRW.out (fun b e => HWP.out.block b (row_at HRW.out e).2.1 (fun e2 => type_ne HRW.out (HKW.out r hrl) (by decide) e e2)))
       have HKY := hid (show ∀ j, j < i → OwnI Y Bb (kb j) (wl (rdp src) (r + 1) j) from fun j hj => (by (by_cases hjr : j = r); (subst hjr; rw [wl_lt (by omega)]; have h8 := HOWN.out; rw [wl_len] at h8; exact h8); (have h9 : wl (rdp src) (r + 1) j = wl (rdp src) r j := (by (by_cases hj2 : j < r); (rw [wl_lt hj2, wl_lt (by omega)]); (rw [wl_ge hj2, wl_ge (by omega)])); rw [h9]; exact row_kept (HKW.out j hj) (fun b e => HWP.out.block b (row_at (HKW.out j hj) e).2.1 (fun e2 => HWb.out.two r j hrl hj (fun h => hjr h.symm) b e2 e)))))
       have TWY := hid (HNY.out.tre TW6.out (by have := HSZ.out; omega))
       have XBY := hid (HNY.out.box XB6.out (by have := HSZ.out; omega))
       have XWY := hid (HNY.out.box XW6.out (by have := HSZ.out; omega))
       have PWY := hid (pl_of TWY.out.tree)
       clear TWY
       go_wp2_with fail
       go_loopw [24] (fun p wr2 => ∃ k2 : Nat, k2 ≤ i ∧ p = .int .i64 k2 ∧ Hid (∃ m, wr2 = Y.drewN m)) (fun p _ => i - (intOf p).toNat)
       case atStart => exact ⟨0, Nat.zero_le _, rfl, hid ⟨0, rfl⟩⟩
       case round =>
        obtain ⟨k2, hk2, rfl, HQ⟩ := hrel
        obtain ⟨m0, hm0⟩ := HQ.out
        have HMM := hid hm0
        have x1 : wr.cell? ⟨bb, 0, none⟩ = some (.slice (some ⟨g, 0, none⟩) i cb) := by rw [hm0]; exact cell_of_row _ _ 0 _ _ _ XBY.out
        clear hm0 HQ
        by_cases hkl : k2 < i
        ·obtain ⟨g2, hg2, hgl2, hgc2⟩ := part_kid HRY.out hkl
         injection hg2 with hg2
         injection hg2 with hg2
         subst hg2
         obtain ⟨kg2, kc2, hke2⟩ := own_form (HKY.out k2 hkl)
         obtain ⟨kn2, hkn2⟩ : ∃ kn, kn = (wl (rdp src) (r + 1) k2).length := ⟨_, rfl⟩
         rw [← hkn2] at hke2
         have HKN2 := hid hkn2
         have hkb2 : kn2 ≤ 100000 := by rw [hkn2, wl_len]; exact HKM.out k2 hkl
         rw [hke2] at hgc2
         have HKE2 := hid hke2
         have HGC2 := hid hgc2
         clear hke2 hkn2 hgc2
         have hkm2 : kn2 ≤ maxLen := by unfold maxLen; omega
         have g1 : (k2 : Int) < (i : Int) := by omega
         have g0 : (0 : Int) ≤ (k2 : Int) := by omega
         rcases PWY.out with h9 | ⟨gb, pb, hvb, hgb, hcb⟩
         ·have := Hpn.out; omega
         obtain ⟨hb, kc3, _, _, _, r3, rkb⟩ := hcb k2 (by rw [← Hpn.out]; exact hkl)
         subst hvb
         have RKB := hid rkb
         have R3 := hid r3
         have HLE := hid (show kn2 = (pt (rdp src) k2).kids.length by rw [HKN2.out, wl_len])
         rw [← HLE.out] at R3
         clear hcb rkb r3
         go_wp2_with fail
         clear x1 g1 g0
         go_loopw [25] (fun p wr2 => ∃ q : Nat, q ≤ kn2 ∧ p = .int .i64 q ∧ Hid (∃ m, wr2 = Y.drewN m)) (fun p _ => kn2 - (intOf p).toNat)
         case atStart => exact ⟨0, Nat.zero_le _, rfl, hid ⟨m0, HMM.out⟩⟩
         case round =>
          obtain ⟨q, hq, rfl, HQ2⟩ := hrel
          obtain ⟨m1, hm1⟩ := HQ2.out
          have HMM1 := hid hm1
          have x1 : wr.cell? ⟨bb, 0, none⟩ = some (.slice (some ⟨g, 0, none⟩) i cb) := by rw [hm1]; exact cell_of_row _ _ 0 _ _ _ XBY.out
          have q3 : wr.cell? ⟨g, k2 * 4 + 3, none⟩ = some (.slice kg2 kn2 kc2) := by rw [hm1]; exact HGC2.out
          have g1 : (k2 : Int) < (i : Int) := by omega
          have g0 : (0 : Int) ≤ (k2 : Int) := by omega
          clear hm1 HQ2
          by_cases hqn : q < kn2
          ·obtain ⟨hg, hgc4, hv4, hgl4, hc4⟩ := own_at (HKY.out k2 hkl) (i := q) (by rw [← HKN2.out]; exact hqn)
           rw [HKE2.out, ← HKN2.out] at hv4
           injection hv4 with hv4 _ hv5
           subst hv4 hv5
           obtain ⟨x, hx⟩ : ∃ x, x = (wl (rdp src) (r + 1) k2).getD q 0 := ⟨_, rfl⟩
           rw [← hx] at hc4
           have HC4 := hid hc4
           have g3 : (q : Int) < (kn2 : Int) := by omega
           have g4 : (0 : Int) ≤ (q : Int) := by omega
           have g5 : (q : Int) ≤ 1000000 := by omega
           clear hc4
           by_cases hle : k2 ≤ r
           ·have hxe : x = -1000 - (k2 : Int) := by rw [hx, wl_lt (by omega)]; exact rep_get (by have h8 := HLE.out; omega)
            clear hx
            have d1 : decide ((k2 : Int) ≤ (r : Int)) = true := by simp; omega
            have d1n : decide (k2 ≤ r) = true := by simp; omega
            have d1m : k2 ≤ r := by omega
            have d2n : decide (r < k2) = false := by simp; omega
            have d2 : decide ((r : Int) < (k2 : Int)) = false := by simp; omega
            have hw8 : IntKind.i64.wrap (-1000 - (k2 : Int)) = -1000 - (k2 : Int) := by (simp [IntKind.wrap, IntKind.bits, IntKind.signed]; omega)
            have f5 : (x != -1000 - (k2 : Int)) = false := by rw [hxe]; simp
            clear hxe hle
            go_upto_region 34 with fail
            refine wp_region_held_drew (S := (fun Y => Y.cell? ⟨bb, 0, none⟩ = some (.slice (some ⟨g, 0, none⟩) i cb) ∧ Y.cell? ⟨g, k2 * 4 + 3, none⟩ = some (.slice (some ⟨hg, 0, none⟩) kn2 kc2) ∧ Y.cell? ⟨hg, q, none⟩ = some (.int .i64 x))) (by kernel_rfl) ?_ (fun hHeld => ?_)
            ·exact ⟨x1, q3, by rw [HMM1.out]; exact HC4.out⟩
            have HZN := hid (show ∃ m, wr.drew = Y.drewN m from ⟨m1 + 1, by rw [HMM1.out]; rfl⟩)
            generalize wr.drew = Z at *
            clear x1 q3
            refine wpAnyH_take (i := 0) (oi := { dst := some 191, op := Op.move (Operand.tmp 24), type := 3, pos := "law.go:347", after := #[], guard := none }) (v := ?_) rfl (by kernel_rfl) (by kernel_rfl) (by kernel_rfl) (fun _ _ _ h => h) (Or.inl ⟨by rfl, ?_⟩) (by assumption) ?_
            rotate_left
            ·(intro w hSw; (try dsimp only at hSw); go_simp; try with_reducible rfl)
            try simp only [Act.put, List.setIfInBounds_toArray, List.set_cons_zero, List.set_cons_succ]
            refine wpAnyH_take (i := 1) (oi := { dst := some 192, op := Op.move (Operand.tmp 23), type := 3, pos := "law.go:347", after := #[], guard := none }) (v := ?_) rfl (by kernel_rfl) (by kernel_rfl) (by kernel_rfl) (fun _ _ _ h => h) (Or.inl ⟨by rfl, ?_⟩) (by assumption) ?_
            rotate_left
            ·(intro w hSw; (try dsimp only at hSw); go_simp; try with_reducible rfl)
            try simp only [Act.put, List.setIfInBounds_toArray, List.set_cons_zero, List.set_cons_succ]
            refine wpAnyH_take (i := 2) (oi := { dst := some 193, op := Op.binOp BinOp.leq 3 (Operand.tmp 191) (Operand.tmp 192) 3, type := 4, pos := "law.go:347", after := #[{ on := 0, ground := Ground.data }, { on := 1, ground := Ground.data }], guard := none }) (v := ?_) rfl (by kernel_rfl) (by kernel_rfl) (by kernel_rfl) (fun _ _ _ h => h) (Or.inl ⟨by rfl, ?_⟩) (by assumption) ?_
            rotate_left
            ·(intro w hSw; (try dsimp only at hSw); go_simp; try with_reducible rfl)
            try simp only [Act.put, List.setIfInBounds_toArray, List.set_cons_zero, List.set_cons_succ]
            refine wpAnyH_take (i := 3) (oi := { dst := some 194, op := Op.move (Operand.tmp 193), type := 4, pos := "law.go:347", after := #[{ on := 2, ground := Ground.data }], guard := none }) (v := ?_) rfl (by kernel_rfl) (by kernel_rfl) (by kernel_rfl) (fun _ _ _ h => h) (Or.inl ⟨by rfl, ?_⟩) (by assumption) ?_
            rotate_left
            ·(intro w hSw; (try dsimp only at hSw); go_simp; try with_reducible rfl)
            try simp only [Act.put, List.setIfInBounds_toArray, List.set_cons_zero, List.set_cons_succ]
            refine wpAnyH_take (i := 4) (oi := { dst := some 195, op := Op.fieldAddr 25 (Operand.tmp 8) 0, type := 0, pos := "law.go:347", after := #[{ on := 3, ground := Ground.guard }], guard := some (3, true) }) (v := ?_) rfl (by kernel_rfl) (by kernel_rfl) (by kernel_rfl) (fun _ _ _ h => h) (Or.inl ⟨by rfl, ?_⟩) (by assumption) ?_
            rotate_left
            ·(intro w hSw; (try dsimp only at hSw); go_simp; try with_reducible rfl)
            try simp only [Act.put, List.setIfInBounds_toArray, List.set_cons_zero, List.set_cons_succ]
            refine wpAnyH_take (i := 5) (oi := { dst := some 196, op := Op.load 23 (Operand.tmp 195), type := 23, pos := "law.go:347", after := #[{ on := 4, ground := Ground.data }, { on := 3, ground := Ground.guard }], guard := some (3, true) }) (v := ?_) rfl (by kernel_rfl) (by kernel_rfl) (by kernel_rfl) (fun _ _ _ h => h) (Or.inl ⟨by rfl, ?_⟩) (by assumption) ?_
            rotate_left
            ·(intro w hSw; (try dsimp only at hSw); go_simp; try with_reducible rfl)
            try simp only [Act.put, List.setIfInBounds_toArray, List.set_cons_zero, List.set_cons_succ]
            refine wpAnyH_take (i := 6) (oi := { dst := some 197, op := Op.move (Operand.tmp 24), type := 3, pos := "law.go:347", after := #[{ on := 3, ground := Ground.guard }], guard := some (3, true) }) (v := ?_) rfl (by kernel_rfl) (by kernel_rfl) (by kernel_rfl) (fun _ _ _ h => h) (Or.inl ⟨by rfl, ?_⟩) (by assumption) ?_
            rotate_left
            ·(intro w hSw; (try dsimp only at hSw); go_simp; try with_reducible rfl)
            try simp only [Act.put, List.setIfInBounds_toArray, List.set_cons_zero, List.set_cons_succ]
            refine wpAnyH_take (i := 7) (oi := { dst := some 198, op := Op.indexAddr 23 (Operand.tmp 196) (Operand.tmp 197), type := 0, pos := "law.go:347", after := #[{ on := 5, ground := Ground.data }, { on := 6, ground := Ground.data }, { on := 3, ground := Ground.guard }], guard := some (3, true) }) (v := ?_) rfl (by kernel_rfl) (by kernel_rfl) (by kernel_rfl) (fun _ _ _ h => h) (Or.inl ⟨by rfl, ?_⟩) (by assumption) ?_
            rotate_left
            ·(intro w hSw; (try dsimp only at hSw); go_simp; try with_reducible rfl)
            try simp only [Act.put, List.setIfInBounds_toArray, List.set_cons_zero, List.set_cons_succ]
            refine wpAnyH_take (i := 8) (oi := { dst := some 199, op := Op.fieldAddr 46 (Operand.tmp 198) 3, type := 0, pos := "law.go:347", after := #[{ on := 7, ground := Ground.data }, { on := 3, ground := Ground.guard }], guard := some (3, true) }) (v := ?_) rfl (by kernel_rfl) (by kernel_rfl) (by kernel_rfl) (fun _ _ _ h => h) (Or.inl ⟨by rfl, ?_⟩) (by assumption) ?_
            rotate_left
            ·(intro w hSw; (try dsimp only at hSw); go_simp; try with_reducible rfl)
            try simp only [Act.put, List.setIfInBounds_toArray, List.set_cons_zero, List.set_cons_succ]
            refine wpAnyH_take (i := 9) (oi := { dst := some 200, op := Op.load 26 (Operand.tmp 199), type := 26, pos := "law.go:347", after := #[{ on := 8, ground := Ground.data }, { on := 3, ground := Ground.guard }], guard := some (3, true) }) (v := ?_) rfl (by kernel_rfl) (by kernel_rfl) (by kernel_rfl) (fun _ _ _ h => h) (Or.inl ⟨by rfl, ?_⟩) (by assumption) ?_
            rotate_left
            ·(intro w hSw; (try dsimp only at hSw); go_simp; try with_reducible rfl)
            try simp only [Act.put, List.setIfInBounds_toArray, List.set_cons_zero, List.set_cons_succ]
            refine wpAnyH_take (i := 10) (oi := { dst := some 201, op := Op.move (Operand.tmp 25), type := 3, pos := "law.go:347", after := #[{ on := 3, ground := Ground.guard }], guard := some (3, true) }) (v := ?_) rfl (by kernel_rfl) (by kernel_rfl) (by kernel_rfl) (fun _ _ _ h => h) (Or.inl ⟨by rfl, ?_⟩) (by assumption) ?_
            rotate_left
            ·(intro w hSw; (try dsimp only at hSw); go_simp; try with_reducible rfl)
            try simp only [Act.put, List.setIfInBounds_toArray, List.set_cons_zero, List.set_cons_succ]
            refine wpAnyH_take (i := 11) (oi := { dst := some 202, op := Op.indexAddr 26 (Operand.tmp 200) (Operand.tmp 201), type := 0, pos := "law.go:347", after := #[{ on := 9, ground := Ground.data }, { on := 10, ground := Ground.data }, { on := 3, ground := Ground.guard }], guard := some (3, true) }) (v := ?_) rfl (by kernel_rfl) (by kernel_rfl) (by kernel_rfl) (fun _ _ _ h => h) (Or.inl ⟨by rfl, ?_⟩) (by assumption) ?_
            rotate_left
            ·(intro w hSw; (try dsimp only at hSw); go_simp; try with_reducible rfl)
            try simp only [Act.put, List.setIfInBounds_toArray, List.set_cons_zero, List.set_cons_succ]
            refine wpAnyH_take (i := 12) (oi := { dst := some 203, op := Op.load 3 (Operand.tmp 202), type := 3, pos := "law.go:347", after := #[{ on := 11, ground := Ground.data }, { on := 3, ground := Ground.guard }], guard := some (3, true) }) (v := ?_) rfl (by kernel_rfl) (by kernel_rfl) (by kernel_rfl) (fun _ _ _ h => h) (Or.inl ⟨by rfl, ?_⟩) (by assumption) ?_
            rotate_left
            ·(intro w hSw; (try dsimp only at hSw); go_simp; try with_reducible rfl)
            try simp only [Act.put, List.setIfInBounds_toArray, List.set_cons_zero, List.set_cons_succ]
            refine wpAnyH_take (i := 13) (oi := { dst := some 204, op := Op.move (Operand.tmp 24), type := 3, pos := "law.go:347", after := #[{ on := 3, ground := Ground.guard }], guard := some (3, true) }) (v := ?_) rfl (by kernel_rfl) (by kernel_rfl) (by kernel_rfl) (fun _ _ _ h => h) (Or.inl ⟨by rfl, ?_⟩) (by assumption) ?_
            rotate_left
            ·(intro w hSw; (try dsimp only at hSw); go_simp; try with_reducible rfl)
            try simp only [Act.put, List.setIfInBounds_toArray, List.set_cons_zero, List.set_cons_succ]
            refine wpAnyH_take (i := 14) (oi := { dst := some 205, op := Op.binOp BinOp.sub 3 (Operand.const (Value.int IntKind.i64 (-1000))) (Operand.tmp 204) 3, type := 3, pos := "law.go:347", after := #[{ on := 13, ground := Ground.data }, { on := 3, ground := Ground.guard }], guard := some (3, true) }) (v := ?_) rfl (by kernel_rfl) (by kernel_rfl) (by kernel_rfl) (fun _ _ _ h => h) (Or.inl ⟨by rfl, ?_⟩) (by assumption) ?_
            rotate_left
            ·(intro w hSw; (try dsimp only at hSw); go_simp; try with_reducible rfl)
            try simp only [Act.put, List.setIfInBounds_toArray, List.set_cons_zero, List.set_cons_succ]
            refine wpAnyH_take (i := 15) (oi := { dst := some 206, op := Op.binOp BinOp.neq 3 (Operand.tmp 203) (Operand.tmp 205) 3, type := 4, pos := "law.go:347", after := #[{ on := 12, ground := Ground.data }, { on := 14, ground := Ground.data }, { on := 3, ground := Ground.guard }], guard := some (3, true) }) (v := ?_) rfl (by kernel_rfl) (by kernel_rfl) (by kernel_rfl) (fun _ _ _ h => h) (Or.inl ⟨by rfl, ?_⟩) (by assumption) ?_
            rotate_left
            ·(intro w hSw; (try dsimp only at hSw); go_simp; try with_reducible rfl)
            try simp only [Act.put, List.setIfInBounds_toArray, List.set_cons_zero, List.set_cons_succ]
            refine wpAnyH_take (i := 16) (oi := { dst := some 207, op := Op.pick (Operand.tmp 194) (Operand.tmp 206) (Operand.const (Value.bool false)), type := 4, pos := "law.go:347", after := #[{ on := 3, ground := Ground.data }, { on := 15, ground := Ground.data }], guard := none }) (v := ?_) rfl (by kernel_rfl) (by kernel_rfl) (by kernel_rfl) (fun _ _ _ h => h) (Or.inl ⟨by rfl, ?_⟩) (by assumption) ?_
            rotate_left
            ·(intro w hSw; (try dsimp only at hSw); go_simp; try with_reducible rfl)
            try simp only [Act.put, List.setIfInBounds_toArray, List.set_cons_zero, List.set_cons_succ]
            refine wpAnyH_take (i := 17) (oi := { dst := some 208, op := Op.move (Operand.tmp 207), type := 4, pos := "law.go:347", after := #[{ on := 16, ground := Ground.data }, { on := 3, ground := Ground.chain }], guard := none }) (v := ?_) rfl (by kernel_rfl) (by kernel_rfl) (by kernel_rfl) (fun _ _ _ h => h) (Or.inl ⟨by rfl, ?_⟩) (by assumption) ?_
            rotate_left
            ·(intro w hSw; (try dsimp only at hSw); go_simp; try with_reducible rfl)
            try simp only [Act.put, List.setIfInBounds_toArray, List.set_cons_zero, List.set_cons_succ]
            refine wpAnyH_take (i := 18) (oi := { dst := some 209, op := Op.move (Operand.tmp 24), type := 3, pos := "law.go:347", after := #[{ on := 17, ground := Ground.guard }], guard := some (17, false) }) (v := ?_) rfl (by kernel_rfl) (by kernel_rfl) (by kernel_rfl) (fun _ _ _ h => h) (Or.inl ⟨by rfl, ?_⟩) (by assumption) ?_
            rotate_left
            ·(intro w hSw; (try dsimp only at hSw); go_simp; try with_reducible rfl)
            try simp only [Act.put, List.setIfInBounds_toArray, List.set_cons_zero, List.set_cons_succ]
            refine wpAnyH_take (i := 19) (oi := { dst := some 210, op := Op.move (Operand.tmp 23), type := 3, pos := "law.go:347", after := #[{ on := 17, ground := Ground.guard }], guard := some (17, false) }) (v := ?_) rfl (by kernel_rfl) (by kernel_rfl) (by kernel_rfl) (fun _ _ _ h => h) (Or.inl ⟨by rfl, ?_⟩) (by assumption) ?_
            rotate_left
            ·(intro w hSw; (try dsimp only at hSw); go_simp; try with_reducible rfl)
            try simp only [Act.put, List.setIfInBounds_toArray, List.set_cons_zero, List.set_cons_succ]
            refine wpAnyH_take (i := 20) (oi := { dst := some 211, op := Op.binOp BinOp.gtr 3 (Operand.tmp 209) (Operand.tmp 210) 3, type := 4, pos := "law.go:347", after := #[{ on := 18, ground := Ground.data }, { on := 19, ground := Ground.data }, { on := 17, ground := Ground.guard }], guard := some (17, false) }) (v := ?_) rfl (by kernel_rfl) (by kernel_rfl) (by kernel_rfl) (fun _ _ _ h => h) (Or.inl ⟨by rfl, ?_⟩) (by assumption) ?_
            rotate_left
            ·(intro w hSw; (try dsimp only at hSw); go_simp; try with_reducible rfl)
            try simp only [Act.put, List.setIfInBounds_toArray, List.set_cons_zero, List.set_cons_succ]
            refine wpAnyH_take (i := 21) (oi := { dst := some 212, op := Op.move (Operand.tmp 211), type := 4, pos := "law.go:347", after := #[{ on := 20, ground := Ground.data }, { on := 17, ground := Ground.chain }, { on := 17, ground := Ground.guard }], guard := some (17, false) }) (v := ?_) rfl (by kernel_rfl) (by kernel_rfl) (by kernel_rfl) (fun _ _ _ h => h) (Or.inl ⟨by rfl, ?_⟩) (by assumption) ?_
            rotate_left
            ·(intro w hSw; (try dsimp only at hSw); go_simp; try with_reducible rfl)
            try simp only [Act.put, List.setIfInBounds_toArray, List.set_cons_zero, List.set_cons_succ]
            refine wpAnyH_take (i := 22) (oi := { dst := some 213, op := Op.fieldAddr 25 (Operand.tmp 8) 0, type := 0, pos := "law.go:347", after := #[{ on := 21, ground := Ground.guard }], guard := some (21, true) }) (v := undef) rfl (by kernel_rfl) (by kernel_rfl) (by kernel_rfl) (fun _ _ _ h => h) (Or.inr ⟨by rfl, rfl⟩) (by assumption) ?_
            try simp only [Act.put, List.setIfInBounds_toArray, List.set_cons_zero, List.set_cons_succ]
            refine wpAnyH_take (i := 23) (oi := { dst := some 214, op := Op.load 23 (Operand.tmp 213), type := 23, pos := "law.go:347", after := #[{ on := 22, ground := Ground.data }, { on := 21, ground := Ground.guard }], guard := some (21, true) }) (v := undef) rfl (by kernel_rfl) (by kernel_rfl) (by kernel_rfl) (fun _ _ _ h => h) (Or.inr ⟨by rfl, rfl⟩) (by assumption) ?_
            try simp only [Act.put, List.setIfInBounds_toArray, List.set_cons_zero, List.set_cons_succ]
            refine wpAnyH_take (i := 24) (oi := { dst := some 215, op := Op.move (Operand.tmp 24), type := 3, pos := "law.go:347", after := #[{ on := 21, ground := Ground.guard }], guard := some (21, true) }) (v := undef) rfl (by kernel_rfl) (by kernel_rfl) (by kernel_rfl) (fun _ _ _ h => h) (Or.inr ⟨by rfl, rfl⟩) (by assumption) ?_
            try simp only [Act.put, List.setIfInBounds_toArray, List.set_cons_zero, List.set_cons_succ]
            refine wpAnyH_take (i := 25) (oi := { dst := some 216, op := Op.indexAddr 23 (Operand.tmp 214) (Operand.tmp 215), type := 0, pos := "law.go:347", after := #[{ on := 23, ground := Ground.data }, { on := 24, ground := Ground.data }, { on := 21, ground := Ground.guard }], guard := some (21, true) }) (v := undef) rfl (by kernel_rfl) (by kernel_rfl) (by kernel_rfl) (fun _ _ _ h => h) (Or.inr ⟨by rfl, rfl⟩) (by assumption) ?_
            try simp only [Act.put, List.setIfInBounds_toArray, List.set_cons_zero, List.set_cons_succ]
            refine wpAnyH_take (i := 26) (oi := { dst := some 217, op := Op.fieldAddr 46 (Operand.tmp 216) 3, type := 0, pos := "law.go:347", after := #[{ on := 25, ground := Ground.data }, { on := 21, ground := Ground.guard }], guard := some (21, true) }) (v := undef) rfl (by kernel_rfl) (by kernel_rfl) (by kernel_rfl) (fun _ _ _ h => h) (Or.inr ⟨by rfl, rfl⟩) (by assumption) ?_
            try simp only [Act.put, List.setIfInBounds_toArray, List.set_cons_zero, List.set_cons_succ]
            refine wpAnyH_take (i := 27) (oi := { dst := some 218, op := Op.load 26 (Operand.tmp 217), type := 26, pos := "law.go:347", after := #[{ on := 26, ground := Ground.data }, { on := 21, ground := Ground.guard }], guard := some (21, true) }) (v := undef) rfl (by kernel_rfl) (by kernel_rfl) (by kernel_rfl) (fun _ _ _ h => h) (Or.inr ⟨by rfl, rfl⟩) (by assumption) ?_
            try simp only [Act.put, List.setIfInBounds_toArray, List.set_cons_zero, List.set_cons_succ]
            refine wpAnyH_take (i := 28) (oi := { dst := some 219, op := Op.move (Operand.tmp 25), type := 3, pos := "law.go:347", after := #[{ on := 21, ground := Ground.guard }], guard := some (21, true) }) (v := undef) rfl (by kernel_rfl) (by kernel_rfl) (by kernel_rfl) (fun _ _ _ h => h) (Or.inr ⟨by rfl, rfl⟩) (by assumption) ?_
            try simp only [Act.put, List.setIfInBounds_toArray, List.set_cons_zero, List.set_cons_succ]
            refine wpAnyH_take (i := 29) (oi := { dst := some 220, op := Op.indexAddr 26 (Operand.tmp 218) (Operand.tmp 219), type := 0, pos := "law.go:347", after := #[{ on := 27, ground := Ground.data }, { on := 28, ground := Ground.data }, { on := 21, ground := Ground.guard }], guard := some (21, true) }) (v := undef) rfl (by kernel_rfl) (by kernel_rfl) (by kernel_rfl) (fun _ _ _ h => h) (Or.inr ⟨by rfl, rfl⟩) (by assumption) ?_
            try simp only [Act.put, List.setIfInBounds_toArray, List.set_cons_zero, List.set_cons_succ]
            refine wpAnyH_take (i := 30) (oi := { dst := some 221, op := Op.load 3 (Operand.tmp 220), type := 3, pos := "law.go:347", after := #[{ on := 29, ground := Ground.data }, { on := 21, ground := Ground.guard }], guard := some (21, true) }) (v := undef) rfl (by kernel_rfl) (by kernel_rfl) (by kernel_rfl) (fun _ _ _ h => h) (Or.inr ⟨by rfl, rfl⟩) (by assumption) ?_
            try simp only [Act.put, List.setIfInBounds_toArray, List.set_cons_zero, List.set_cons_succ]
            refine wpAnyH_take (i := 31) (oi := { dst := some 222, op := Op.fieldAddr 25 (Operand.tmp 14) 0, type := 0, pos := "law.go:347", after := #[{ on := 21, ground := Ground.guard }], guard := some (21, true) }) (v := undef) rfl (by kernel_rfl) (by kernel_rfl) (by kernel_rfl) (fun _ _ _ h => h) (Or.inr ⟨by rfl, rfl⟩) (by assumption) ?_
            try simp only [Act.put, List.setIfInBounds_toArray, List.set_cons_zero, List.set_cons_succ]
            refine wpAnyH_take (i := 32) (oi := { dst := some 223, op := Op.load 23 (Operand.tmp 222), type := 23, pos := "law.go:347", after := #[{ on := 31, ground := Ground.data }, { on := 21, ground := Ground.guard }], guard := some (21, true) }) (v := undef) rfl (by kernel_rfl) (by kernel_rfl) (by kernel_rfl) (fun _ _ _ h => h) (Or.inr ⟨by rfl, rfl⟩) (by assumption) ?_
            try simp only [Act.put, List.setIfInBounds_toArray, List.set_cons_zero, List.set_cons_succ]
            refine wpAnyH_take (i := 33) (oi := { dst := some 224, op := Op.move (Operand.tmp 24), type := 3, pos := "law.go:347", after := #[{ on := 21, ground := Ground.guard }], guard := some (21, true) }) (v := undef) rfl (by kernel_rfl) (by kernel_rfl) (by kernel_rfl) (fun _ _ _ h => h) (Or.inr ⟨by rfl, rfl⟩) (by assumption) ?_
            try simp only [Act.put, List.setIfInBounds_toArray, List.set_cons_zero, List.set_cons_succ]
            refine wpAnyH_take (i := 34) (oi := { dst := some 225, op := Op.indexAddr 23 (Operand.tmp 223) (Operand.tmp 224), type := 0, pos := "law.go:347", after := #[{ on := 32, ground := Ground.data }, { on := 33, ground := Ground.data }, { on := 21, ground := Ground.guard }], guard := some (21, true) }) (v := undef) rfl (by kernel_rfl) (by kernel_rfl) (by kernel_rfl) (fun _ _ _ h => h) (Or.inr ⟨by rfl, rfl⟩) (by assumption) ?_
            try simp only [Act.put, List.setIfInBounds_toArray, List.set_cons_zero, List.set_cons_succ]
            refine wpAnyH_take (i := 35) (oi := { dst := some 226, op := Op.fieldAddr 46 (Operand.tmp 225) 3, type := 0, pos := "law.go:347", after := #[{ on := 34, ground := Ground.data }, { on := 21, ground := Ground.guard }], guard := some (21, true) }) (v := undef) rfl (by kernel_rfl) (by kernel_rfl) (by kernel_rfl) (fun _ _ _ h => h) (Or.inr ⟨by rfl, rfl⟩) (by assumption) ?_
            try simp only [Act.put, List.setIfInBounds_toArray, List.set_cons_zero, List.set_cons_succ]
            refine wpAnyH_take (i := 36) (oi := { dst := some 227, op := Op.load 26 (Operand.tmp 226), type := 26, pos := "law.go:347", after := #[{ on := 35, ground := Ground.data }, { on := 21, ground := Ground.guard }], guard := some (21, true) }) (v := undef) rfl (by kernel_rfl) (by kernel_rfl) (by kernel_rfl) (fun _ _ _ h => h) (Or.inr ⟨by rfl, rfl⟩) (by assumption) ?_
            try simp only [Act.put, List.setIfInBounds_toArray, List.set_cons_zero, List.set_cons_succ]
            refine wpAnyH_take (i := 37) (oi := { dst := some 228, op := Op.move (Operand.tmp 25), type := 3, pos := "law.go:347", after := #[{ on := 21, ground := Ground.guard }], guard := some (21, true) }) (v := undef) rfl (by kernel_rfl) (by kernel_rfl) (by kernel_rfl) (fun _ _ _ h => h) (Or.inr ⟨by rfl, rfl⟩) (by assumption) ?_
            try simp only [Act.put, List.setIfInBounds_toArray, List.set_cons_zero, List.set_cons_succ]
            refine wpAnyH_take (i := 38) (oi := { dst := some 229, op := Op.indexAddr 26 (Operand.tmp 227) (Operand.tmp 228), type := 0, pos := "law.go:347", after := #[{ on := 36, ground := Ground.data }, { on := 37, ground := Ground.data }, { on := 21, ground := Ground.guard }], guard := some (21, true) }) (v := undef) rfl (by kernel_rfl) (by kernel_rfl) (by kernel_rfl) (fun _ _ _ h => h) (Or.inr ⟨by rfl, rfl⟩) (by assumption) ?_
            try simp only [Act.put, List.setIfInBounds_toArray, List.set_cons_zero, List.set_cons_succ]
            refine wpAnyH_take (i := 39) (oi := { dst := some 230, op := Op.load 3 (Operand.tmp 229), type := 3, pos := "law.go:347", after := #[{ on := 38, ground := Ground.data }, { on := 21, ground := Ground.guard }], guard := some (21, true) }) (v := undef) rfl (by kernel_rfl) (by kernel_rfl) (by kernel_rfl) (fun _ _ _ h => h) (Or.inr ⟨by rfl, rfl⟩) (by assumption) ?_
            try simp only [Act.put, List.setIfInBounds_toArray, List.set_cons_zero, List.set_cons_succ]
            refine wpAnyH_take (i := 40) (oi := { dst := some 231, op := Op.binOp BinOp.neq 3 (Operand.tmp 221) (Operand.tmp 230) 3, type := 4, pos := "law.go:347", after := #[{ on := 30, ground := Ground.data }, { on := 39, ground := Ground.data }, { on := 21, ground := Ground.guard }], guard := some (21, true) }) (v := undef) rfl (by kernel_rfl) (by kernel_rfl) (by kernel_rfl) (fun _ _ _ h => h) (Or.inr ⟨by rfl, rfl⟩) (by assumption) ?_
            try simp only [Act.put, List.setIfInBounds_toArray, List.set_cons_zero, List.set_cons_succ]
            refine wpAnyH_take (i := 41) (oi := { dst := some 232, op := Op.pick (Operand.tmp 212) (Operand.tmp 231) (Operand.const (Value.bool false)), type := 4, pos := "law.go:347", after := #[{ on := 21, ground := Ground.data }, { on := 40, ground := Ground.data }, { on := 17, ground := Ground.guard }], guard := some (17, false) }) (v := ?_) rfl (by kernel_rfl) (by kernel_rfl) (by kernel_rfl) (fun _ _ _ h => h) (Or.inl ⟨by rfl, ?_⟩) (by assumption) ?_
            rotate_left
            ·(intro w hSw; (try dsimp only at hSw); go_simp; try with_reducible rfl)
            try simp only [Act.put, List.setIfInBounds_toArray, List.set_cons_zero, List.set_cons_succ]
            refine wpAnyH_take (i := 42) (oi := { dst := some 233, op := Op.pick (Operand.tmp 208) (Operand.const (Value.bool true)) (Operand.tmp 232), type := 4, pos := "law.go:347", after := #[{ on := 17, ground := Ground.data }, { on := 41, ground := Ground.data }], guard := none }) (v := ?_) rfl (by kernel_rfl) (by kernel_rfl) (by kernel_rfl) (fun _ _ _ h => h) (Or.inl ⟨by rfl, ?_⟩) (by assumption) ?_
            rotate_left
            ·(intro w hSw; (try dsimp only at hSw); go_simp; try with_reducible rfl)
            try simp only [Act.put, List.setIfInBounds_toArray, List.set_cons_zero, List.set_cons_succ]
            refine wpAnyH_done (by kernel_rfl) ?_ _
            clear hHeld
            go_wp2_with fail
            refine ⟨⟨q + 1, by omega, by go_num, hid HZN.out⟩, by simp [intOf]; omega⟩
           ·have hxe : x = (pt (rdp src) k2).kids.getD q 0 := by rw [hx, wl_ge (by omega)]
            clear hx
            rcases RKB.out with h9 | ⟨hg2, pg2, rfl, hbl, hbc⟩
            ·have := HLE.out; omega
            have p1 : Y.cell? ⟨hg2, pg2 + q, none⟩ = some (.int .i64 x) := by rw [hxe]; exact hbc q (by rw [← HLE.out]; exact hqn)
            clear hbc hxe
            have d1 : decide ((k2 : Int) ≤ (r : Int)) = false := by simp; omega
            have d1n : decide (k2 ≤ r) = false := by simp; omega
            have d1m : ¬ k2 ≤ r := by omega
            have d2n : decide (r < k2) = true := by simp; omega
            have d2m : r < k2 := by omega
            have d2 : decide ((r : Int) < (k2 : Int)) = true := by simp; omega
            have f5 : (x != x) = false := by simp
            clear hle
            go_upto_region 34 with fail
            refine wp_region_held_drew (S := (fun Y => Y.cell? ⟨bb, 0, none⟩ = some (.slice (some ⟨g, 0, none⟩) i cb) ∧ Y.cell? ⟨g, k2 * 4 + 3, none⟩ = some (.slice (some ⟨hg, 0, none⟩) kn2 kc2) ∧ Y.cell? ⟨hg, q, none⟩ = some (.int .i64 x) ∧ Y.cell? ⟨bw, 0, none⟩ = some (.slice (some ⟨gb, pb, none⟩) i cw) ∧ Y.cell? ⟨gb, pb + k2 * 4 + 3, none⟩ = some (.slice (some ⟨hg2, pg2, none⟩) kn2 kc3) ∧ Y.cell? ⟨hg2, pg2 + q, none⟩ = some (.int .i64 x))) (by kernel_rfl) ?_ (fun hHeld => ?_)
            ·exact ⟨x1, q3, by rw [HMM1.out]; exact HC4.out, by rw [HMM1.out]; exact cell_of_row _ _ 0 _ _ _ XWY.out, by rw [HMM1.out]; exact R3.out, by rw [HMM1.out]; exact p1⟩
            have HZN := hid (show ∃ m, wr.drew = Y.drewN m from ⟨m1 + 1, by rw [HMM1.out]; rfl⟩)
            generalize wr.drew = Z at *
            clear x1 q3 p1
            refine wpAnyH_take (i := 0) (oi := { dst := some 191, op := Op.move (Operand.tmp 24), type := 3, pos := "law.go:347", after := #[], guard := none }) (v := ?_) rfl (by kernel_rfl) (by kernel_rfl) (by kernel_rfl) (fun _ _ _ h => h) (Or.inl ⟨by rfl, ?_⟩) (by assumption) ?_
            rotate_left
            ·(intro w hSw; (try dsimp only at hSw); go_simp; try with_reducible rfl)
            try simp only [Act.put, List.setIfInBounds_toArray, List.set_cons_zero, List.set_cons_succ]
            refine wpAnyH_take (i := 1) (oi := { dst := some 192, op := Op.move (Operand.tmp 23), type := 3, pos := "law.go:347", after := #[], guard := none }) (v := ?_) rfl (by kernel_rfl) (by kernel_rfl) (by kernel_rfl) (fun _ _ _ h => h) (Or.inl ⟨by rfl, ?_⟩) (by assumption) ?_
            rotate_left
            ·(intro w hSw; (try dsimp only at hSw); go_simp; try with_reducible rfl)
            try simp only [Act.put, List.setIfInBounds_toArray, List.set_cons_zero, List.set_cons_succ]
            refine wpAnyH_take (i := 2) (oi := { dst := some 193, op := Op.binOp BinOp.leq 3 (Operand.tmp 191) (Operand.tmp 192) 3, type := 4, pos := "law.go:347", after := #[{ on := 0, ground := Ground.data }, { on := 1, ground := Ground.data }], guard := none }) (v := ?_) rfl (by kernel_rfl) (by kernel_rfl) (by kernel_rfl) (fun _ _ _ h => h) (Or.inl ⟨by rfl, ?_⟩) (by assumption) ?_
            rotate_left
            ·(intro w hSw; (try dsimp only at hSw); go_simp; try with_reducible rfl)
            try simp only [Act.put, List.setIfInBounds_toArray, List.set_cons_zero, List.set_cons_succ]
            refine wpAnyH_take (i := 3) (oi := { dst := some 194, op := Op.move (Operand.tmp 193), type := 4, pos := "law.go:347", after := #[{ on := 2, ground := Ground.data }], guard := none }) (v := ?_) rfl (by kernel_rfl) (by kernel_rfl) (by kernel_rfl) (fun _ _ _ h => h) (Or.inl ⟨by rfl, ?_⟩) (by assumption) ?_
            rotate_left
            ·(intro w hSw; (try dsimp only at hSw); go_simp; try with_reducible rfl)
            try simp only [Act.put, List.setIfInBounds_toArray, List.set_cons_zero, List.set_cons_succ]
            refine wpAnyH_take (i := 4) (oi := { dst := some 195, op := Op.fieldAddr 25 (Operand.tmp 8) 0, type := 0, pos := "law.go:347", after := #[{ on := 3, ground := Ground.guard }], guard := some (3, true) }) (v := undef) rfl (by kernel_rfl) (by kernel_rfl) (by kernel_rfl) (fun _ _ _ h => h) (Or.inr ⟨by rfl, rfl⟩) (by assumption) ?_
            try simp only [Act.put, List.setIfInBounds_toArray, List.set_cons_zero, List.set_cons_succ]
            refine wpAnyH_take (i := 5) (oi := { dst := some 196, op := Op.load 23 (Operand.tmp 195), type := 23, pos := "law.go:347", after := #[{ on := 4, ground := Ground.data }, { on := 3, ground := Ground.guard }], guard := some (3, true) }) (v := undef) rfl (by kernel_rfl) (by kernel_rfl) (by kernel_rfl) (fun _ _ _ h => h) (Or.inr ⟨by rfl, rfl⟩) (by assumption) ?_
            try simp only [Act.put, List.setIfInBounds_toArray, List.set_cons_zero, List.set_cons_succ]
            refine wpAnyH_take (i := 6) (oi := { dst := some 197, op := Op.move (Operand.tmp 24), type := 3, pos := "law.go:347", after := #[{ on := 3, ground := Ground.guard }], guard := some (3, true) }) (v := undef) rfl (by kernel_rfl) (by kernel_rfl) (by kernel_rfl) (fun _ _ _ h => h) (Or.inr ⟨by rfl, rfl⟩) (by assumption) ?_
            try simp only [Act.put, List.setIfInBounds_toArray, List.set_cons_zero, List.set_cons_succ]
            refine wpAnyH_take (i := 7) (oi := { dst := some 198, op := Op.indexAddr 23 (Operand.tmp 196) (Operand.tmp 197), type := 0, pos := "law.go:347", after := #[{ on := 5, ground := Ground.data }, { on := 6, ground := Ground.data }, { on := 3, ground := Ground.guard }], guard := some (3, true) }) (v := undef) rfl (by kernel_rfl) (by kernel_rfl) (by kernel_rfl) (fun _ _ _ h => h) (Or.inr ⟨by rfl, rfl⟩) (by assumption) ?_
            try simp only [Act.put, List.setIfInBounds_toArray, List.set_cons_zero, List.set_cons_succ]
            refine wpAnyH_take (i := 8) (oi := { dst := some 199, op := Op.fieldAddr 46 (Operand.tmp 198) 3, type := 0, pos := "law.go:347", after := #[{ on := 7, ground := Ground.data }, { on := 3, ground := Ground.guard }], guard := some (3, true) }) (v := undef) rfl (by kernel_rfl) (by kernel_rfl) (by kernel_rfl) (fun _ _ _ h => h) (Or.inr ⟨by rfl, rfl⟩) (by assumption) ?_
            try simp only [Act.put, List.setIfInBounds_toArray, List.set_cons_zero, List.set_cons_succ]
            refine wpAnyH_take (i := 9) (oi := { dst := some 200, op := Op.load 26 (Operand.tmp 199), type := 26, pos := "law.go:347", after := #[{ on := 8, ground := Ground.data }, { on := 3, ground := Ground.guard }], guard := some (3, true) }) (v := undef) rfl (by kernel_rfl) (by kernel_rfl) (by kernel_rfl) (fun _ _ _ h => h) (Or.inr ⟨by rfl, rfl⟩) (by assumption) ?_
            try simp only [Act.put, List.setIfInBounds_toArray, List.set_cons_zero, List.set_cons_succ]
            refine wpAnyH_take (i := 10) (oi := { dst := some 201, op := Op.move (Operand.tmp 25), type := 3, pos := "law.go:347", after := #[{ on := 3, ground := Ground.guard }], guard := some (3, true) }) (v := undef) rfl (by kernel_rfl) (by kernel_rfl) (by kernel_rfl) (fun _ _ _ h => h) (Or.inr ⟨by rfl, rfl⟩) (by assumption) ?_
            try simp only [Act.put, List.setIfInBounds_toArray, List.set_cons_zero, List.set_cons_succ]
            refine wpAnyH_take (i := 11) (oi := { dst := some 202, op := Op.indexAddr 26 (Operand.tmp 200) (Operand.tmp 201), type := 0, pos := "law.go:347", after := #[{ on := 9, ground := Ground.data }, { on := 10, ground := Ground.data }, { on := 3, ground := Ground.guard }], guard := some (3, true) }) (v := undef) rfl (by kernel_rfl) (by kernel_rfl) (by kernel_rfl) (fun _ _ _ h => h) (Or.inr ⟨by rfl, rfl⟩) (by assumption) ?_
            try simp only [Act.put, List.setIfInBounds_toArray, List.set_cons_zero, List.set_cons_succ]
            refine wpAnyH_take (i := 12) (oi := { dst := some 203, op := Op.load 3 (Operand.tmp 202), type := 3, pos := "law.go:347", after := #[{ on := 11, ground := Ground.data }, { on := 3, ground := Ground.guard }], guard := some (3, true) }) (v := undef) rfl (by kernel_rfl) (by kernel_rfl) (by kernel_rfl) (fun _ _ _ h => h) (Or.inr ⟨by rfl, rfl⟩) (by assumption) ?_
            try simp only [Act.put, List.setIfInBounds_toArray, List.set_cons_zero, List.set_cons_succ]
            refine wpAnyH_take (i := 13) (oi := { dst := some 204, op := Op.move (Operand.tmp 24), type := 3, pos := "law.go:347", after := #[{ on := 3, ground := Ground.guard }], guard := some (3, true) }) (v := undef) rfl (by kernel_rfl) (by kernel_rfl) (by kernel_rfl) (fun _ _ _ h => h) (Or.inr ⟨by rfl, rfl⟩) (by assumption) ?_
            try simp only [Act.put, List.setIfInBounds_toArray, List.set_cons_zero, List.set_cons_succ]
            refine wpAnyH_take (i := 14) (oi := { dst := some 205, op := Op.binOp BinOp.sub 3 (Operand.const (Value.int IntKind.i64 (-1000))) (Operand.tmp 204) 3, type := 3, pos := "law.go:347", after := #[{ on := 13, ground := Ground.data }, { on := 3, ground := Ground.guard }], guard := some (3, true) }) (v := undef) rfl (by kernel_rfl) (by kernel_rfl) (by kernel_rfl) (fun _ _ _ h => h) (Or.inr ⟨by rfl, rfl⟩) (by assumption) ?_
            try simp only [Act.put, List.setIfInBounds_toArray, List.set_cons_zero, List.set_cons_succ]
            refine wpAnyH_take (i := 15) (oi := { dst := some 206, op := Op.binOp BinOp.neq 3 (Operand.tmp 203) (Operand.tmp 205) 3, type := 4, pos := "law.go:347", after := #[{ on := 12, ground := Ground.data }, { on := 14, ground := Ground.data }, { on := 3, ground := Ground.guard }], guard := some (3, true) }) (v := undef) rfl (by kernel_rfl) (by kernel_rfl) (by kernel_rfl) (fun _ _ _ h => h) (Or.inr ⟨by rfl, rfl⟩) (by assumption) ?_
            try simp only [Act.put, List.setIfInBounds_toArray, List.set_cons_zero, List.set_cons_succ]
            refine wpAnyH_take (i := 16) (oi := { dst := some 207, op := Op.pick (Operand.tmp 194) (Operand.tmp 206) (Operand.const (Value.bool false)), type := 4, pos := "law.go:347", after := #[{ on := 3, ground := Ground.data }, { on := 15, ground := Ground.data }], guard := none }) (v := ?_) rfl (by kernel_rfl) (by kernel_rfl) (by kernel_rfl) (fun _ _ _ h => h) (Or.inl ⟨by rfl, ?_⟩) (by assumption) ?_
            rotate_left
            ·(intro w hSw; (try dsimp only at hSw); go_simp; try with_reducible rfl)
            try simp only [Act.put, List.setIfInBounds_toArray, List.set_cons_zero, List.set_cons_succ]
            refine wpAnyH_take (i := 17) (oi := { dst := some 208, op := Op.move (Operand.tmp 207), type := 4, pos := "law.go:347", after := #[{ on := 16, ground := Ground.data }, { on := 3, ground := Ground.chain }], guard := none }) (v := ?_) rfl (by kernel_rfl) (by kernel_rfl) (by kernel_rfl) (fun _ _ _ h => h) (Or.inl ⟨by rfl, ?_⟩) (by assumption) ?_
            rotate_left
            ·(intro w hSw; (try dsimp only at hSw); go_simp; try with_reducible rfl)
            try simp only [Act.put, List.setIfInBounds_toArray, List.set_cons_zero, List.set_cons_succ]
            refine wpAnyH_take (i := 18) (oi := { dst := some 209, op := Op.move (Operand.tmp 24), type := 3, pos := "law.go:347", after := #[{ on := 17, ground := Ground.guard }], guard := some (17, false) }) (v := ?_) rfl (by kernel_rfl) (by kernel_rfl) (by kernel_rfl) (fun _ _ _ h => h) (Or.inl ⟨by rfl, ?_⟩) (by assumption) ?_
            rotate_left
            ·(intro w hSw; (try dsimp only at hSw); go_simp; try with_reducible rfl)
            try simp only [Act.put, List.setIfInBounds_toArray, List.set_cons_zero, List.set_cons_succ]
            refine wpAnyH_take (i := 19) (oi := { dst := some 210, op := Op.move (Operand.tmp 23), type := 3, pos := "law.go:347", after := #[{ on := 17, ground := Ground.guard }], guard := some (17, false) }) (v := ?_) rfl (by kernel_rfl) (by kernel_rfl) (by kernel_rfl) (fun _ _ _ h => h) (Or.inl ⟨by rfl, ?_⟩) (by assumption) ?_
            rotate_left
            ·(intro w hSw; (try dsimp only at hSw); go_simp; try with_reducible rfl)
            try simp only [Act.put, List.setIfInBounds_toArray, List.set_cons_zero, List.set_cons_succ]
            refine wpAnyH_take (i := 20) (oi := { dst := some 211, op := Op.binOp BinOp.gtr 3 (Operand.tmp 209) (Operand.tmp 210) 3, type := 4, pos := "law.go:347", after := #[{ on := 18, ground := Ground.data }, { on := 19, ground := Ground.data }, { on := 17, ground := Ground.guard }], guard := some (17, false) }) (v := ?_) rfl (by kernel_rfl) (by kernel_rfl) (by kernel_rfl) (fun _ _ _ h => h) (Or.inl ⟨by rfl, ?_⟩) (by assumption) ?_
            rotate_left
            ·(intro w hSw; (try dsimp only at hSw); go_simp; try with_reducible rfl)
            try simp only [Act.put, List.setIfInBounds_toArray, List.set_cons_zero, List.set_cons_succ]
            refine wpAnyH_take (i := 21) (oi := { dst := some 212, op := Op.move (Operand.tmp 211), type := 4, pos := "law.go:347", after := #[{ on := 20, ground := Ground.data }, { on := 17, ground := Ground.chain }, { on := 17, ground := Ground.guard }], guard := some (17, false) }) (v := ?_) rfl (by kernel_rfl) (by kernel_rfl) (by kernel_rfl) (fun _ _ _ h => h) (Or.inl ⟨by rfl, ?_⟩) (by assumption) ?_
            rotate_left
            ·(intro w hSw; (try dsimp only at hSw); go_simp; try with_reducible rfl)
            try simp only [Act.put, List.setIfInBounds_toArray, List.set_cons_zero, List.set_cons_succ]
            refine wpAnyH_take (i := 22) (oi := { dst := some 213, op := Op.fieldAddr 25 (Operand.tmp 8) 0, type := 0, pos := "law.go:347", after := #[{ on := 21, ground := Ground.guard }], guard := some (21, true) }) (v := ?_) rfl (by kernel_rfl) (by kernel_rfl) (by kernel_rfl) (fun _ _ _ h => h) (Or.inl ⟨by rfl, ?_⟩) (by assumption) ?_
            rotate_left
            ·(intro w hSw; (try dsimp only at hSw); go_simp; try with_reducible rfl)
            try simp only [Act.put, List.setIfInBounds_toArray, List.set_cons_zero, List.set_cons_succ]
            refine wpAnyH_take (i := 23) (oi := { dst := some 214, op := Op.load 23 (Operand.tmp 213), type := 23, pos := "law.go:347", after := #[{ on := 22, ground := Ground.data }, { on := 21, ground := Ground.guard }], guard := some (21, true) }) (v := ?_) rfl (by kernel_rfl) (by kernel_rfl) (by kernel_rfl) (fun _ _ _ h => h) (Or.inl ⟨by rfl, ?_⟩) (by assumption) ?_
            rotate_left
            ·(intro w hSw; (try dsimp only at hSw); go_simp; try with_reducible rfl)
            try simp only [Act.put, List.setIfInBounds_toArray, List.set_cons_zero, List.set_cons_succ]
            refine wpAnyH_take (i := 24) (oi := { dst := some 215, op := Op.move (Operand.tmp 24), type := 3, pos := "law.go:347", after := #[{ on := 21, ground := Ground.guard }], guard := some (21, true) }) (v := ?_) rfl (by kernel_rfl) (by kernel_rfl) (by kernel_rfl) (fun _ _ _ h => h) (Or.inl ⟨by rfl, ?_⟩) (by assumption) ?_
            rotate_left
            ·(intro w hSw; (try dsimp only at hSw); go_simp; try with_reducible rfl)
            try simp only [Act.put, List.setIfInBounds_toArray, List.set_cons_zero, List.set_cons_succ]
            refine wpAnyH_take (i := 25) (oi := { dst := some 216, op := Op.indexAddr 23 (Operand.tmp 214) (Operand.tmp 215), type := 0, pos := "law.go:347", after := #[{ on := 23, ground := Ground.data }, { on := 24, ground := Ground.data }, { on := 21, ground := Ground.guard }], guard := some (21, true) }) (v := ?_) rfl (by kernel_rfl) (by kernel_rfl) (by kernel_rfl) (fun _ _ _ h => h) (Or.inl ⟨by rfl, ?_⟩) (by assumption) ?_
            rotate_left
            ·(intro w hSw; (try dsimp only at hSw); go_simp; try with_reducible rfl)
            try simp only [Act.put, List.setIfInBounds_toArray, List.set_cons_zero, List.set_cons_succ]
            refine wpAnyH_take (i := 26) (oi := { dst := some 217, op := Op.fieldAddr 46 (Operand.tmp 216) 3, type := 0, pos := "law.go:347", after := #[{ on := 25, ground := Ground.data }, { on := 21, ground := Ground.guard }], guard := some (21, true) }) (v := ?_) rfl (by kernel_rfl) (by kernel_rfl) (by kernel_rfl) (fun _ _ _ h => h) (Or.inl ⟨by rfl, ?_⟩) (by assumption) ?_
            rotate_left
            ·(intro w hSw; (try dsimp only at hSw); go_simp; try with_reducible rfl)
            try simp only [Act.put, List.setIfInBounds_toArray, List.set_cons_zero, List.set_cons_succ]
            refine wpAnyH_take (i := 27) (oi := { dst := some 218, op := Op.load 26 (Operand.tmp 217), type := 26, pos := "law.go:347", after := #[{ on := 26, ground := Ground.data }, { on := 21, ground := Ground.guard }], guard := some (21, true) }) (v := ?_) rfl (by kernel_rfl) (by kernel_rfl) (by kernel_rfl) (fun _ _ _ h => h) (Or.inl ⟨by rfl, ?_⟩) (by assumption) ?_
            rotate_left
            ·(intro w hSw; (try dsimp only at hSw); go_simp; try with_reducible rfl)
            try simp only [Act.put, List.setIfInBounds_toArray, List.set_cons_zero, List.set_cons_succ]
            refine wpAnyH_take (i := 28) (oi := { dst := some 219, op := Op.move (Operand.tmp 25), type := 3, pos := "law.go:347", after := #[{ on := 21, ground := Ground.guard }], guard := some (21, true) }) (v := ?_) rfl (by kernel_rfl) (by kernel_rfl) (by kernel_rfl) (fun _ _ _ h => h) (Or.inl ⟨by rfl, ?_⟩) (by assumption) ?_
            rotate_left
            ·(intro w hSw; (try dsimp only at hSw); go_simp; try with_reducible rfl)
            try simp only [Act.put, List.setIfInBounds_toArray, List.set_cons_zero, List.set_cons_succ]
            refine wpAnyH_take (i := 29) (oi := { dst := some 220, op := Op.indexAddr 26 (Operand.tmp 218) (Operand.tmp 219), type := 0, pos := "law.go:347", after := #[{ on := 27, ground := Ground.data }, { on := 28, ground := Ground.data }, { on := 21, ground := Ground.guard }], guard := some (21, true) }) (v := ?_) rfl (by kernel_rfl) (by kernel_rfl) (by kernel_rfl) (fun _ _ _ h => h) (Or.inl ⟨by rfl, ?_⟩) (by assumption) ?_
            rotate_left
            ·(intro w hSw; (try dsimp only at hSw); go_simp; try with_reducible rfl)
            try simp only [Act.put, List.setIfInBounds_toArray, List.set_cons_zero, List.set_cons_succ]
            refine wpAnyH_take (i := 30) (oi := { dst := some 221, op := Op.load 3 (Operand.tmp 220), type := 3, pos := "law.go:347", after := #[{ on := 29, ground := Ground.data }, { on := 21, ground := Ground.guard }], guard := some (21, true) }) (v := ?_) rfl (by kernel_rfl) (by kernel_rfl) (by kernel_rfl) (fun _ _ _ h => h) (Or.inl ⟨by rfl, ?_⟩) (by assumption) ?_
            rotate_left
            ·(intro w hSw; (try dsimp only at hSw); go_simp; try with_reducible rfl)
            try simp only [Act.put, List.setIfInBounds_toArray, List.set_cons_zero, List.set_cons_succ]
            refine wpAnyH_take (i := 31) (oi := { dst := some 222, op := Op.fieldAddr 25 (Operand.tmp 14) 0, type := 0, pos := "law.go:347", after := #[{ on := 21, ground := Ground.guard }], guard := some (21, true) }) (v := ?_) rfl (by kernel_rfl) (by kernel_rfl) (by kernel_rfl) (fun _ _ _ h => h) (Or.inl ⟨by rfl, ?_⟩) (by assumption) ?_
            rotate_left
            ·(intro w hSw; (try dsimp only at hSw); go_simp; try with_reducible rfl)
            try simp only [Act.put, List.setIfInBounds_toArray, List.set_cons_zero, List.set_cons_succ]
            refine wpAnyH_take (i := 32) (oi := { dst := some 223, op := Op.load 23 (Operand.tmp 222), type := 23, pos := "law.go:347", after := #[{ on := 31, ground := Ground.data }, { on := 21, ground := Ground.guard }], guard := some (21, true) }) (v := ?_) rfl (by kernel_rfl) (by kernel_rfl) (by kernel_rfl) (fun _ _ _ h => h) (Or.inl ⟨by rfl, ?_⟩) (by assumption) ?_
            rotate_left
            ·(intro w hSw; (try dsimp only at hSw); go_simp; try with_reducible rfl)
            try simp only [Act.put, List.setIfInBounds_toArray, List.set_cons_zero, List.set_cons_succ]
            refine wpAnyH_take (i := 33) (oi := { dst := some 224, op := Op.move (Operand.tmp 24), type := 3, pos := "law.go:347", after := #[{ on := 21, ground := Ground.guard }], guard := some (21, true) }) (v := ?_) rfl (by kernel_rfl) (by kernel_rfl) (by kernel_rfl) (fun _ _ _ h => h) (Or.inl ⟨by rfl, ?_⟩) (by assumption) ?_
            rotate_left
            ·(intro w hSw; (try dsimp only at hSw); go_simp; try with_reducible rfl)
            try simp only [Act.put, List.setIfInBounds_toArray, List.set_cons_zero, List.set_cons_succ]
            refine wpAnyH_take (i := 34) (oi := { dst := some 225, op := Op.indexAddr 23 (Operand.tmp 223) (Operand.tmp 224), type := 0, pos := "law.go:347", after := #[{ on := 32, ground := Ground.data }, { on := 33, ground := Ground.data }, { on := 21, ground := Ground.guard }], guard := some (21, true) }) (v := ?_) rfl (by kernel_rfl) (by kernel_rfl) (by kernel_rfl) (fun _ _ _ h => h) (Or.inl ⟨by rfl, ?_⟩) (by assumption) ?_
            rotate_left
            ·(intro w hSw; (try dsimp only at hSw); go_simp; try with_reducible rfl)
            try simp only [Act.put, List.setIfInBounds_toArray, List.set_cons_zero, List.set_cons_succ]
            refine wpAnyH_take (i := 35) (oi := { dst := some 226, op := Op.fieldAddr 46 (Operand.tmp 225) 3, type := 0, pos := "law.go:347", after := #[{ on := 34, ground := Ground.data }, { on := 21, ground := Ground.guard }], guard := some (21, true) }) (v := ?_) rfl (by kernel_rfl) (by kernel_rfl) (by kernel_rfl) (fun _ _ _ h => h) (Or.inl ⟨by rfl, ?_⟩) (by assumption) ?_
            rotate_left
            ·(intro w hSw; (try dsimp only at hSw); go_simp; try with_reducible rfl)
            try simp only [Act.put, List.setIfInBounds_toArray, List.set_cons_zero, List.set_cons_succ]
            refine wpAnyH_take (i := 36) (oi := { dst := some 227, op := Op.load 26 (Operand.tmp 226), type := 26, pos := "law.go:347", after := #[{ on := 35, ground := Ground.data }, { on := 21, ground := Ground.guard }], guard := some (21, true) }) (v := ?_) rfl (by kernel_rfl) (by kernel_rfl) (by kernel_rfl) (fun _ _ _ h => h) (Or.inl ⟨by rfl, ?_⟩) (by assumption) ?_
            rotate_left
            ·(intro w hSw; (try dsimp only at hSw); go_simp; try with_reducible rfl)
            try simp only [Act.put, List.setIfInBounds_toArray, List.set_cons_zero, List.set_cons_succ]
            refine wpAnyH_take (i := 37) (oi := { dst := some 228, op := Op.move (Operand.tmp 25), type := 3, pos := "law.go:347", after := #[{ on := 21, ground := Ground.guard }], guard := some (21, true) }) (v := ?_) rfl (by kernel_rfl) (by kernel_rfl) (by kernel_rfl) (fun _ _ _ h => h) (Or.inl ⟨by rfl, ?_⟩) (by assumption) ?_
            rotate_left
            ·(intro w hSw; (try dsimp only at hSw); go_simp; try with_reducible rfl)
            try simp only [Act.put, List.setIfInBounds_toArray, List.set_cons_zero, List.set_cons_succ]
            refine wpAnyH_take (i := 38) (oi := { dst := some 229, op := Op.indexAddr 26 (Operand.tmp 227) (Operand.tmp 228), type := 0, pos := "law.go:347", after := #[{ on := 36, ground := Ground.data }, { on := 37, ground := Ground.data }, { on := 21, ground := Ground.guard }], guard := some (21, true) }) (v := ?_) rfl (by kernel_rfl) (by kernel_rfl) (by kernel_rfl) (fun _ _ _ h => h) (Or.inl ⟨by rfl, ?_⟩) (by assumption) ?_
            rotate_left
            ·(intro w hSw; (try dsimp only at hSw); go_simp; try with_reducible rfl)
            try simp only [Act.put, List.setIfInBounds_toArray, List.set_cons_zero, List.set_cons_succ]
            refine wpAnyH_take (i := 39) (oi := { dst := some 230, op := Op.load 3 (Operand.tmp 229), type := 3, pos := "law.go:347", after := #[{ on := 38, ground := Ground.data }, { on := 21, ground := Ground.guard }], guard := some (21, true) }) (v := ?_) rfl (by kernel_rfl) (by kernel_rfl) (by kernel_rfl) (fun _ _ _ h => h) (Or.inl ⟨by rfl, ?_⟩) (by assumption) ?_
            rotate_left
            ·(intro w hSw; (try dsimp only at hSw); go_simp; try with_reducible rfl)
            try simp only [Act.put, List.setIfInBounds_toArray, List.set_cons_zero, List.set_cons_succ]
            refine wpAnyH_take (i := 40) (oi := { dst := some 231, op := Op.binOp BinOp.neq 3 (Operand.tmp 221) (Operand.tmp 230) 3, type := 4, pos := "law.go:347", after := #[{ on := 30, ground := Ground.data }, { on := 39, ground := Ground.data }, { on := 21, ground := Ground.guard }], guard := some (21, true) }) (v := ?_) rfl (by kernel_rfl) (by kernel_rfl) (by kernel_rfl) (fun _ _ _ h => h) (Or.inl ⟨by rfl, ?_⟩) (by assumption) ?_
            rotate_left
            ·(intro w hSw; (try dsimp only at hSw); go_simp; try with_reducible rfl)
            try simp only [Act.put, List.setIfInBounds_toArray, List.set_cons_zero, List.set_cons_succ]
            refine wpAnyH_take (i := 41) (oi := { dst := some 232, op := Op.pick (Operand.tmp 212) (Operand.tmp 231) (Operand.const (Value.bool false)), type := 4, pos := "law.go:347", after := #[{ on := 21, ground := Ground.data }, { on := 40, ground := Ground.data }, { on := 17, ground := Ground.guard }], guard := some (17, false) }) (v := ?_) rfl (by kernel_rfl) (by kernel_rfl) (by kernel_rfl) (fun _ _ _ h => h) (Or.inl ⟨by rfl, ?_⟩) (by assumption) ?_
            rotate_left
            ·(intro w hSw; (try dsimp only at hSw); go_simp; try with_reducible rfl)
            try simp only [Act.put, List.setIfInBounds_toArray, List.set_cons_zero, List.set_cons_succ]
            refine wpAnyH_take (i := 42) (oi := { dst := some 233, op := Op.pick (Operand.tmp 208) (Operand.const (Value.bool true)) (Operand.tmp 232), type := 4, pos := "law.go:347", after := #[{ on := 17, ground := Ground.data }, { on := 41, ground := Ground.data }], guard := none }) (v := ?_) rfl (by kernel_rfl) (by kernel_rfl) (by kernel_rfl) (fun _ _ _ h => h) (Or.inl ⟨by rfl, ?_⟩) (by assumption) ?_
            rotate_left
            ·(intro w hSw; (try dsimp only at hSw); go_simp; try with_reducible rfl)
            try simp only [Act.put, List.setIfInBounds_toArray, List.set_cons_zero, List.set_cons_succ]
            refine wpAnyH_done (by kernel_rfl) ?_ _
            clear hHeld
            go_wp2_with fail
            refine ⟨⟨q + 1, by omega, by go_num, hid HZN.out⟩, by simp [intOf]; omega⟩
          ·obtain rfl : q = kn2 := by omega
           go_wp2_with fail
           refine ⟨⟨k2 + 1, by omega, by go_num, hid ⟨m1, HMM1.out⟩⟩, by simp [intOf]; omega⟩
        ·obtain rfl : k2 = i := by omega
         have HBZ := hid (show Below Y.heap.size Y wr by rw [HMM.out]; exact below_drewN (Below.refl _ Y) m0)
         go_wp2_with fail
         refine ⟨⟨r + 1, by omega, by go_num, hid (HNY.out.low HBZ.out), hid (row_kept HRY.out (fun b e => HBZ.out.block b (row_at HRY.out e).2.1)), hid (fun j hj => own_low (HKY.out j hj) HBZ.out)⟩, by simp [intOf]; omega⟩
      ·obtain rfl : r = i := by omega
       go_wp2_with fail
       go_ret
       exact ⟨rfl, HN.out.below HB6.out (by have := HSZ.out; omega)⟩
end Go.Proofs.YtcldglilhhhdoaaGreatDoor.L
