import Derived.Test.YtcldglilhhhdoaaGreatDoorMgAV
namespace Go.Proofs.YtcldglilhhhdoaaGreatDoor.L
open Go.RowKit
set_option linter.unusedVariables false
set_option linter.unusedSimpArgs false
theorem rdc_bad {src : ByteArray} {c : Nat} {x : Int} (h : parR src = .error (c, x)) : rdc src = ((c : Int), x) := by unfold rdc; rw [h]
theorem rdc_ok {src : ByteArray} {s : PS} (h : parR src = .ok s) : rdc src = (0, 0) := by unfold rdc; rw [h]
theorem rdp_ok {src : ByteArray} {s : PS} (h : parR src = .ok s) : rdp src = s.ps := by unfold rdp; rw [h]
set_option maxHeartbeats 4000000 in
set_option maxRecDepth 100000 in
theorem reads_110 (src : ByteArray) (L : List Pt) (v : Option Addr) (cap : Nat) (w : World) (hv : Vars w) (hP : PL w v L) {x : Int} (hz : 4096 < src.size) (hR : parR src = .error (110, x)) (hl : L.length ≤ 100000) (hs : src.size ≤ 140737488355328) (hk : ∀ j, j < L.length → (pt L j).kids.length ≤ 1000000) : Calls Tryz.prog 20 #[.string src, .slice v L.length cap] w fun e w' => e = .returned (.bool true) ∧ Below w.heap.size w w' := by
  have HV := hid hv
  have HP := hid hP
  clear hv hP
  obtain ⟨ln, hln⟩ : ∃ ln, ln = L.length := ⟨_, rfl⟩
  have HLN := hid hln
  rw [← hln] at hl ⊢
  have hrc : rdc src = (110, x) := rdc_bad hR
  have g1 : (4096 : Int) < (src.size : Int) := by omega
  clear hz hR hln
  have HRC := hid hrc
  clear hrc
  obtain ⟨ZC, hz⟩ : ∃ ZC : Array Value, ZC = f19 0 0 := ⟨_, rfl⟩
  have HZC := hid hz
  have HZ9 := hid (show ZC.size = 19 by rw [hz]; rfl)
  clear hz
  have e1 : (#[.int .i64 0, .int .i64 0, .string ⟨#[]⟩, .int .i64 0, .int .i64 0, .int .i64 0, .string ⟨#[]⟩, .int .i64 0, .int .i64 0, .int .i64 0, .string ⟨#[]⟩, .int .i64 0, .int .i64 0, .int .i64 0, .string ⟨#[]⟩, .int .i64 0, .int .i64 0, .int .i64 0, .string ⟨#[]⟩] : Array Value) = ZC := by rw [HZC.out]; rfl
  obtain ⟨cs, hcs⟩ : ∃ cs : Array Value, cs = f19 110 x := ⟨_, rfl⟩
  have HCS := hid hcs
  have HC9 := hid (show cs.size = 19 by rw [hcs]; rfl)
  have HQ := hid (show cs[0]? = some (.int .i64 110) by rw [hcs]; rfl)
  clear hcs
  have e9 : limB 110 = true := by decide
  go_enter Tryz.func20, Tryz.ntmps20
  go_wp2_with fail
  refine (parse_any src w HV.out).mono ?_
  rintro e W2 ⟨hp, l2⟩
  obtain ⟨va, vc, oa, oc, er, rfl, hpl, _, hrd⟩ := par_two hp
  rw [HRC.out] at hrd
  simp only at hrd
  have HPL := hid hpl
  have HRD := hid hrd
  have HL2 := hid l2
  clear l2 hp hpl hrd
  obtain ⟨pn, hpn⟩ : ∃ pn, pn = (rdp src).length := ⟨_, rfl⟩
  have HPN := hid hpn
  rw [← hpn]
  clear hpn
  go_upto_region 2 with fail
  have HB3 := hid (belowA W2 (.cells #[.slice va pn vc] 25))
  have HX3 := hid (heap_alloc_new W2 (.cells #[.slice va pn vc] 25))
  have HPL3 := hid (HPL.out.low HB3.out)
  generalize W2.alloc (.cells #[.slice va pn vc] 25) = W3 at *
  have HL3 := hid (HL2.out.trans (HB3.out.mono HL2.out.size))
  have HR3 := hid (HRD.out W3 HB3.out)
  rw [← HCS.out] at HR3
  generalize W2.heap.size = b3 at *
  refine wp_region_lit ?_
  refine wpList_plain rfl fun K hK => ?_
  have HK := hid hK
  clear hK
  go_simp
  (try rw [e1])
  refine HK.out _ _ ?_
  clear HK
  try simp only [Act.put, List.setIfInBounds_toArray, List.set_cons_zero, List.set_cons_succ]
  refine wpList_step fun K hK => ?_
  rw [if_pos (by first | rfl | kernel_rfl)]
  go_simp
  refine (HR3.out).mono ?_
  rintro e W4 ⟨rfl, l⟩
  refine hK _ _ ?_
  clear hK K
  try simp only [Act.put, List.setIfInBounds_toArray, List.set_cons_zero, List.set_cons_succ]
  refine wpList_plain rfl fun K hK => ?_
  have HK := hid hK
  clear hK
  go_simp
  (try rw [e1])
  refine HK.out _ _ ?_
  clear HK
  try simp only [Act.put, List.setIfInBounds_toArray, List.set_cons_zero, List.set_cons_succ]
  have HX5 := hid (heap_alloc_new W4 (.cells ZC 35))
  have HL4 := hid (HL3.out.trans (l.mono HL3.out.size))
  have HPL4 := hid (HPL3.out.low l)
  have HX34 := hid ((l.block _ (lt_blk HX3.out)).trans HX3.out)
  have HL5 := hid (HL4.out.trans ((belowA W4 (.cells ZC 35)).mono HL4.out.size))
  have HB5 := hid (belowA W4 (.cells ZC 35))
  have HX35 := hid (((belowA W4 (.cells ZC 35)).block _ (lt_blk HX34.out)).trans HX34.out)
  have HGE := hid HL4.out.size
  have HN3 := hid (Nat.ne_of_lt (lt_blk HX34.out))
  clear l
  refine wpList_store_row rfl 35 _ _ rfl W4.heap.size cs rfl rfl 35 ZC HX5.out (by rw [HC9.out]; exact info53) (by rw [HC9.out, HZ9.out]) (by rw [HCS.out]; kernel_rfl) ?_
  try simp only [Act.put, List.setIfInBounds_toArray, List.set_cons_zero, List.set_cons_succ]
  refine wpList_nil ?_
  have HX6 := hid (setRow_heap _ _ ZC cs _ _ HX5.out)
  have HL6 := hid (below_row HL5.out W4.heap.size cs HGE.out)
  have HB6 := hid (below_row HB5.out W4.heap.size cs (Nat.le_refl _))
  have HX36 := hid (show ((W4.alloc (.cells ZC 35)).setRow W4.heap.size cs).heap[b3]? = _ from (setRow_other _ _ _ _ HN3.out).trans HX35.out)
  clear HX5 HL5 HX35 HB5
  generalize (W4.alloc (.cells ZC 35)).setRow W4.heap.size cs = W6 at *
  have HPL6 := hid (HPL4.out.low HB6.out)
  generalize W4.heap.size = b8 at *
  have HLM := hid (limited_any 110 x W6)
  rw [← HCS.out] at HLM
  go_upto_region 3 with fail
  refine wp_region_lit ?_
  refine wpList_load_row rfl 35 _ rfl b8 rfl 35 cs (0, 0) _ HX6.out Tryz.underlying35 rfl (by rw [HC9.out]; exact info53) ?_
  try simp only [Act.put, List.setIfInBounds_toArray, List.set_cons_zero, List.set_cons_succ]
  refine wpList_step fun K hK => ?_
  rw [if_pos (by first | rfl | kernel_rfl)]
  go_simp
  refine HLM.out.mono ?_
  rintro e W7 ⟨rfl, l⟩
  refine hK _ _ ?_
  clear hK K
  try simp only [Act.put, List.setIfInBounds_toArray, List.set_cons_zero, List.set_cons_succ]
  refine wpList_nil ?_
  have HL7 := hid (HL6.out.trans (l.mono HL6.out.size))
  have HB7 := hid l
  clear l
  have k0 : W7.cell? ⟨b8, 0, none⟩ = some (.int .i64 110) := (HB7.out.cell (p := ⟨b8, 0, none⟩) (lt_blk HX6.out)).trans ((cell_of_row _ _ 0 _ _ _ HX6.out).trans HQ.out)
  have kt : W7.cell? ⟨b3, 0, none⟩ = some (.slice va pn vc) := (HB7.out.cell (p := ⟨b3, 0, none⟩) (lt_blk HX36.out)).trans (cell_of_row _ _ 0 _ _ _ HX36.out)
  rw [e9]
  go_wp2_with fail
  go_ret
  exact ⟨rfl, HL7.out⟩
set_option maxHeartbeats 4000000 in
set_option maxRecDepth 100000 in
theorem reads_122 (src : ByteArray) (L : List Pt) (v : Option Addr) (cap : Nat) (w : World) (hv : Vars w) (hP : PL w v L) {x : Int} (hR : parR src = .error (122, x)) (hl : L.length ≤ 100000) (hs : src.size ≤ 140737488355328) (hk : ∀ j, j < L.length → (pt L j).kids.length ≤ 1000000) : Calls Tryz.prog 20 #[.string src, .slice v L.length cap] w fun e w' => e = .returned (.bool true) ∧ Below w.heap.size w w' := by
  have HV := hid hv
  have HP := hid hP
  clear hv hP
  obtain ⟨ln, hln⟩ : ∃ ln, ln = L.length := ⟨_, rfl⟩
  have HLN := hid hln
  rw [← hln] at hl ⊢
  have hrc : rdc src = (122, x) := rdc_bad hR
  clear hR hln
  have HRC := hid hrc
  clear hrc
  obtain ⟨ZC, hz⟩ : ∃ ZC : Array Value, ZC = f19 0 0 := ⟨_, rfl⟩
  have HZC := hid hz
  have HZ9 := hid (show ZC.size = 19 by rw [hz]; rfl)
  clear hz
  have e1 : (#[.int .i64 0, .int .i64 0, .string ⟨#[]⟩, .int .i64 0, .int .i64 0, .int .i64 0, .string ⟨#[]⟩, .int .i64 0, .int .i64 0, .int .i64 0, .string ⟨#[]⟩, .int .i64 0, .int .i64 0, .int .i64 0, .string ⟨#[]⟩, .int .i64 0, .int .i64 0, .int .i64 0, .string ⟨#[]⟩] : Array Value) = ZC := by rw [HZC.out]; rfl
  obtain ⟨cs, hcs⟩ : ∃ cs : Array Value, cs = f19 122 x := ⟨_, rfl⟩
  have HCS := hid hcs
  have HC9 := hid (show cs.size = 19 by rw [hcs]; rfl)
  have HQ := hid (show cs[0]? = some (.int .i64 122) by rw [hcs]; rfl)
  clear hcs
  have e9 : limB 122 = true := by decide
  go_enter Tryz.func20, Tryz.ntmps20
  go_wp2_with fail
  refine (parse_any src w HV.out).mono ?_
  rintro e W2 ⟨hp, l2⟩
  obtain ⟨va, vc, oa, oc, er, rfl, hpl, _, hrd⟩ := par_two hp
  rw [HRC.out] at hrd
  simp only at hrd
  have HPL := hid hpl
  have HRD := hid hrd
  have HL2 := hid l2
  clear l2 hp hpl hrd
  obtain ⟨pn, hpn⟩ : ∃ pn, pn = (rdp src).length := ⟨_, rfl⟩
  have HPN := hid hpn
  rw [← hpn]
  clear hpn
  go_upto_region 2 with fail
  have HB3 := hid (belowA W2 (.cells #[.slice va pn vc] 25))
  have HX3 := hid (heap_alloc_new W2 (.cells #[.slice va pn vc] 25))
  have HPL3 := hid (HPL.out.low HB3.out)
  generalize W2.alloc (.cells #[.slice va pn vc] 25) = W3 at *
  have HL3 := hid (HL2.out.trans (HB3.out.mono HL2.out.size))
  have HR3 := hid (HRD.out W3 HB3.out)
  rw [← HCS.out] at HR3
  generalize W2.heap.size = b3 at *
  refine wp_region_lit ?_
  refine wpList_plain rfl fun K hK => ?_
  have HK := hid hK
  clear hK
  go_simp
  (try rw [e1])
  refine HK.out _ _ ?_
  clear HK
  try simp only [Act.put, List.setIfInBounds_toArray, List.set_cons_zero, List.set_cons_succ]
  refine wpList_step fun K hK => ?_
  rw [if_pos (by first | rfl | kernel_rfl)]
  go_simp
  refine (HR3.out).mono ?_
  rintro e W4 ⟨rfl, l⟩
  refine hK _ _ ?_
  clear hK K
  try simp only [Act.put, List.setIfInBounds_toArray, List.set_cons_zero, List.set_cons_succ]
  refine wpList_plain rfl fun K hK => ?_
  have HK := hid hK
  clear hK
  go_simp
  (try rw [e1])
  refine HK.out _ _ ?_
  clear HK
  try simp only [Act.put, List.setIfInBounds_toArray, List.set_cons_zero, List.set_cons_succ]
  have HX5 := hid (heap_alloc_new W4 (.cells ZC 35))
  have HL4 := hid (HL3.out.trans (l.mono HL3.out.size))
  have HPL4 := hid (HPL3.out.low l)
  have HX34 := hid ((l.block _ (lt_blk HX3.out)).trans HX3.out)
  have HL5 := hid (HL4.out.trans ((belowA W4 (.cells ZC 35)).mono HL4.out.size))
  have HB5 := hid (belowA W4 (.cells ZC 35))
  have HX35 := hid (((belowA W4 (.cells ZC 35)).block _ (lt_blk HX34.out)).trans HX34.out)
  have HGE := hid HL4.out.size
  have HN3 := hid (Nat.ne_of_lt (lt_blk HX34.out))
  clear l
  refine wpList_store_row rfl 35 _ _ rfl W4.heap.size cs rfl rfl 35 ZC HX5.out (by rw [HC9.out]; exact info53) (by rw [HC9.out, HZ9.out]) (by rw [HCS.out]; kernel_rfl) ?_
  try simp only [Act.put, List.setIfInBounds_toArray, List.set_cons_zero, List.set_cons_succ]
  refine wpList_nil ?_
  have HX6 := hid (setRow_heap _ _ ZC cs _ _ HX5.out)
  have HL6 := hid (below_row HL5.out W4.heap.size cs HGE.out)
  have HB6 := hid (below_row HB5.out W4.heap.size cs (Nat.le_refl _))
  have HX36 := hid (show ((W4.alloc (.cells ZC 35)).setRow W4.heap.size cs).heap[b3]? = _ from (setRow_other _ _ _ _ HN3.out).trans HX35.out)
  clear HX5 HL5 HX35 HB5
  generalize (W4.alloc (.cells ZC 35)).setRow W4.heap.size cs = W6 at *
  have HPL6 := hid (HPL4.out.low HB6.out)
  generalize W4.heap.size = b8 at *
  have HLM := hid (limited_any 122 x W6)
  rw [← HCS.out] at HLM
  go_upto_region 3 with fail
  refine wp_region_lit ?_
  refine wpList_load_row rfl 35 _ rfl b8 rfl 35 cs (0, 0) _ HX6.out Tryz.underlying35 rfl (by rw [HC9.out]; exact info53) ?_
  try simp only [Act.put, List.setIfInBounds_toArray, List.set_cons_zero, List.set_cons_succ]
  refine wpList_step fun K hK => ?_
  rw [if_pos (by first | rfl | kernel_rfl)]
  go_simp
  refine HLM.out.mono ?_
  rintro e W7 ⟨rfl, l⟩
  refine hK _ _ ?_
  clear hK K
  try simp only [Act.put, List.setIfInBounds_toArray, List.set_cons_zero, List.set_cons_succ]
  refine wpList_nil ?_
  have HL7 := hid (HL6.out.trans (l.mono HL6.out.size))
  have HB7 := hid l
  clear l
  have k0 : W7.cell? ⟨b8, 0, none⟩ = some (.int .i64 122) := (HB7.out.cell (p := ⟨b8, 0, none⟩) (lt_blk HX6.out)).trans ((cell_of_row _ _ 0 _ _ _ HX6.out).trans HQ.out)
  have kt : W7.cell? ⟨b3, 0, none⟩ = some (.slice va pn vc) := (HB7.out.cell (p := ⟨b3, 0, none⟩) (lt_blk HX36.out)).trans (cell_of_row _ _ 0 _ _ _ HX36.out)
  rw [e9]
  go_wp2_with fail
  go_ret
  exact ⟨rfl, HL7.out⟩
set_option maxHeartbeats 4000000 in
set_option maxRecDepth 100000 in
theorem reads_123 (src : ByteArray) (L : List Pt) (v : Option Addr) (cap : Nat) (w : World) (hv : Vars w) (hP : PL w v L) {x : Int} (hz : 1000 < L.length) (hR : parR src = .error (123, x)) (hl : L.length ≤ 100000) (hs : src.size ≤ 140737488355328) (hk : ∀ j, j < L.length → (pt L j).kids.length ≤ 1000000) : Calls Tryz.prog 20 #[.string src, .slice v L.length cap] w fun e w' => e = .returned (.bool true) ∧ Below w.heap.size w w' := by
  have HV := hid hv
  have HP := hid hP
  clear hv hP
  obtain ⟨ln, hln⟩ : ∃ ln, ln = L.length := ⟨_, rfl⟩
  have HLN := hid hln
  rw [← hln] at hl ⊢
  have hrc : rdc src = (123, x) := rdc_bad hR
  rw [← hln] at hz
  have g1 : (1000 : Int) < (ln : Int) := by omega
  clear hz hR hln
  have HRC := hid hrc
  clear hrc
  obtain ⟨ZC, hz⟩ : ∃ ZC : Array Value, ZC = f19 0 0 := ⟨_, rfl⟩
  have HZC := hid hz
  have HZ9 := hid (show ZC.size = 19 by rw [hz]; rfl)
  clear hz
  have e1 : (#[.int .i64 0, .int .i64 0, .string ⟨#[]⟩, .int .i64 0, .int .i64 0, .int .i64 0, .string ⟨#[]⟩, .int .i64 0, .int .i64 0, .int .i64 0, .string ⟨#[]⟩, .int .i64 0, .int .i64 0, .int .i64 0, .string ⟨#[]⟩, .int .i64 0, .int .i64 0, .int .i64 0, .string ⟨#[]⟩] : Array Value) = ZC := by rw [HZC.out]; rfl
  obtain ⟨cs, hcs⟩ : ∃ cs : Array Value, cs = f19 123 x := ⟨_, rfl⟩
  have HCS := hid hcs
  have HC9 := hid (show cs.size = 19 by rw [hcs]; rfl)
  have HQ := hid (show cs[0]? = some (.int .i64 123) by rw [hcs]; rfl)
  clear hcs
  have e9 : limB 123 = true := by decide
  go_enter Tryz.func20, Tryz.ntmps20
  go_wp2_with fail
  refine (parse_any src w HV.out).mono ?_
  rintro e W2 ⟨hp, l2⟩
  obtain ⟨va, vc, oa, oc, er, rfl, hpl, _, hrd⟩ := par_two hp
  rw [HRC.out] at hrd
  simp only at hrd
  have HPL := hid hpl
  have HRD := hid hrd
  have HL2 := hid l2
  clear l2 hp hpl hrd
  obtain ⟨pn, hpn⟩ : ∃ pn, pn = (rdp src).length := ⟨_, rfl⟩
  have HPN := hid hpn
  rw [← hpn]
  clear hpn
  go_upto_region 2 with fail
  have HB3 := hid (belowA W2 (.cells #[.slice va pn vc] 25))
  have HX3 := hid (heap_alloc_new W2 (.cells #[.slice va pn vc] 25))
  have HPL3 := hid (HPL.out.low HB3.out)
  generalize W2.alloc (.cells #[.slice va pn vc] 25) = W3 at *
  have HL3 := hid (HL2.out.trans (HB3.out.mono HL2.out.size))
  have HR3 := hid (HRD.out W3 HB3.out)
  rw [← HCS.out] at HR3
  generalize W2.heap.size = b3 at *
  refine wp_region_lit ?_
  refine wpList_plain rfl fun K hK => ?_
  have HK := hid hK
  clear hK
  go_simp
  (try rw [e1])
  refine HK.out _ _ ?_
  clear HK
  try simp only [Act.put, List.setIfInBounds_toArray, List.set_cons_zero, List.set_cons_succ]
  refine wpList_step fun K hK => ?_
  rw [if_pos (by first | rfl | kernel_rfl)]
  go_simp
  refine (HR3.out).mono ?_
  rintro e W4 ⟨rfl, l⟩
  refine hK _ _ ?_
  clear hK K
  try simp only [Act.put, List.setIfInBounds_toArray, List.set_cons_zero, List.set_cons_succ]
  refine wpList_plain rfl fun K hK => ?_
  have HK := hid hK
  clear hK
  go_simp
  (try rw [e1])
  refine HK.out _ _ ?_
  clear HK
  try simp only [Act.put, List.setIfInBounds_toArray, List.set_cons_zero, List.set_cons_succ]
  have HX5 := hid (heap_alloc_new W4 (.cells ZC 35))
  have HL4 := hid (HL3.out.trans (l.mono HL3.out.size))
  have HPL4 := hid (HPL3.out.low l)
  have HX34 := hid ((l.block _ (lt_blk HX3.out)).trans HX3.out)
  have HL5 := hid (HL4.out.trans ((belowA W4 (.cells ZC 35)).mono HL4.out.size))
  have HB5 := hid (belowA W4 (.cells ZC 35))
  have HX35 := hid (((belowA W4 (.cells ZC 35)).block _ (lt_blk HX34.out)).trans HX34.out)
  have HGE := hid HL4.out.size
  have HN3 := hid (Nat.ne_of_lt (lt_blk HX34.out))
  clear l
  refine wpList_store_row rfl 35 _ _ rfl W4.heap.size cs rfl rfl 35 ZC HX5.out (by rw [HC9.out]; exact info53) (by rw [HC9.out, HZ9.out]) (by rw [HCS.out]; kernel_rfl) ?_
  try simp only [Act.put, List.setIfInBounds_toArray, List.set_cons_zero, List.set_cons_succ]
  refine wpList_nil ?_
  have HX6 := hid (setRow_heap _ _ ZC cs _ _ HX5.out)
  have HL6 := hid (below_row HL5.out W4.heap.size cs HGE.out)
  have HB6 := hid (below_row HB5.out W4.heap.size cs (Nat.le_refl _))
  have HX36 := hid (show ((W4.alloc (.cells ZC 35)).setRow W4.heap.size cs).heap[b3]? = _ from (setRow_other _ _ _ _ HN3.out).trans HX35.out)
  clear HX5 HL5 HX35 HB5
  generalize (W4.alloc (.cells ZC 35)).setRow W4.heap.size cs = W6 at *
  have HPL6 := hid (HPL4.out.low HB6.out)
  generalize W4.heap.size = b8 at *
  have HLM := hid (limited_any 123 x W6)
  rw [← HCS.out] at HLM
  go_upto_region 3 with fail
  refine wp_region_lit ?_
  refine wpList_load_row rfl 35 _ rfl b8 rfl 35 cs (0, 0) _ HX6.out Tryz.underlying35 rfl (by rw [HC9.out]; exact info53) ?_
  try simp only [Act.put, List.setIfInBounds_toArray, List.set_cons_zero, List.set_cons_succ]
  refine wpList_step fun K hK => ?_
  rw [if_pos (by first | rfl | kernel_rfl)]
  go_simp
  refine HLM.out.mono ?_
  rintro e W7 ⟨rfl, l⟩
  refine hK _ _ ?_
  clear hK K
  try simp only [Act.put, List.setIfInBounds_toArray, List.set_cons_zero, List.set_cons_succ]
  refine wpList_nil ?_
  have HL7 := hid (HL6.out.trans (l.mono HL6.out.size))
  have HB7 := hid l
  clear l
  have k0 : W7.cell? ⟨b8, 0, none⟩ = some (.int .i64 123) := (HB7.out.cell (p := ⟨b8, 0, none⟩) (lt_blk HX6.out)).trans ((cell_of_row _ _ 0 _ _ _ HX6.out).trans HQ.out)
  have kt : W7.cell? ⟨b3, 0, none⟩ = some (.slice va pn vc) := (HB7.out.cell (p := ⟨b3, 0, none⟩) (lt_blk HX36.out)).trans (cell_of_row _ _ 0 _ _ _ HX36.out)
  rw [e9]
  go_wp2_with fail
  go_ret
  exact ⟨rfl, HL7.out⟩
set_option maxHeartbeats 4000000 in
set_option maxRecDepth 100000 in
theorem reads_0 (src : ByteArray) (L : List Pt) (v : Option Addr) (cap : Nat) (w : World) (hv : Vars w) (hP : PL w v L) (hz : L.length ≤ 1000) {s : PS} (hR : parR src = .ok s) (hsp : s.ps = L) (hl : L.length ≤ 100000) (hs : src.size ≤ 140737488355328) (hk : ∀ j, j < L.length → (pt L j).kids.length ≤ 1000000) : Calls Tryz.prog 20 #[.string src, .slice v L.length cap] w fun e w' => e = .returned (.bool true) ∧ Below w.heap.size w w' := by
  have HV := hid hv
  have HP := hid hP
  clear hv hP
  obtain ⟨ln, hln⟩ : ∃ ln, ln = L.length := ⟨_, rfl⟩
  have HLN := hid hln
  rw [← hln] at hl ⊢
  obtain ⟨x, hx⟩ : ∃ x : Int, x = 0 := ⟨_, rfl⟩
  have hrc : rdc src = (0, x) := by rw [rdc_ok hR, hx]
  have HPS := hid ((rdp_ok hR).trans hsp)
  clear hR hx hsp hln
  have HRC := hid hrc
  clear hrc
  obtain ⟨ZC, hz⟩ : ∃ ZC : Array Value, ZC = f19 0 0 := ⟨_, rfl⟩
  have HZC := hid hz
  have HZ9 := hid (show ZC.size = 19 by rw [hz]; rfl)
  clear hz
  have e1 : (#[.int .i64 0, .int .i64 0, .string ⟨#[]⟩, .int .i64 0, .int .i64 0, .int .i64 0, .string ⟨#[]⟩, .int .i64 0, .int .i64 0, .int .i64 0, .string ⟨#[]⟩, .int .i64 0, .int .i64 0, .int .i64 0, .string ⟨#[]⟩, .int .i64 0, .int .i64 0, .int .i64 0, .string ⟨#[]⟩] : Array Value) = ZC := by rw [HZC.out]; rfl
  obtain ⟨cs, hcs⟩ : ∃ cs : Array Value, cs = f19 0 x := ⟨_, rfl⟩
  have HCS := hid hcs
  have HC9 := hid (show cs.size = 19 by rw [hcs]; rfl)
  have HQ := hid (show cs[0]? = some (.int .i64 0) by rw [hcs]; rfl)
  clear hcs
  have e9 : limB 0 = false := by decide
  go_enter Tryz.func20, Tryz.ntmps20
  go_wp2_with fail
  refine (parse_any src w HV.out).mono ?_
  rintro e W2 ⟨hp, l2⟩
  obtain ⟨va, vc, oa, oc, er, rfl, hpl, _, hrd⟩ := par_two hp
  rw [HRC.out] at hrd
  simp only at hrd
  have HPL := hid hpl
  have HRD := hid hrd
  have HL2 := hid l2
  clear l2 hp hpl hrd
  obtain ⟨pn, hpn⟩ : ∃ pn, pn = (rdp src).length := ⟨_, rfl⟩
  have HPN := hid hpn
  rw [← hpn]
  clear hpn
  go_upto_region 2 with fail
  have HB3 := hid (belowA W2 (.cells #[.slice va pn vc] 25))
  have HX3 := hid (heap_alloc_new W2 (.cells #[.slice va pn vc] 25))
  have HPL3 := hid (HPL.out.low HB3.out)
  generalize W2.alloc (.cells #[.slice va pn vc] 25) = W3 at *
  have HL3 := hid (HL2.out.trans (HB3.out.mono HL2.out.size))
  have HR3 := hid (HRD.out W3 HB3.out)
  rw [← HCS.out] at HR3
  generalize W2.heap.size = b3 at *
  refine wp_region_lit ?_
  refine wpList_plain rfl fun K hK => ?_
  have HK := hid hK
  clear hK
  go_simp
  (try rw [e1])
  refine HK.out _ _ ?_
  clear HK
  try simp only [Act.put, List.setIfInBounds_toArray, List.set_cons_zero, List.set_cons_succ]
  refine wpList_step fun K hK => ?_
  rw [if_pos (by first | rfl | kernel_rfl)]
  go_simp
  refine (HR3.out).mono ?_
  rintro e W4 ⟨rfl, l⟩
  refine hK _ _ ?_
  clear hK K
  try simp only [Act.put, List.setIfInBounds_toArray, List.set_cons_zero, List.set_cons_succ]
  refine wpList_plain rfl fun K hK => ?_
  have HK := hid hK
  clear hK
  go_simp
  (try rw [e1])
  refine HK.out _ _ ?_
  clear HK
  try simp only [Act.put, List.setIfInBounds_toArray, List.set_cons_zero, List.set_cons_succ]
  have HX5 := hid (heap_alloc_new W4 (.cells ZC 35))
  have HL4 := hid (HL3.out.trans (l.mono HL3.out.size))
  have HPL4 := hid (HPL3.out.low l)
  have HX34 := hid ((l.block _ (lt_blk HX3.out)).trans HX3.out)
  have HL5 := hid (HL4.out.trans ((belowA W4 (.cells ZC 35)).mono HL4.out.size))
  have HB5 := hid (belowA W4 (.cells ZC 35))
  have HX35 := hid (((belowA W4 (.cells ZC 35)).block _ (lt_blk HX34.out)).trans HX34.out)
  have HGE := hid HL4.out.size
  have HN3 := hid (Nat.ne_of_lt (lt_blk HX34.out))
  clear l
  refine wpList_store_row rfl 35 _ _ rfl W4.heap.size cs rfl rfl 35 ZC HX5.out (by rw [HC9.out]; exact info53) (by rw [HC9.out, HZ9.out]) (by rw [HCS.out]; kernel_rfl) ?_
  try simp only [Act.put, List.setIfInBounds_toArray, List.set_cons_zero, List.set_cons_succ]
  refine wpList_nil ?_
  have HX6 := hid (setRow_heap _ _ ZC cs _ _ HX5.out)
  have HL6 := hid (below_row HL5.out W4.heap.size cs HGE.out)
  have HB6 := hid (below_row HB5.out W4.heap.size cs (Nat.le_refl _))
  have HX36 := hid (show ((W4.alloc (.cells ZC 35)).setRow W4.heap.size cs).heap[b3]? = _ from (setRow_other _ _ _ _ HN3.out).trans HX35.out)
  clear HX5 HL5 HX35 HB5
  generalize (W4.alloc (.cells ZC 35)).setRow W4.heap.size cs = W6 at *
  have HPL6 := hid (HPL4.out.low HB6.out)
  generalize W4.heap.size = b8 at *
  have HLM := hid (limited_any 0 x W6)
  rw [← HCS.out] at HLM
  go_upto_region 3 with fail
  refine wp_region_lit ?_
  refine wpList_load_row rfl 35 _ rfl b8 rfl 35 cs (0, 0) _ HX6.out Tryz.underlying35 rfl (by rw [HC9.out]; exact info53) ?_
  try simp only [Act.put, List.setIfInBounds_toArray, List.set_cons_zero, List.set_cons_succ]
  refine wpList_step fun K hK => ?_
  rw [if_pos (by first | rfl | kernel_rfl)]
  go_simp
  refine HLM.out.mono ?_
  rintro e W7 ⟨rfl, l⟩
  refine hK _ _ ?_
  clear hK K
  try simp only [Act.put, List.setIfInBounds_toArray, List.set_cons_zero, List.set_cons_succ]
  refine wpList_nil ?_
  have HL7 := hid (HL6.out.trans (l.mono HL6.out.size))
  have HB7 := hid l
  clear l
  have k0 : W7.cell? ⟨b8, 0, none⟩ = some (.int .i64 0) := (HB7.out.cell (p := ⟨b8, 0, none⟩) (lt_blk HX6.out)).trans ((cell_of_row _ _ 0 _ _ _ HX6.out).trans HQ.out)
  have kt : W7.cell? ⟨b3, 0, none⟩ = some (.slice va pn vc) := (HB7.out.cell (p := ⟨b3, 0, none⟩) (lt_blk HX36.out)).trans (cell_of_row _ _ 0 _ _ _ HX36.out)
  rw [e9]
  have HP7 := hid ((HP.out.low HL7.out : PL W7 v L))
  have HQ7 := hid (HPL6.out.low HB7.out)
  rw [HPS.out] at HQ7
  rw [HPS.out, ← HLN.out] at HPN
  obtain rfl : pn = ln := HPN.out
  have HSM := hid (same_tree va v L vc cap W7 HQ7.out HP7.out hz hk)
  rw [← HLN.out] at HSM
  go_wp2_with fail
  refine HSM.out.mono ?_
  rintro e W8 ⟨rfl, l⟩
  have HL8 := hid (HL7.out.trans (l.mono HL7.out.size))
  clear l
  go_wp2_with fail
  go_ret
  exact ⟨rfl, HL8.out⟩
theorem reads_any (src : ByteArray) (L : List Pt) (v : Option Addr) (cap : Nat) (w : World) (hv : Vars w) (hP : PL w v L) (hR : Rds src L) (hl : L.length ≤ 100000) (hs : src.size ≤ 140737488355328) (hk : ∀ j, j < L.length → (pt L j).kids.length ≤ 1000000) : Calls Tryz.prog 20 #[.string src, .slice v L.length cap] w fun e w' => e = .returned (.bool true) ∧ Below w.heap.size w w' := by
  rcases hR with ⟨hz, x, hR⟩ | ⟨x, hR⟩ | ⟨hz, x, hR⟩ | ⟨hz, s, hR, hsp⟩
  · exact reads_110 src L v cap w hv hP hz hR hl hs hk
  · exact reads_122 src L v cap w hv hP hR hl hs hk
  · exact reads_123 src L v cap w hv hP hz hR hl hs hk
  · exact reads_0 src L v cap w hv hP hz hR hsp hl hs hk
end Go.Proofs.YtcldglilhhhdoaaGreatDoor.L
