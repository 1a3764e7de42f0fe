import Derived.Test.YtlhlpamciafocaaGreatDoorMgAJ
namespace Go.Proofs.YtlhlpamciafocaaGreatDoor.L
open Go.RowKit
set_option linter.unusedVariables false
set_option linter.unusedSimpArgs false
set_option maxHeartbeats 4000000 in
set_option maxRecDepth 100000 in
theorem tolerated_any {pb B : Nat} {Nb : Nat → Prop} {tv : Value} {T : List Tok} {W : World} {s : PS} {v o : Value} {ks : Nat → Value} (h : PM pb B Nb tv T W s v o ks) (hk : (tk T s.nx).kind ≠ 0) (hl : s.ps.length ≤ 100000) (hlo : s.os.length ≤ 100000) :
    Calls Tryz.prog 102 #[.pointer (some ⟨pb, 0, none⟩)] W fun e W' => Po pb B Nb tv T (fun k => .int .i64 k) (tolP T s) W v o e W' := by
  unfold tolP
  have HP := hid h
  have HK := hid hk
  have HL := hid (And.intro hl hlo)
  have rf3 := run_f3
  clear h hk hl hlo
  cases h1 : namedP T (adv s) with
  | error q =>
    obtain ⟨c, x⟩ := q
    have HR := hid h1
    rw [bnd_bad]
    clear h1
    go_enter Tryz.func102, Tryz.ntmps102
    go_wp2_with fail
    refine (take_any HP.out HK.out).mono ?_
    rintro e X ⟨rfl, hp, hf⟩
    have HPX := hid hp
    have HFX := hid hf
    clear hp hf
    unfold L.tv
    go_wp2_with fail
    refine (named_any HPX.out).mono ?_
    intro e Y hpo
    rw [HR.out] at hpo
    obtain ⟨N, rfl, hf, hb⟩ := po_bad hpo
    have HF := hid hf
    have HBD := hid ((HP.out.below HFX.out).trans hb)
    clear hf hb hpo
    go_wp2_with fail
    exact ⟨rfl, N, rfl, HF.out, HBD.out⟩
  | ok q =>
    obtain ⟨t, s1⟩ := q
    have HR := hid h1
    have HS := hid (named_ok h1)
    rw [bnd_ok]
    clear h1
    go_enter Tryz.func102, Tryz.ntmps102
    go_wp2_with fail
    refine (take_any HP.out HK.out).mono ?_
    rintro e X ⟨rfl, hp, hf⟩
    have HPX := hid hp
    have HFX := hid hf
    clear hp hf
    unfold L.tv
    go_wp2_with fail
    refine (named_any HPX.out).mono ?_
    intro e Y hpo
    rw [HR.out] at hpo
    obtain ⟨rfl, v1, o1, ks1, hp, hf⟩ := po_ok hpo
    have HPY := hid hp
    have HFY := hid (HFX.out.trans hf)
    clear hp hf hpo
    go_wp2_with fail
    refine (put0_any HPY.out 10 t 0 _ (by rw [HS.out]; exact HL.out.1) (by rw [HS.out]; exact HL.out.2)).mono ?_
    intro e U hpo
    obtain ⟨rfl, v', o', ks', hp, hf⟩ := po_ok hpo
    have HPU := hid hp
    have HFU := hid (HFY.out.trans hf)
    clear hp hf hpo
    go_wp2_with fail
    go_ret
    exact ⟨rfl, v', o', ks', HPU.out, HFU.out⟩
theorem field_kind {t : Tok} (h : fieldO t ≠ 0) : t.kind ≠ 0 := by
  intro h0
  apply h
  unfold fieldO
  rw [if_neg (by omega)]
set_option maxHeartbeats 4000000 in
set_option maxRecDepth 100000 in
theorem field_any {pb B : Nat} {Nb : Nat → Prop} {tv : Value} {T : List Tok} {W : World} {s : PS} {v o : Value} {ks : Nat → Value} (h : PM pb B Nb tv T W s v o ks) :
    Calls Tryz.prog 144 #[.pointer (some ⟨pb, 0, none⟩)] W fun e W' => Po pb B Nb tv T (fun k => .int .i64 k) (fieldP T s) W v o e W' := by
  unfold fieldP
  have HP := hid h
  clear h
  obtain ⟨q, hq⟩ : ∃ q, q = fieldO (tk T s.nx) := ⟨_, rfl⟩
  have HQ := hid hq.symm
  rw [← hq]
  by_cases h0 : q = 0
  · rw [if_pos h0]
    have e0 : (q == 0) = true := by simp [h0]
    clear hq h0
    go_enter Tryz.func144, Tryz.ntmps144
    go_wp2_with fail
    refine (token_any HP.out).mono ?_
    rintro e X ⟨rfl, l⟩
    have HBX := hid l
    clear l
    go_wp2_with fail
    refine (fieldof_any _ _).mono ?_
    rintro e Y ⟨rfl, l⟩
    have HBY := hid (HBX.out.trans (l.mono HBX.out.size))
    clear l
    rw [HQ.out]
    go_wp2_with fail
    refine (refuse_any (HP.out.low HBY.out)).mono ?_
    rintro e V ⟨N, rfl, hf, hb⟩
    have HF := hid hf
    have HBD := hid (HP.out.below (Fp.of v o (HBY.out.trans (hb.mono HBY.out.size))))
    clear hf hb
    go_wp2_with fail
    exact ⟨rfl, N, rfl, HF.out, HBD.out⟩
  · rw [if_neg h0]
    have e0 : (q == 0) = false := by simp [h0]
    have HK := hid (field_kind (t := tk T s.nx) (by rw [← hq]; exact h0))
    clear hq h0
    go_enter Tryz.func144, Tryz.ntmps144
    go_wp2_with fail
    refine (token_any HP.out).mono ?_
    rintro e X ⟨rfl, l⟩
    have HBX := hid l
    clear l
    go_wp2_with fail
    refine (fieldof_any _ _).mono ?_
    rintro e Y ⟨rfl, l⟩
    have HBY := hid (HBX.out.trans (l.mono HBX.out.size))
    clear l
    rw [HQ.out]
    go_wp2_with fail
    refine (take_any (HP.out.low HBY.out) HK.out).mono ?_
    rintro e V ⟨rfl, hp, hf⟩
    have HPV := hid hp
    have HFV := hid ((Fp.of v o HBY.out).trans hf)
    clear hp hf
    go_wp2_with fail
    go_ret
    exact ⟨rfl, v, o, ks, HPV.out, HFV.out⟩
end Go.Proofs.YtlhlpamciafocaaGreatDoor.L
namespace Go.Proofs.YtlhlpamciafocaaGreatDoor.L
open Go.RowKit
set_option linter.unusedVariables false
set_option linter.unusedSimpArgs false
set_option maxHeartbeats 4000000 in
set_option maxRecDepth 100000 in
theorem element_any {pb B : Nat} {Nb : Nat → Prop} {tv : Value} {T : List Tok} {W : World} {s : PS} {v o : Value} {ks : Nat → Value} (h : PM pb B Nb tv T W s v o ks) (hk : (tk T s.nx).kind ≠ 0) (hl : s.ps.length ≤ 100000) (hlo : s.os.length ≤ 100000) :
    Calls Tryz.prog 129 #[.pointer (some ⟨pb, 0, none⟩)] W fun e W' => Po pb B Nb tv T (fun k => .int .i64 k) (elP T s) W v o e W' := by
  unfold elP
  have HP := hid h
  have HTA := hid (take_any h hk)
  have HL := hid (And.intro hl hlo)
  clear h hk hl hlo
  obtain ⟨t, ht⟩ : ∃ t, t = tk T s.nx := ⟨_, rfl⟩
  rw [← ht] at HTA ⊢
  unfold L.tv at HTA
  clear ht
  by_cases h1 : t.kind = 1
  · rw [if_pos h1]
    have e1 : ((t.kind : Int) == 1) = true := by simp [h1]
    clear h1
    go_enter Tryz.func129, Tryz.ntmps129
    go_upto_region 1 with (fail)
    refine wp_region_lit ?_
    refine wpList_plain rfl fun K hK => ?_
    have HK := hid hK
    clear hK
    go_simp
    refine HK.out _ _ ?_
    clear HK
    try simp only [Act.put, List.setIfInBounds_toArray, List.set_cons_zero, List.set_cons_succ]
    refine wpList_step fun K hK => ?_
    rw [if_pos (by first | rfl | kernel_rfl)]
    go_simp
    refine (HTA.out).mono ?_
    rintro e X ⟨rfl, hp, hf⟩
    have HPX := hid hp
    have HFX := hid hf
    clear hp hf
    refine hK _ _ ?_
    clear hK K
    try simp only [Act.put, List.setIfInBounds_toArray, List.set_cons_zero, List.set_cons_succ]
    refine wpList_plain rfl fun K hK => ?_
    have HK := hid hK
    clear hK
    go_simp
    refine HK.out _ _ ?_
    clear HK
    try simp only [Act.put, List.setIfInBounds_toArray, List.set_cons_zero, List.set_cons_succ]
    have HXB := hid (belowA X (.cells #[.int .i64 0, .string ⟨#[]⟩, .int .i64 0, .int .i64 0, .int .i64 0] 80))
    have HXN := hid (heap_alloc_new X (.cells #[.int .i64 0, .string ⟨#[]⟩, .int .i64 0, .int .i64 0, .int .i64 0] 80))
    have HTL := hid (show tv.ownBlock ≠ some X.heap.size from fun e => (by have h1 := HPX.out.tlt _ e; have h2 := HPX.out.pbB; have h3 := lt_blk HPX.out.box; omega))
    refine wpList_store_row rfl 80 _ _ rfl X.heap.size #[.int .i64 (t.kind : Int), .string t.text, .int .i64 t.num, .int .i64 (t.a : Int), .int .i64 (t.e : Int)] rfl rfl 80 _ HXN.out infoTk rfl (by kernel_rfl) ?_
    try simp only [Act.put, List.setIfInBounds_toArray, List.set_cons_zero, List.set_cons_succ]
    have HPY := hid ((HPX.out.low HXB.out).row HXN.out HTL.out #[.int .i64 (t.kind : Int), .string t.text, .int .i64 t.num, .int .i64 (t.a : Int), .int .i64 (t.e : Int)])
    have HFY := hid (fp_row (HFX.out.below HXB.out) X.heap.size #[.int .i64 (t.kind : Int), .string t.text, .int .i64 t.num, .int .i64 (t.a : Int), .int .i64 (t.e : Int)] HFX.out.size)
    have HC := hid (cells5 (setRow_heap _ _ _ #[.int .i64 (t.kind : Int), .string t.text, .int .i64 t.num, .int .i64 (t.a : Int), .int .i64 (t.e : Int)] _ _ HXN.out))
    generalize (X.alloc (.cells #[.int .i64 0, .string ⟨#[]⟩, .int .i64 0, .int .i64 0, .int .i64 0] 80)).setRow X.heap.size #[.int .i64 (t.kind : Int), .string t.text, .int .i64 t.num, .int .i64 (t.a : Int), .int .i64 (t.e : Int)] = Y at *
    have ⟨x0, x1, x2, x3, x4⟩ := HC.out
    go_wp2_with fail
    refine (put0_any HPY.out 11 t.text 0 _ HL.out.1 HL.out.2).mono ?_
    intro e U hpo
    obtain ⟨rfl, v', o', ks', hp, hf⟩ := po_ok hpo
    have HPU := hid hp
    have HFU := hid (HFY.out.trans hf)
    clear hp hf hpo
    go_wp2_with fail
    go_ret
    exact ⟨rfl, v', o', ks', HPU.out, HFU.out⟩
  · rw [if_neg h1]
    have e1 : ((t.kind : Int) == 1) = false := by simp; omega
    clear h1
    go_enter Tryz.func129, Tryz.ntmps129
    go_upto_region 1 with (fail)
    refine wp_region_lit ?_
    refine wpList_plain rfl fun K hK => ?_
    have HK := hid hK
    clear hK
    go_simp
    refine HK.out _ _ ?_
    clear HK
    try simp only [Act.put, List.setIfInBounds_toArray, List.set_cons_zero, List.set_cons_succ]
    refine wpList_step fun K hK => ?_
    rw [if_pos (by first | rfl | kernel_rfl)]
    go_simp
    refine (HTA.out).mono ?_
    rintro e X ⟨rfl, hp, hf⟩
    have HPX := hid hp
    have HFX := hid hf
    clear hp hf
    refine hK _ _ ?_
    clear hK K
    try simp only [Act.put, List.setIfInBounds_toArray, List.set_cons_zero, List.set_cons_succ]
    refine wpList_plain rfl fun K hK => ?_
    have HK := hid hK
    clear hK
    go_simp
    refine HK.out _ _ ?_
    clear HK
    try simp only [Act.put, List.setIfInBounds_toArray, List.set_cons_zero, List.set_cons_succ]
    have HXB := hid (belowA X (.cells #[.int .i64 0, .string ⟨#[]⟩, .int .i64 0, .int .i64 0, .int .i64 0] 80))
    have HXN := hid (heap_alloc_new X (.cells #[.int .i64 0, .string ⟨#[]⟩, .int .i64 0, .int .i64 0, .int .i64 0] 80))
    have HTL := hid (show tv.ownBlock ≠ some X.heap.size from fun e => (by have h1 := HPX.out.tlt _ e; have h2 := HPX.out.pbB; have h3 := lt_blk HPX.out.box; omega))
    refine wpList_store_row rfl 80 _ _ rfl X.heap.size #[.int .i64 (t.kind : Int), .string t.text, .int .i64 t.num, .int .i64 (t.a : Int), .int .i64 (t.e : Int)] rfl rfl 80 _ HXN.out infoTk rfl (by kernel_rfl) ?_
    try simp only [Act.put, List.setIfInBounds_toArray, List.set_cons_zero, List.set_cons_succ]
    have HPY := hid ((HPX.out.low HXB.out).row HXN.out HTL.out #[.int .i64 (t.kind : Int), .string t.text, .int .i64 t.num, .int .i64 (t.a : Int), .int .i64 (t.e : Int)])
    have HFY := hid (fp_row (HFX.out.below HXB.out) X.heap.size #[.int .i64 (t.kind : Int), .string t.text, .int .i64 t.num, .int .i64 (t.a : Int), .int .i64 (t.e : Int)] HFX.out.size)
    have HC := hid (cells5 (setRow_heap _ _ _ #[.int .i64 (t.kind : Int), .string t.text, .int .i64 t.num, .int .i64 (t.a : Int), .int .i64 (t.e : Int)] _ _ HXN.out))
    generalize (X.alloc (.cells #[.int .i64 0, .string ⟨#[]⟩, .int .i64 0, .int .i64 0, .int .i64 0] 80)).setRow X.heap.size #[.int .i64 (t.kind : Int), .string t.text, .int .i64 t.num, .int .i64 (t.a : Int), .int .i64 (t.e : Int)] = Y at *
    have ⟨x0, x1, x2, x3, x4⟩ := HC.out
    go_wp2_with fail
    refine (put0_any HPY.out 12 ⟨#[]⟩ t.num _ HL.out.1 HL.out.2).mono ?_
    intro e U hpo
    obtain ⟨rfl, v', o', ks', hp, hf⟩ := po_ok hpo
    have HPU := hid hp
    have HFU := hid (HFY.out.trans hf)
    clear hp hf hpo
    go_wp2_with fail
    go_ret
    exact ⟨rfl, v', o', ks', HPU.out, HFU.out⟩
end Go.Proofs.YtlhlpamciafocaaGreatDoor.L
namespace Go.Proofs.YtlhlpamciafocaaGreatDoor.L
open Go.RowKit
set_option linter.unusedVariables false
set_option linter.unusedSimpArgs false
theorem isel_kind {t : Tok} (h : isEl t = true) : t.kind ≠ 0 := by
  unfold isEl at h
  simp at h
  omega
set_option maxHeartbeats 4000000 in
set_option maxRecDepth 100000 in
theorem member_any {pb B : Nat} {Nb : Nat → Prop} {tv : Value} {T : List Tok} {W : World} {s : PS} {v o : Value} {ks : Nat → Value} (h : PM pb B Nb tv T W s v o ks) (n : Nat) (hl : s.ps.length ≤ 100000) (hlo : s.os.length ≤ 100000) :
    Calls Tryz.prog 140 #[.pointer (some ⟨pb, 0, none⟩), .int .i64 (n : Int)] W fun e W' => Po pb B Nb tv T (fun k => .int .i64 k) (memP T s n) W v o e W' := by
  unfold memP
  have HP := hid h
  have HTK := hid (token_any h)
  have HL := hid (And.intro hl hlo)
  have HEL := hid (fun (Z : World) (hz : PM pb B Nb tv T Z s v o ks) (hk : (tk T s.nx).kind ≠ 0) => element_any hz hk hl hlo)
  have HRF := hid (fun (Z : World) (hz : PM pb B Nb tv T Z s v o ks) => refuse_any hz)
  clear h hl hlo
  obtain ⟨r, hr⟩ : ∃ r, r = rfE T s := ⟨_, rfl⟩
  obtain ⟨el, hel⟩ : ∃ el, el = elP T s := ⟨_, rfl⟩
  rw [← hr] at HRF ⊢
  rw [← hel] at HEL ⊢
  clear hr hel
  obtain ⟨t, ht⟩ : ∃ t, t = tk T s.nx := ⟨_, rfl⟩
  rw [← ht] at HTK HEL ⊢
  unfold L.tv at HTK
  clear ht
  by_cases h1 : isEl t = true
  · rw [if_pos h1]
    have HIS := hid h1
    have HK := hid (isel_kind h1)
    clear h1
    by_cases h2 : n = 64
    · rw [if_pos h2]
      have e2 : ((n : Int) == 64) = true := by simp [h2]
      clear h2
      go_enter Tryz.func140, Tryz.ntmps140
      go_upto_region 1 with (fail)
      refine wp_region_lit ?_
      refine wpList_plain rfl fun K hK => ?_
      have HK := hid hK
      clear hK
      go_simp
      refine HK.out _ _ ?_
      clear HK
      try simp only [Act.put, List.setIfInBounds_toArray, List.set_cons_zero, List.set_cons_succ]
      refine wpList_step fun K hK => ?_
      rw [if_pos (by first | rfl | kernel_rfl)]
      go_simp
      refine (HTK.out).mono ?_
      rintro e X ⟨rfl, l⟩
      have HBX := hid l
      clear l
      refine hK _ _ ?_
      clear hK K
      try simp only [Act.put, List.setIfInBounds_toArray, List.set_cons_zero, List.set_cons_succ]
      refine wpList_plain rfl fun K hK => ?_
      have HK := hid hK
      clear hK
      go_simp
      refine HK.out _ _ ?_
      clear HK
      try simp only [Act.put, List.setIfInBounds_toArray, List.set_cons_zero, List.set_cons_succ]
      have HPX := hid (HP.out.low HBX.out)
      have HXB := hid (belowA X (.cells #[.int .i64 0, .string ⟨#[]⟩, .int .i64 0, .int .i64 0, .int .i64 0] 80))
      have HXN := hid (heap_alloc_new X (.cells #[.int .i64 0, .string ⟨#[]⟩, .int .i64 0, .int .i64 0, .int .i64 0] 80))
      have HTL := hid (show tv.ownBlock ≠ some X.heap.size from fun e => (by have h1 := HPX.out.tlt _ e; have h2 := HPX.out.pbB; have h3 := lt_blk HPX.out.box; omega))
      refine wpList_store_row rfl 80 _ _ rfl X.heap.size #[.int .i64 (t.kind : Int), .string t.text, .int .i64 t.num, .int .i64 (t.a : Int), .int .i64 (t.e : Int)] rfl rfl 80 _ HXN.out infoTk rfl (by kernel_rfl) ?_
      try simp only [Act.put, List.setIfInBounds_toArray, List.set_cons_zero, List.set_cons_succ]
      have HPY := hid ((HPX.out.low HXB.out).row HXN.out HTL.out #[.int .i64 (t.kind : Int), .string t.text, .int .i64 t.num, .int .i64 (t.a : Int), .int .i64 (t.e : Int)])
      have HFY := hid (fp_row ((Fp.of (pb := pb) v o HBX.out).below HXB.out) X.heap.size #[.int .i64 (t.kind : Int), .string t.text, .int .i64 t.num, .int .i64 (t.a : Int), .int .i64 (t.e : Int)] HBX.out.size)
      have HCR := hid (setRow_heap _ _ _ #[.int .i64 (t.kind : Int), .string t.text, .int .i64 t.num, .int .i64 (t.a : Int), .int .i64 (t.e : Int)] _ _ HXN.out)
      generalize (X.alloc (.cells #[.int .i64 0, .string ⟨#[]⟩, .int .i64 0, .int .i64 0, .int .i64 0] 80)).setRow X.heap.size #[.int .i64 (t.kind : Int), .string t.text, .int .i64 t.num, .int .i64 (t.a : Int), .int .i64 (t.e : Int)] = Y at *
      have ⟨x0, x1, x2, x3, x4⟩ := cells5 HCR.out
      go_wp2_with fail
      refine (isel_any t _).mono ?_
      rintro e Z ⟨rfl, l⟩
      rw [HIS.out]
      have HPZ := hid (HPY.out.low l)
      have HFZ := hid (HFY.out.below l)
      have HCZ := hid ((l.block _ (lt_blk HCR.out)).trans HCR.out)
      clear l x0 x1 x2 x3 x4
      have ⟨x0, x1, x2, x3, x4⟩ := cells5 HCZ.out
      go_wp2_with fail
      refine (giveup_any 124 _ _).mono ?_
      rintro e V ⟨N, rfl, hf, hb⟩
      have HF := hid hf
      have HBD := hid (HP.out.below (HFZ.out.below hb))
      clear hf hb
      go_wp2_with fail
      exact ⟨rfl, N, rfl, HF.out, HBD.out⟩
    · rw [if_neg h2]
      have e2 : ((n : Int) == 64) = false := by simp; omega
      clear h2
      go_enter Tryz.func140, Tryz.ntmps140
      go_upto_region 1 with (fail)
      refine wp_region_lit ?_
      refine wpList_plain rfl fun K hK => ?_
      have HK := hid hK
      clear hK
      go_simp
      refine HK.out _ _ ?_
      clear HK
      try simp only [Act.put, List.setIfInBounds_toArray, List.set_cons_zero, List.set_cons_succ]
      refine wpList_step fun K hK => ?_
      rw [if_pos (by first | rfl | kernel_rfl)]
      go_simp
      refine (HTK.out).mono ?_
      rintro e X ⟨rfl, l⟩
      have HBX := hid l
      clear l
      refine hK _ _ ?_
      clear hK K
      try simp only [Act.put, List.setIfInBounds_toArray, List.set_cons_zero, List.set_cons_succ]
      refine wpList_plain rfl fun K hK => ?_
      have HK := hid hK
      clear hK
      go_simp
      refine HK.out _ _ ?_
      clear HK
      try simp only [Act.put, List.setIfInBounds_toArray, List.set_cons_zero, List.set_cons_succ]
      have HPX := hid (HP.out.low HBX.out)
      have HXB := hid (belowA X (.cells #[.int .i64 0, .string ⟨#[]⟩, .int .i64 0, .int .i64 0, .int .i64 0] 80))
      have HXN := hid (heap_alloc_new X (.cells #[.int .i64 0, .string ⟨#[]⟩, .int .i64 0, .int .i64 0, .int .i64 0] 80))
      have HTL := hid (show tv.ownBlock ≠ some X.heap.size from fun e => (by have h1 := HPX.out.tlt _ e; have h2 := HPX.out.pbB; have h3 := lt_blk HPX.out.box; omega))
      refine wpList_store_row rfl 80 _ _ rfl X.heap.size #[.int .i64 (t.kind : Int), .string t.text, .int .i64 t.num, .int .i64 (t.a : Int), .int .i64 (t.e : Int)] rfl rfl 80 _ HXN.out infoTk rfl (by kernel_rfl) ?_
      try simp only [Act.put, List.setIfInBounds_toArray, List.set_cons_zero, List.set_cons_succ]
      have HPY := hid ((HPX.out.low HXB.out).row HXN.out HTL.out #[.int .i64 (t.kind : Int), .string t.text, .int .i64 t.num, .int .i64 (t.a : Int), .int .i64 (t.e : Int)])
      have HFY := hid (fp_row ((Fp.of (pb := pb) v o HBX.out).below HXB.out) X.heap.size #[.int .i64 (t.kind : Int), .string t.text, .int .i64 t.num, .int .i64 (t.a : Int), .int .i64 (t.e : Int)] HBX.out.size)
      have HCR := hid (setRow_heap _ _ _ #[.int .i64 (t.kind : Int), .string t.text, .int .i64 t.num, .int .i64 (t.a : Int), .int .i64 (t.e : Int)] _ _ HXN.out)
      generalize (X.alloc (.cells #[.int .i64 0, .string ⟨#[]⟩, .int .i64 0, .int .i64 0, .int .i64 0] 80)).setRow X.heap.size #[.int .i64 (t.kind : Int), .string t.text, .int .i64 t.num, .int .i64 (t.a : Int), .int .i64 (t.e : Int)] = Y at *
      have ⟨x0, x1, x2, x3, x4⟩ := cells5 HCR.out
      go_wp2_with fail
      refine (isel_any t _).mono ?_
      rintro e Z ⟨rfl, l⟩
      rw [HIS.out]
      have HPZ := hid (HPY.out.low l)
      have HFZ := hid (HFY.out.below l)
      have HCZ := hid ((l.block _ (lt_blk HCR.out)).trans HCR.out)
      clear l x0 x1 x2 x3 x4
      have ⟨x0, x1, x2, x3, x4⟩ := cells5 HCZ.out
      go_wp2_with fail
      refine (HEL.out _ HPZ.out HK.out).mono ?_
      intro e U hpo
      have HPO := hid (hpo.back HP.out HFZ.out)
      clear hpo
      cases el with
      | error q =>
        obtain ⟨c, x⟩ := q
        obtain ⟨N, rfl, hf, hb⟩ := po_bad HPO.out
        have HF := hid hf
        have HBD := hid hb
        clear hf hb HPO
        go_wp2_with fail
        exact ⟨rfl, N, rfl, HF.out, HBD.out⟩
      | ok q =>
        obtain ⟨a, s2⟩ := q
        obtain ⟨rfl, v', o', ks', hp, hf⟩ := po_ok HPO.out
        have HPU := hid hp
        have HFU := hid hf
        clear hp hf HPO
        go_wp2_with fail
        go_ret
        exact ⟨rfl, v', o', ks', HPU.out, HFU.out⟩
  · rw [if_neg h1]
    have HIS := hid (show isEl t = false by simpa using h1)
    clear h1
    go_enter Tryz.func140, Tryz.ntmps140
    go_upto_region 1 with (fail)
    refine wp_region_lit ?_
    refine wpList_plain rfl fun K hK => ?_
    have HK := hid hK
    clear hK
    go_simp
    refine HK.out _ _ ?_
    clear HK
    try simp only [Act.put, List.setIfInBounds_toArray, List.set_cons_zero, List.set_cons_succ]
    refine wpList_step fun K hK => ?_
    rw [if_pos (by first | rfl | kernel_rfl)]
    go_simp
    refine (HTK.out).mono ?_
    rintro e X ⟨rfl, l⟩
    have HBX := hid l
    clear l
    refine hK _ _ ?_
    clear hK K
    try simp only [Act.put, List.setIfInBounds_toArray, List.set_cons_zero, List.set_cons_succ]
    refine wpList_plain rfl fun K hK => ?_
    have HK := hid hK
    clear hK
    go_simp
    refine HK.out _ _ ?_
    clear HK
    try simp only [Act.put, List.setIfInBounds_toArray, List.set_cons_zero, List.set_cons_succ]
    have HPX := hid (HP.out.low HBX.out)
    have HXB := hid (belowA X (.cells #[.int .i64 0, .string ⟨#[]⟩, .int .i64 0, .int .i64 0, .int .i64 0] 80))
    have HXN := hid (heap_alloc_new X (.cells #[.int .i64 0, .string ⟨#[]⟩, .int .i64 0, .int .i64 0, .int .i64 0] 80))
    have HTL := hid (show tv.ownBlock ≠ some X.heap.size from fun e => (by have h1 := HPX.out.tlt _ e; have h2 := HPX.out.pbB; have h3 := lt_blk HPX.out.box; omega))
    refine wpList_store_row rfl 80 _ _ rfl X.heap.size #[.int .i64 (t.kind : Int), .string t.text, .int .i64 t.num, .int .i64 (t.a : Int), .int .i64 (t.e : Int)] rfl rfl 80 _ HXN.out infoTk rfl (by kernel_rfl) ?_
    try simp only [Act.put, List.setIfInBounds_toArray, List.set_cons_zero, List.set_cons_succ]
    have HPY := hid ((HPX.out.low HXB.out).row HXN.out HTL.out #[.int .i64 (t.kind : Int), .string t.text, .int .i64 t.num, .int .i64 (t.a : Int), .int .i64 (t.e : Int)])
    have HFY := hid (fp_row ((Fp.of (pb := pb) v o HBX.out).below HXB.out) X.heap.size #[.int .i64 (t.kind : Int), .string t.text, .int .i64 t.num, .int .i64 (t.a : Int), .int .i64 (t.e : Int)] HBX.out.size)
    have HCR := hid (setRow_heap _ _ _ #[.int .i64 (t.kind : Int), .string t.text, .int .i64 t.num, .int .i64 (t.a : Int), .int .i64 (t.e : Int)] _ _ HXN.out)
    generalize (X.alloc (.cells #[.int .i64 0, .string ⟨#[]⟩, .int .i64 0, .int .i64 0, .int .i64 0] 80)).setRow X.heap.size #[.int .i64 (t.kind : Int), .string t.text, .int .i64 t.num, .int .i64 (t.a : Int), .int .i64 (t.e : Int)] = Y at *
    have ⟨x0, x1, x2, x3, x4⟩ := cells5 HCR.out
    go_wp2_with fail
    refine (isel_any t _).mono ?_
    rintro e Z ⟨rfl, l⟩
    rw [HIS.out]
    have HPZ := hid (HPY.out.low l)
    have HFZ := hid (HFY.out.below l)
    have HCZ := hid ((l.block _ (lt_blk HCR.out)).trans HCR.out)
    clear l x0 x1 x2 x3 x4
    have ⟨x0, x1, x2, x3, x4⟩ := cells5 HCZ.out
    go_wp2_with fail
    refine (HRF.out _ HPZ.out).mono ?_
    rintro e V ⟨N, rfl, hf, hb⟩
    have HF := hid hf
    have HBD := hid (HP.out.below (HFZ.out.below hb))
    clear hf hb
    go_wp2_with fail
    exact ⟨rfl, N, rfl, HF.out, HBD.out⟩
end Go.Proofs.YtlhlpamciafocaaGreatDoor.L
