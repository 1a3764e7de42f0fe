import Derived.Test.YtlhlpamciafocaaGreatDoorMgAN
namespace Go.Proofs.YtlhlpamciafocaaGreatDoor.L
open Go.RowKit
set_option linter.unusedVariables false
set_option linter.unusedSimpArgs false
set_option maxHeartbeats 4000000 in
set_option maxRecDepth 100000 in
theorem worded_any {pb B : Nat} {Nb : Nat → Prop} {tv : Value} {T : List Tok} {W : World} {s : PS} {v o : Value} {ks : Nat → Value} {r r2 : PS → PRes Int} (ho : Ct pb B tv T 33 r (s.nx + 1)) (gho : Gone r) (ho2 : Ct pb B tv T 117 r2 (s.nx + 1)) (gho2 : Gone r2) (hk : (tk T s.nx).kind ≠ 0) (h : PM pb B Nb tv T W s v o ks) (hi : Inv s) :
    Calls Tryz.prog 131 #[.pointer (some ⟨pb, 0, none⟩)] W fun e W' => Po pb B Nb tv T (fun k => .int .i64 k) (wordP T r r2 s) W v o e W' := by
  have HP := hid h
  have HF0 := hid (Fp.refl pb W v o)
  have HP0 := hid h
  have HI := hid hi
  clear h hi
  have HC := hid ho
  have HG := hid gho
  have HC2 := hid ho2
  have HG2 := hid gho2
  clear ho gho ho2 gho2
  have HK := hid hk
  clear hk
  have rf1 := run_f1
  have rf3 := run_f3
  have hmf : ∀ (fn : Fn) (first cap : Array Value) (w : World), (Instr.makeFunc fn first cap).run Tryz.prog w = .ok (.func fn first cap) w := fun _ _ _ _ => rfl
  obtain ⟨R, hR⟩ : ∃ R, R = wordP T r r2 s := ⟨_, rfl⟩
  have HR := hid hR.symm
  rw [← hR]
  clear hR
  unfold wordP at HR
  obtain ⟨t, ht⟩ : ∃ t, t = tk T s.nx := ⟨_, rfl⟩
  have HT := hid ht
  have HTK := hid (token_any HP0.out)
  rw [← ht] at HR HTK
  unfold L.tv at HTK
  clear ht
  by_cases h0 : t.text.toList = [110, 111, 100, 101]
  · rw [if_pos h0] at HR
    have e0 := beq_t h0
    clear h0
    go_enter Tryz.func131, Tryz.ntmps131
    go_wp2_with fail
    refine (HTK.out).mono ?_
    rintro e W1 ⟨rfl, l⟩
    have HP1 := hid (HP0.out.low l)
    have HF1 := hid (HF0.out.below l)
    clear l
    clear HTK
    go_wp2_with fail
    refine (who_any (r := r) (r2 := r) HK.out 2 HP1.out HI.out).mono ?_
    intro e U hpo
    have HPO := hid hpo
    rw [HR.out] at HPO
    clear hpo
    cases R with
    | error q =>
      obtain ⟨c, x⟩ := q
      obtain ⟨N, rfl, hf, hb⟩ := po_bad HPO.out
      have HFL := hid hf
      have HBD := hid ((HP.out.below HF1.out).trans hb)
      clear hf hb HPO
      go_wp2_with fail
      exact ⟨rfl, N, rfl, HFL.out, HBD.out⟩
    | ok q =>
      obtain ⟨z, s9⟩ := q
      obtain ⟨rfl, v9, o9, ks9, hp, hf⟩ := po_ok HPO.out
      have HPU := hid hp
      have HFU := hid (HF1.out.trans hf)
      clear hp hf HPO
      go_wp2_with fail
      go_ret
      exact ⟨rfl, v9, o9, ks9, HPU.out, HFU.out⟩
  · rw [if_neg h0] at HR
    have e0 := beq_f h0
    clear h0
    by_cases h1 : t.text.toList = [112, 111, 100]
    · rw [if_pos h1] at HR
      have e1 := beq_t h1
      clear h1
      go_enter Tryz.func131, Tryz.ntmps131
      go_wp2_with fail
      refine (HTK.out).mono ?_
      rintro e W1 ⟨rfl, l⟩
      have HP1 := hid (HP0.out.low l)
      have HF1 := hid (HF0.out.below l)
      clear l
      clear HTK
      go_wp2_with fail
      refine (who_any (r := r) (r2 := r) HK.out 1 HP1.out HI.out).mono ?_
      intro e U hpo
      have HPO := hid hpo
      rw [HR.out] at HPO
      clear hpo
      cases R with
      | error q =>
        obtain ⟨c, x⟩ := q
        obtain ⟨N, rfl, hf, hb⟩ := po_bad HPO.out
        have HFL := hid hf
        have HBD := hid ((HP.out.below HF1.out).trans hb)
        clear hf hb HPO
        go_wp2_with fail
        exact ⟨rfl, N, rfl, HFL.out, HBD.out⟩
      | ok q =>
        obtain ⟨z, s9⟩ := q
        obtain ⟨rfl, v9, o9, ks9, hp, hf⟩ := po_ok HPO.out
        have HPU := hid hp
        have HFU := hid (HF1.out.trans hf)
        clear hp hf HPO
        go_wp2_with fail
        go_ret
        exact ⟨rfl, v9, o9, ks9, HPU.out, HFU.out⟩
    · rw [if_neg h1] at HR
      have e1 := beq_f h1
      clear h1
      by_cases h2 : t.text.toList = [105, 116]
      · rw [if_pos h2] at HR
        have e2 := beq_t h2
        clear h2
        go_enter Tryz.func131, Tryz.ntmps131
        go_wp2_with fail
        refine (HTK.out).mono ?_
        rintro e W1 ⟨rfl, l⟩
        have HP1 := hid (HP0.out.low l)
        have HF1 := hid (HF0.out.below l)
        clear l
        clear HTK
        go_wp2_with fail
        refine (who_any (r := r) (r2 := r) HK.out 3 HP1.out HI.out).mono ?_
        intro e U hpo
        have HPO := hid hpo
        rw [HR.out] at HPO
        clear hpo
        cases R with
        | error q =>
          obtain ⟨c, x⟩ := q
          obtain ⟨N, rfl, hf, hb⟩ := po_bad HPO.out
          have HFL := hid hf
          have HBD := hid ((HP.out.below HF1.out).trans hb)
          clear hf hb HPO
          go_wp2_with fail
          exact ⟨rfl, N, rfl, HFL.out, HBD.out⟩
        | ok q =>
          obtain ⟨z, s9⟩ := q
          obtain ⟨rfl, v9, o9, ks9, hp, hf⟩ := po_ok HPO.out
          have HPU := hid hp
          have HFU := hid (HF1.out.trans hf)
          clear hp hf HPO
          go_wp2_with fail
          go_ret
          exact ⟨rfl, v9, o9, ks9, HPU.out, HFU.out⟩
      · rw [if_neg h2] at HR
        have e2 := beq_f h2
        clear h2
        by_cases h3 : t.text.toList = [105, 110, 116]
        · rw [if_pos h3] at HR
          have e3 := beq_t h3
          clear h3
          have HKT := hid (show t.kind ≠ 0 by rw [HT.out]; exact HK.out)
          go_enter Tryz.func131, Tryz.ntmps131
          go_wp2_with fail
          refine (HTK.out).mono ?_
          rintro e W1 ⟨rfl, l⟩
          have HP1 := hid (HP0.out.low l)
          have HF1 := hid (HF0.out.below l)
          clear l
          clear HTK
          have HTA := hid (take_any HP1.out HK.out)
          rw [← HT.out] at HTA
          unfold L.tv at HTA
          go_wp2_with fail
          refine HTA.out.mono ?_
          rintro e W2 ⟨rfl, hp, hf⟩
          have HP2 := hid hp
          have HF2 := hid (HF1.out.trans hf)
          clear hp hf HTA
          have HI2 := hid (HI.out.gn (gn_adv s))
          go_wp2_with fail
          refine (within_term (r2 := r) (HC2.out.up (by simp only [adv]; omega)) HG2.out HP2.out HI2.out).mono ?_
          intro e W3 hpo
          cases hq : withP T r2 (adv s) with
          | error q =>
            obtain ⟨c, x⟩ := q
            rw [hq] at hpo HR
            rw [bnd_bad] at HR
            obtain ⟨N, rfl, hf, hb⟩ := po_bad hpo
            have HFL := hid hf
            have HBD := hid ((HP.out.below HF2.out).trans hb)
            clear hf hb hpo hq
            go_wp2_with fail
            rw [← HR.out]
            exact ⟨rfl, N, rfl, HFL.out, HBD.out⟩
          | ok q =>
            obtain ⟨k3, s3⟩ := q
            have HQ3 := hid hq
            rw [hq] at hpo HR
            rw [bnd_ok] at HR
            obtain ⟨rfl, v3, o3, ks3, hp, hf⟩ := po_ok hpo
            have HP3 := hid hp
            have HF3 := hid (HF2.out.trans hf)
            clear hp hf hpo hq
            have HI3 := hid (HI2.out.gn (gn_with HG2.out HQ3.out))
            have HLL := hid (HI3.out.l HP3.out)
            have HF4 := hid (HF3.out.below (belowA W3 (.cells #[.int .i64 k3] 3)))
            go_wp2_with fail
            refine (putk_any HP3.out 19 ⟨#[]⟩ 0 k3 (t.a : Int) HLL.out.1 HLL.out.2).mono ?_
            intro e U hpo
            have HPO := hid hpo
            rw [HR.out] at HPO
            clear hpo
            cases R with
            | error q =>
              obtain ⟨c, x⟩ := q
              obtain ⟨N, rfl, hf, hb⟩ := po_bad HPO.out
              have HFL := hid hf
              have HBD := hid ((HP.out.below HF4.out).trans hb)
              clear hf hb HPO
              go_wp2_with fail
              exact ⟨rfl, N, rfl, HFL.out, HBD.out⟩
            | ok q =>
              obtain ⟨z, s9⟩ := q
              obtain ⟨rfl, v9, o9, ks9, hp, hf⟩ := po_ok HPO.out
              have HPU := hid hp
              have HFU := hid (HF4.out.trans hf)
              clear hp hf HPO
              go_wp2_with fail
              go_ret
              exact ⟨rfl, v9, o9, ks9, HPU.out, HFU.out⟩
        · rw [if_neg h3] at HR
          have e3 := beq_f h3
          clear h3
          by_cases h4 : t.text.toList = [99, 111, 117, 110, 116]
          · rw [if_pos h4] at HR
            have e4 := beq_t h4
            clear h4
            go_enter Tryz.func131, Tryz.ntmps131
            go_wp2_with fail
            refine (HTK.out).mono ?_
            rintro e W1 ⟨rfl, l⟩
            have HP1 := hid (HP0.out.low l)
            have HF1 := hid (HF0.out.below l)
            clear l
            clear HTK
            go_wp2_with fail
            refine (selection_any (r2 := r) HC.out HG.out HK.out 20 HP1.out HI.out).mono ?_
            intro e U hpo
            have HPO := hid hpo
            rw [HR.out] at HPO
            clear hpo
            cases R with
            | error q =>
              obtain ⟨c, x⟩ := q
              obtain ⟨N, rfl, hf, hb⟩ := po_bad HPO.out
              have HFL := hid hf
              have HBD := hid ((HP.out.below HF1.out).trans hb)
              clear hf hb HPO
              go_wp2_with fail
              exact ⟨rfl, N, rfl, HFL.out, HBD.out⟩
            | ok q =>
              obtain ⟨z, s9⟩ := q
              obtain ⟨rfl, v9, o9, ks9, hp, hf⟩ := po_ok HPO.out
              have HPU := hid hp
              have HFU := hid (HF1.out.trans hf)
              clear hp hf HPO
              go_wp2_with fail
              go_ret
              exact ⟨rfl, v9, o9, ks9, HPU.out, HFU.out⟩
          · rw [if_neg h4] at HR
            have e4 := beq_f h4
            clear h4
            go_enter Tryz.func131, Tryz.ntmps131
            go_wp2_with fail
            refine (HTK.out).mono ?_
            rintro e W1 ⟨rfl, l⟩
            have HP1 := hid (HP0.out.low l)
            have HF1 := hid (HF0.out.below l)
            clear l
            clear HTK
            go_wp2_with fail
            refine (refuse_any HP1.out).mono ?_
            rintro e V ⟨N, rfl, hf, hb⟩
            have HFL := hid hf
            have HBD := hid (HP.out.below (HF1.out.below hb))
            clear hf hb
            go_wp2_with fail
            rw [← HR.out]
            exact ⟨rfl, N, rfl, HFL.out, HBD.out⟩
set_option maxHeartbeats 4000000 in
set_option maxRecDepth 100000 in
theorem term_any {pb B : Nat} {Nb : Nat → Prop} {tv : Value} {T : List Tok} {W : World} {s : PS} {v o : Value} {ks : Nat → Value} {r r2 : PS → PRes Int} (ho : Ct pb B tv T 33 r (s.nx + 1)) (gho : Gone r) (ho2 : Ct pb B tv T 117 r2 (s.nx + 1)) (gho2 : Gone r2) (h : PM pb B Nb tv T W s v o ks) (hi : Inv s) :
    Calls Tryz.prog 117 #[.pointer (some ⟨pb, 0, none⟩)] W fun e W' => Po pb B Nb tv T (fun k => .int .i64 k) (termP T r r2 s) W v o e W' := by
  have HP := hid h
  have HF0 := hid (Fp.refl pb W v o)
  have HP0 := hid h
  have HI := hid hi
  clear h hi
  have HC := hid ho
  have HG := hid gho
  have HC2 := hid ho2
  have HG2 := hid gho2
  clear ho gho ho2 gho2
  obtain ⟨R, hR⟩ : ∃ R, R = termP T r r2 s := ⟨_, rfl⟩
  have HR := hid hR.symm
  rw [← hR]
  clear hR
  unfold termP at HR
  obtain ⟨t, ht⟩ : ∃ t, t = tk T s.nx := ⟨_, rfl⟩
  have HT := hid ht
  have HTK := hid (token_any HP0.out)
  rw [← ht] at HR HTK
  unfold L.tv at HTK
  clear ht
  by_cases h1 : isEl t = true
  · rw [if_pos h1] at HR
    have HK := hid (show (tk T s.nx).kind ≠ 0 by rw [← HT.out]; exact isel_kind h1)
    go_enter Tryz.func117, Tryz.ntmps117
    go_wp2_with fail
    refine (HTK.out).mono ?_
    rintro e W1 ⟨rfl, l⟩
    have HP1 := hid (HP0.out.low l)
    have HF1 := hid (HF0.out.below l)
    clear l
    clear HTK
    go_upto_region 2 with fail
    have HX2 := hid (cells5 (heap_alloc_new W1 (.cells #[.int .i64 (t.kind : Int), .string t.text, .int .i64 t.num, .int .i64 (t.a : Int), .int .i64 (t.e : Int)] 80)))
    have HP2 := hid (HP1.out.low (belowA W1 (.cells #[.int .i64 (t.kind : Int), .string t.text, .int .i64 t.num, .int .i64 (t.a : Int), .int .i64 (t.e : Int)] 80)))
    have HF2 := hid (HF1.out.below (belowA W1 (.cells #[.int .i64 (t.kind : Int), .string t.text, .int .i64 t.num, .int .i64 (t.a : Int), .int .i64 (t.e : Int)] 80)))
    have HN1 := hid (show W1.heap.size < (W1.alloc (.cells #[.int .i64 (t.kind : Int), .string t.text, .int .i64 t.num, .int .i64 (t.a : Int), .int .i64 (t.e : Int)] 80)).heap.size by simp)
    generalize W1.alloc (.cells #[.int .i64 (t.kind : Int), .string t.text, .int .i64 t.num, .int .i64 (t.a : Int), .int .i64 (t.e : Int)] 80) = W2 at *
    generalize W1.heap.size = bt at *
    have ⟨x0, x1, x2, x3, x4⟩ := HX2.out
    have HIS := hid (isel_any t W2)
    unfold L.tv at HIS
    rw [h1] at HIS
    go_wp2_with fail
    refine HIS.out.mono ?_
    rintro e W3 ⟨rfl, l⟩
    have HP3 := hid (HP2.out.low l)
    have HF3 := hid (HF2.out.below l)
    have y0 := (l.cell (p := ⟨bt, 0, none⟩) HN1.out).trans x0
    have HS3 := hid l.size
    clear l HIS x0 x1 x2 x3 x4
    have HLL := hid (HI.out.l HP3.out)
    go_wp2_with fail
    refine (element_any HP3.out HK.out HLL.out.1 HLL.out.2).mono ?_
    intro e U hpo
    have HPO := hid hpo
    rw [HR.out] at HPO
    clear hpo
    cases R with
    | error q =>
      obtain ⟨c, x⟩ := q
      obtain ⟨N, rfl, hf, hb⟩ := po_bad HPO.out
      have HFL := hid hf
      have HBD := hid ((HP.out.below HF3.out).trans hb)
      clear hf hb HPO
      go_wp2_with fail
      exact ⟨rfl, N, rfl, HFL.out, HBD.out⟩
    | ok q =>
      obtain ⟨z, s9⟩ := q
      obtain ⟨rfl, v9, o9, ks9, hp, hf⟩ := po_ok HPO.out
      have HPU := hid hp
      have HFU := hid (HF3.out.trans hf)
      clear hp hf HPO
      go_wp2_with fail
      go_ret
      exact ⟨rfl, v9, o9, ks9, HPU.out, HFU.out⟩
  · rw [if_neg h1] at HR
    have h1f : isEl t = false := by simpa using h1
    clear h1
    cases hM : isM T s [123]
    · rw [hM, if_neg (by decide)] at HR
      by_cases h3 : t.kind = 3
      · rw [if_pos h3] at HR
        have HK := hid (show (tk T s.nx).kind ≠ 0 by rw [← HT.out, h3]; decide)
        have e3 : ((t.kind : Int) == 3) = true := by simp [h3]
        clear h3
        go_enter Tryz.func117, Tryz.ntmps117
        go_wp2_with fail
        refine (HTK.out).mono ?_
        rintro e W1 ⟨rfl, l⟩
        have HP1 := hid (HP0.out.low l)
        have HF1 := hid (HF0.out.below l)
        clear l
        clear HTK
        go_upto_region 2 with fail
        have HX2 := hid (cells5 (heap_alloc_new W1 (.cells #[.int .i64 (t.kind : Int), .string t.text, .int .i64 t.num, .int .i64 (t.a : Int), .int .i64 (t.e : Int)] 80)))
        have HP2 := hid (HP1.out.low (belowA W1 (.cells #[.int .i64 (t.kind : Int), .string t.text, .int .i64 t.num, .int .i64 (t.a : Int), .int .i64 (t.e : Int)] 80)))
        have HF2 := hid (HF1.out.below (belowA W1 (.cells #[.int .i64 (t.kind : Int), .string t.text, .int .i64 t.num, .int .i64 (t.a : Int), .int .i64 (t.e : Int)] 80)))
        have HN1 := hid (show W1.heap.size < (W1.alloc (.cells #[.int .i64 (t.kind : Int), .string t.text, .int .i64 t.num, .int .i64 (t.a : Int), .int .i64 (t.e : Int)] 80)).heap.size by simp)
        generalize W1.alloc (.cells #[.int .i64 (t.kind : Int), .string t.text, .int .i64 t.num, .int .i64 (t.a : Int), .int .i64 (t.e : Int)] 80) = W2 at *
        generalize W1.heap.size = bt at *
        have ⟨x0, x1, x2, x3, x4⟩ := HX2.out
        have HIS := hid (isel_any t W2)
        unfold L.tv at HIS
        rw [h1f] at HIS
        go_wp2_with fail
        refine HIS.out.mono ?_
        rintro e W3 ⟨rfl, l⟩
        have HP3 := hid (HP2.out.low l)
        have HF3 := hid (HF2.out.below l)
        have y0 := (l.cell (p := ⟨bt, 0, none⟩) HN1.out).trans x0
        have HS3 := hid l.size
        clear l HIS x0 x1 x2 x3 x4
        have HAT := hid (at_any HP3.out ⟨#[123]⟩)
        rw [ml123, hM] at HAT
        go_wp2_with fail
        refine HAT.out.mono ?_
        rintro e W4 ⟨rfl, l⟩
        have HP4 := hid (HP3.out.low l)
        have HF4 := hid (HF3.out.below l)
        have z0 := (l.cell (p := ⟨bt, 0, none⟩) (Nat.lt_of_lt_of_le HN1.out HS3.out)).trans y0
        clear y0
        clear l HAT
        go_wp2_with fail
        refine (worded_any HC.out HG.out HC2.out HG2.out HK.out HP4.out HI.out).mono ?_
        intro e U hpo
        have HPO := hid hpo
        rw [HR.out] at HPO
        clear hpo
        cases R with
        | error q =>
          obtain ⟨c, x⟩ := q
          obtain ⟨N, rfl, hf, hb⟩ := po_bad HPO.out
          have HFL := hid hf
          have HBD := hid ((HP.out.below HF4.out).trans hb)
          clear hf hb HPO
          go_wp2_with fail
          exact ⟨rfl, N, rfl, HFL.out, HBD.out⟩
        | ok q =>
          obtain ⟨z, s9⟩ := q
          obtain ⟨rfl, v9, o9, ks9, hp, hf⟩ := po_ok HPO.out
          have HPU := hid hp
          have HFU := hid (HF4.out.trans hf)
          clear hp hf HPO
          go_wp2_with fail
          go_ret
          exact ⟨rfl, v9, o9, ks9, HPU.out, HFU.out⟩
      · rw [if_neg h3] at HR
        have e3 : ((t.kind : Int) == 3) = false := by simp; omega
        clear h3
        go_enter Tryz.func117, Tryz.ntmps117
        go_wp2_with fail
        refine (HTK.out).mono ?_
        rintro e W1 ⟨rfl, l⟩
        have HP1 := hid (HP0.out.low l)
        have HF1 := hid (HF0.out.below l)
        clear l
        clear HTK
        go_upto_region 2 with fail
        have HX2 := hid (cells5 (heap_alloc_new W1 (.cells #[.int .i64 (t.kind : Int), .string t.text, .int .i64 t.num, .int .i64 (t.a : Int), .int .i64 (t.e : Int)] 80)))
        have HP2 := hid (HP1.out.low (belowA W1 (.cells #[.int .i64 (t.kind : Int), .string t.text, .int .i64 t.num, .int .i64 (t.a : Int), .int .i64 (t.e : Int)] 80)))
        have HF2 := hid (HF1.out.below (belowA W1 (.cells #[.int .i64 (t.kind : Int), .string t.text, .int .i64 t.num, .int .i64 (t.a : Int), .int .i64 (t.e : Int)] 80)))
        have HN1 := hid (show W1.heap.size < (W1.alloc (.cells #[.int .i64 (t.kind : Int), .string t.text, .int .i64 t.num, .int .i64 (t.a : Int), .int .i64 (t.e : Int)] 80)).heap.size by simp)
        generalize W1.alloc (.cells #[.int .i64 (t.kind : Int), .string t.text, .int .i64 t.num, .int .i64 (t.a : Int), .int .i64 (t.e : Int)] 80) = W2 at *
        generalize W1.heap.size = bt at *
        have ⟨x0, x1, x2, x3, x4⟩ := HX2.out
        have HIS := hid (isel_any t W2)
        unfold L.tv at HIS
        rw [h1f] at HIS
        go_wp2_with fail
        refine HIS.out.mono ?_
        rintro e W3 ⟨rfl, l⟩
        have HP3 := hid (HP2.out.low l)
        have HF3 := hid (HF2.out.below l)
        have y0 := (l.cell (p := ⟨bt, 0, none⟩) HN1.out).trans x0
        have HS3 := hid l.size
        clear l HIS x0 x1 x2 x3 x4
        have HAT := hid (at_any HP3.out ⟨#[123]⟩)
        rw [ml123, hM] at HAT
        go_wp2_with fail
        refine HAT.out.mono ?_
        rintro e W4 ⟨rfl, l⟩
        have HP4 := hid (HP3.out.low l)
        have HF4 := hid (HF3.out.below l)
        have z0 := (l.cell (p := ⟨bt, 0, none⟩) (Nat.lt_of_lt_of_le HN1.out HS3.out)).trans y0
        clear y0
        clear l HAT
        go_wp2_with fail
        refine (refuse_any HP4.out).mono ?_
        rintro e V ⟨N, rfl, hf, hb⟩
        have HFL := hid hf
        have HBD := hid (HP.out.below (HF4.out.below hb))
        clear hf hb
        go_wp2_with fail
        rw [← HR.out]
        exact ⟨rfl, N, rfl, HFL.out, HBD.out⟩
    · rw [hM, if_pos rfl] at HR
      go_enter Tryz.func117, Tryz.ntmps117
      go_wp2_with fail
      refine (HTK.out).mono ?_
      rintro e W1 ⟨rfl, l⟩
      have HP1 := hid (HP0.out.low l)
      have HF1 := hid (HF0.out.below l)
      clear l
      clear HTK
      go_upto_region 2 with fail
      have HX2 := hid (cells5 (heap_alloc_new W1 (.cells #[.int .i64 (t.kind : Int), .string t.text, .int .i64 t.num, .int .i64 (t.a : Int), .int .i64 (t.e : Int)] 80)))
      have HP2 := hid (HP1.out.low (belowA W1 (.cells #[.int .i64 (t.kind : Int), .string t.text, .int .i64 t.num, .int .i64 (t.a : Int), .int .i64 (t.e : Int)] 80)))
      have HF2 := hid (HF1.out.below (belowA W1 (.cells #[.int .i64 (t.kind : Int), .string t.text, .int .i64 t.num, .int .i64 (t.a : Int), .int .i64 (t.e : Int)] 80)))
      have HN1 := hid (show W1.heap.size < (W1.alloc (.cells #[.int .i64 (t.kind : Int), .string t.text, .int .i64 t.num, .int .i64 (t.a : Int), .int .i64 (t.e : Int)] 80)).heap.size by simp)
      generalize W1.alloc (.cells #[.int .i64 (t.kind : Int), .string t.text, .int .i64 t.num, .int .i64 (t.a : Int), .int .i64 (t.e : Int)] 80) = W2 at *
      generalize W1.heap.size = bt at *
      have ⟨x0, x1, x2, x3, x4⟩ := HX2.out
      have HIS := hid (isel_any t W2)
      unfold L.tv at HIS
      rw [h1f] at HIS
      go_wp2_with fail
      refine HIS.out.mono ?_
      rintro e W3 ⟨rfl, l⟩
      have HP3 := hid (HP2.out.low l)
      have HF3 := hid (HF2.out.below l)
      have y0 := (l.cell (p := ⟨bt, 0, none⟩) HN1.out).trans x0
      have HS3 := hid l.size
      clear l HIS x0 x1 x2 x3 x4
      have HAT := hid (at_any HP3.out ⟨#[123]⟩)
      rw [ml123, hM] at HAT
      go_wp2_with fail
      refine HAT.out.mono ?_
      rintro e W4 ⟨rfl, l⟩
      have HP4 := hid (HP3.out.low l)
      have HF4 := hid (HF3.out.below l)
      have z0 := (l.cell (p := ⟨bt, 0, none⟩) (Nat.lt_of_lt_of_le HN1.out HS3.out)).trans y0
      clear y0
      clear l HAT
      go_wp2_with fail
      refine (set_any (r := r) (r2 := r) HP4.out HI.out).mono ?_
      intro e U hpo
      have HPO := hid hpo
      rw [HR.out] at HPO
      clear hpo
      cases R with
      | error q =>
        obtain ⟨c, x⟩ := q
        obtain ⟨N, rfl, hf, hb⟩ := po_bad HPO.out
        have HFL := hid hf
        have HBD := hid ((HP.out.below HF4.out).trans hb)
        clear hf hb HPO
        go_wp2_with fail
        exact ⟨rfl, N, rfl, HFL.out, HBD.out⟩
      | ok q =>
        obtain ⟨z, s9⟩ := q
        obtain ⟨rfl, v9, o9, ks9, hp, hf⟩ := po_ok HPO.out
        have HPU := hid hp
        have HFU := hid (HF4.out.trans hf)
        clear hp hf HPO
        go_wp2_with fail
        go_ret
        exact ⟨rfl, v9, o9, ks9, HPU.out, HFU.out⟩
set_option maxHeartbeats 4000000 in
set_option maxRecDepth 100000 in
theorem atom_any {pb B : Nat} {Nb : Nat → Prop} {tv : Value} {T : List Tok} {W : World} {s : PS} {v o : Value} {ks : Nat → Value} {r r2 : PS → PRes Int} (ho : Ct pb B tv T 33 r (s.nx + 1)) (gho : Gone r) (ho2 : Ct pb B tv T 117 r2 (s.nx)) (gho2 : Gone r2) (h : PM pb B Nb tv T W s v o ks) (hi : Inv s) :
    Calls Tryz.prog 88 #[.pointer (some ⟨pb, 0, none⟩)] W fun e W' => Po pb B Nb tv T (fun k => .int .i64 k) (atomP T r r2 s) W v o e W' := by
  have HP := hid h
  have HF0 := hid (Fp.refl pb W v o)
  have HP0 := hid h
  have HI := hid hi
  clear h hi
  have HC := hid ho
  have HG := hid gho
  have HC2 := hid ho2
  have HG2 := hid gho2
  clear ho gho ho2 gho2
  obtain ⟨R, hR⟩ : ∃ R, R = atomP T r r2 s := ⟨_, rfl⟩
  have HR := hid hR.symm
  rw [← hR]
  clear hR
  unfold atomP at HR
  obtain ⟨t, ht⟩ : ∃ t, t = tk T s.nx := ⟨_, rfl⟩
  have HT := hid ht
  have HTK := hid (token_any HP0.out)
  rw [← ht] at HR HTK
  unfold L.tv at HTK
  clear ht
  by_cases h3 : t.kind = 3
  · rw [if_pos h3] at HR
    have HK := hid (show (tk T s.nx).kind ≠ 0 by rw [← HT.out, h3]; decide)
    have k3 : ((t.kind : Int) == 3) = true := by simp [h3]
    clear h3
    by_cases h0 : t.text.toList = [116, 114, 117, 101]
    · rw [if_pos h0] at HR
      have e0 := beq_t h0
      clear h0
      go_enter Tryz.func88, Tryz.ntmps88
      go_wp2_with fail
      refine (HTK.out).mono ?_
      rintro e W1 ⟨rfl, l⟩
      have HP1 := hid (HP0.out.low l)
      have HF1 := hid (HF0.out.below l)
      clear l
      clear HTK
      go_upto_region 2 with fail
      have HX2 := hid (cells5 (heap_alloc_new W1 (.cells #[.int .i64 (t.kind : Int), .string t.text, .int .i64 t.num, .int .i64 (t.a : Int), .int .i64 (t.e : Int)] 80)))
      have HP2 := hid (HP1.out.low (belowA W1 (.cells #[.int .i64 (t.kind : Int), .string t.text, .int .i64 t.num, .int .i64 (t.a : Int), .int .i64 (t.e : Int)] 80)))
      have HF2 := hid (HF1.out.below (belowA W1 (.cells #[.int .i64 (t.kind : Int), .string t.text, .int .i64 t.num, .int .i64 (t.a : Int), .int .i64 (t.e : Int)] 80)))
      have HN1 := hid (show W1.heap.size < (W1.alloc (.cells #[.int .i64 (t.kind : Int), .string t.text, .int .i64 t.num, .int .i64 (t.a : Int), .int .i64 (t.e : Int)] 80)).heap.size by simp)
      generalize W1.alloc (.cells #[.int .i64 (t.kind : Int), .string t.text, .int .i64 t.num, .int .i64 (t.a : Int), .int .i64 (t.e : Int)] 80) = W2 at *
      generalize W1.heap.size = bt at *
      have ⟨x0, x1, x2, x3, x4⟩ := HX2.out
      have HLL := hid (HI.out.l HP2.out)
      go_wp2_with fail
      refine (constant_any HP2.out HK.out HLL.out.1 HLL.out.2 1).mono ?_
      intro e U hpo
      have HPO := hid hpo
      rw [HR.out] at HPO
      clear hpo
      cases R with
      | error q =>
        obtain ⟨c, x⟩ := q
        obtain ⟨N, rfl, hf, hb⟩ := po_bad HPO.out
        have HFL := hid hf
        have HBD := hid ((HP.out.below HF2.out).trans hb)
        clear hf hb HPO
        go_wp2_with fail
        exact ⟨rfl, N, rfl, HFL.out, HBD.out⟩
      | ok q =>
        obtain ⟨z, s9⟩ := q
        obtain ⟨rfl, v9, o9, ks9, hp, hf⟩ := po_ok HPO.out
        have HPU := hid hp
        have HFU := hid (HF2.out.trans hf)
        clear hp hf HPO
        go_wp2_with fail
        go_ret
        exact ⟨rfl, v9, o9, ks9, HPU.out, HFU.out⟩
    · rw [if_neg h0] at HR
      have e0 := beq_f h0
      clear h0
      by_cases h1 : t.text.toList = [102, 97, 108, 115, 101]
      · rw [if_pos h1] at HR
        have e1 := beq_t h1
        clear h1
        go_enter Tryz.func88, Tryz.ntmps88
        go_wp2_with fail
        refine (HTK.out).mono ?_
        rintro e W1 ⟨rfl, l⟩
        have HP1 := hid (HP0.out.low l)
        have HF1 := hid (HF0.out.below l)
        clear l
        clear HTK
        go_upto_region 2 with fail
        have HX2 := hid (cells5 (heap_alloc_new W1 (.cells #[.int .i64 (t.kind : Int), .string t.text, .int .i64 t.num, .int .i64 (t.a : Int), .int .i64 (t.e : Int)] 80)))
        have HP2 := hid (HP1.out.low (belowA W1 (.cells #[.int .i64 (t.kind : Int), .string t.text, .int .i64 t.num, .int .i64 (t.a : Int), .int .i64 (t.e : Int)] 80)))
        have HF2 := hid (HF1.out.below (belowA W1 (.cells #[.int .i64 (t.kind : Int), .string t.text, .int .i64 t.num, .int .i64 (t.a : Int), .int .i64 (t.e : Int)] 80)))
        have HN1 := hid (show W1.heap.size < (W1.alloc (.cells #[.int .i64 (t.kind : Int), .string t.text, .int .i64 t.num, .int .i64 (t.a : Int), .int .i64 (t.e : Int)] 80)).heap.size by simp)
        generalize W1.alloc (.cells #[.int .i64 (t.kind : Int), .string t.text, .int .i64 t.num, .int .i64 (t.a : Int), .int .i64 (t.e : Int)] 80) = W2 at *
        generalize W1.heap.size = bt at *
        have ⟨x0, x1, x2, x3, x4⟩ := HX2.out
        have HLL := hid (HI.out.l HP2.out)
        go_wp2_with fail
        refine (constant_any HP2.out HK.out HLL.out.1 HLL.out.2 2).mono ?_
        intro e U hpo
        have HPO := hid hpo
        rw [HR.out] at HPO
        clear hpo
        cases R with
        | error q =>
          obtain ⟨c, x⟩ := q
          obtain ⟨N, rfl, hf, hb⟩ := po_bad HPO.out
          have HFL := hid hf
          have HBD := hid ((HP.out.below HF2.out).trans hb)
          clear hf hb HPO
          go_wp2_with fail
          exact ⟨rfl, N, rfl, HFL.out, HBD.out⟩
        | ok q =>
          obtain ⟨z, s9⟩ := q
          obtain ⟨rfl, v9, o9, ks9, hp, hf⟩ := po_ok HPO.out
          have HPU := hid hp
          have HFU := hid (HF2.out.trans hf)
          clear hp hf HPO
          go_wp2_with fail
          go_ret
          exact ⟨rfl, v9, o9, ks9, HPU.out, HFU.out⟩
      · rw [if_neg h1] at HR
        have e1 := beq_f h1
        clear h1
        by_cases h2 : t.text.toList = [110, 101, 97, 114]
        · rw [if_pos h2] at HR
          have e2 := beq_t h2
          clear h2
          go_enter Tryz.func88, Tryz.ntmps88
          go_wp2_with fail
          refine (HTK.out).mono ?_
          rintro e W1 ⟨rfl, l⟩
          have HP1 := hid (HP0.out.low l)
          have HF1 := hid (HF0.out.below l)
          clear l
          clear HTK
          go_upto_region 2 with fail
          have HX2 := hid (cells5 (heap_alloc_new W1 (.cells #[.int .i64 (t.kind : Int), .string t.text, .int .i64 t.num, .int .i64 (t.a : Int), .int .i64 (t.e : Int)] 80)))
          have HP2 := hid (HP1.out.low (belowA W1 (.cells #[.int .i64 (t.kind : Int), .string t.text, .int .i64 t.num, .int .i64 (t.a : Int), .int .i64 (t.e : Int)] 80)))
          have HF2 := hid (HF1.out.below (belowA W1 (.cells #[.int .i64 (t.kind : Int), .string t.text, .int .i64 t.num, .int .i64 (t.a : Int), .int .i64 (t.e : Int)] 80)))
          have HN1 := hid (show W1.heap.size < (W1.alloc (.cells #[.int .i64 (t.kind : Int), .string t.text, .int .i64 t.num, .int .i64 (t.a : Int), .int .i64 (t.e : Int)] 80)).heap.size by simp)
          generalize W1.alloc (.cells #[.int .i64 (t.kind : Int), .string t.text, .int .i64 t.num, .int .i64 (t.a : Int), .int .i64 (t.e : Int)] 80) = W2 at *
          generalize W1.heap.size = bt at *
          have ⟨x0, x1, x2, x3, x4⟩ := HX2.out
          go_wp2_with fail
          refine (selection_any (r2 := r) HC.out HG.out HK.out 8 HP2.out HI.out).mono ?_
          intro e U hpo
          have HPO := hid hpo
          rw [HR.out] at HPO
          clear hpo
          cases R with
          | error q =>
            obtain ⟨c, x⟩ := q
            obtain ⟨N, rfl, hf, hb⟩ := po_bad HPO.out
            have HFL := hid hf
            have HBD := hid ((HP.out.below HF2.out).trans hb)
            clear hf hb HPO
            go_wp2_with fail
            exact ⟨rfl, N, rfl, HFL.out, HBD.out⟩
          | ok q =>
            obtain ⟨z, s9⟩ := q
            obtain ⟨rfl, v9, o9, ks9, hp, hf⟩ := po_ok HPO.out
            have HPU := hid hp
            have HFU := hid (HF2.out.trans hf)
            clear hp hf HPO
            go_wp2_with fail
            go_ret
            exact ⟨rfl, v9, o9, ks9, HPU.out, HFU.out⟩
        · rw [if_neg h2] at HR
          have e2 := beq_f h2
          clear h2
          by_cases h3 : t.text.toList = [97, 112, 97, 114, 116]
          · rw [if_pos h3] at HR
            have e3 := beq_t h3
            clear h3
            go_enter Tryz.func88, Tryz.ntmps88
            go_wp2_with fail
            refine (HTK.out).mono ?_
            rintro e W1 ⟨rfl, l⟩
            have HP1 := hid (HP0.out.low l)
            have HF1 := hid (HF0.out.below l)
            clear l
            clear HTK
            go_upto_region 2 with fail
            have HX2 := hid (cells5 (heap_alloc_new W1 (.cells #[.int .i64 (t.kind : Int), .string t.text, .int .i64 t.num, .int .i64 (t.a : Int), .int .i64 (t.e : Int)] 80)))
            have HP2 := hid (HP1.out.low (belowA W1 (.cells #[.int .i64 (t.kind : Int), .string t.text, .int .i64 t.num, .int .i64 (t.a : Int), .int .i64 (t.e : Int)] 80)))
            have HF2 := hid (HF1.out.below (belowA W1 (.cells #[.int .i64 (t.kind : Int), .string t.text, .int .i64 t.num, .int .i64 (t.a : Int), .int .i64 (t.e : Int)] 80)))
            have HN1 := hid (show W1.heap.size < (W1.alloc (.cells #[.int .i64 (t.kind : Int), .string t.text, .int .i64 t.num, .int .i64 (t.a : Int), .int .i64 (t.e : Int)] 80)).heap.size by simp)
            generalize W1.alloc (.cells #[.int .i64 (t.kind : Int), .string t.text, .int .i64 t.num, .int .i64 (t.a : Int), .int .i64 (t.e : Int)] 80) = W2 at *
            generalize W1.heap.size = bt at *
            have ⟨x0, x1, x2, x3, x4⟩ := HX2.out
            go_wp2_with fail
            refine (selection_any (r2 := r) HC.out HG.out HK.out 9 HP2.out HI.out).mono ?_
            intro e U hpo
            have HPO := hid hpo
            rw [HR.out] at HPO
            clear hpo
            cases R with
            | error q =>
              obtain ⟨c, x⟩ := q
              obtain ⟨N, rfl, hf, hb⟩ := po_bad HPO.out
              have HFL := hid hf
              have HBD := hid ((HP.out.below HF2.out).trans hb)
              clear hf hb HPO
              go_wp2_with fail
              exact ⟨rfl, N, rfl, HFL.out, HBD.out⟩
            | ok q =>
              obtain ⟨z, s9⟩ := q
              obtain ⟨rfl, v9, o9, ks9, hp, hf⟩ := po_ok HPO.out
              have HPU := hid hp
              have HFU := hid (HF2.out.trans hf)
              clear hp hf HPO
              go_wp2_with fail
              go_ret
              exact ⟨rfl, v9, o9, ks9, HPU.out, HFU.out⟩
          · rw [if_neg h3] at HR
            have e3 := beq_f h3
            clear h3
            by_cases h4 : t.text.toList = [116, 111, 108, 101, 114, 97, 116, 101, 100]
            · rw [if_pos h4] at HR
              have e4 := beq_t h4
              clear h4
              go_enter Tryz.func88, Tryz.ntmps88
              go_wp2_with fail
              refine (HTK.out).mono ?_
              rintro e W1 ⟨rfl, l⟩
              have HP1 := hid (HP0.out.low l)
              have HF1 := hid (HF0.out.below l)
              clear l
              clear HTK
              go_upto_region 2 with fail
              have HX2 := hid (cells5 (heap_alloc_new W1 (.cells #[.int .i64 (t.kind : Int), .string t.text, .int .i64 t.num, .int .i64 (t.a : Int), .int .i64 (t.e : Int)] 80)))
              have HP2 := hid (HP1.out.low (belowA W1 (.cells #[.int .i64 (t.kind : Int), .string t.text, .int .i64 t.num, .int .i64 (t.a : Int), .int .i64 (t.e : Int)] 80)))
              have HF2 := hid (HF1.out.below (belowA W1 (.cells #[.int .i64 (t.kind : Int), .string t.text, .int .i64 t.num, .int .i64 (t.a : Int), .int .i64 (t.e : Int)] 80)))
              have HN1 := hid (show W1.heap.size < (W1.alloc (.cells #[.int .i64 (t.kind : Int), .string t.text, .int .i64 t.num, .int .i64 (t.a : Int), .int .i64 (t.e : Int)] 80)).heap.size by simp)
              generalize W1.alloc (.cells #[.int .i64 (t.kind : Int), .string t.text, .int .i64 t.num, .int .i64 (t.a : Int), .int .i64 (t.e : Int)] 80) = W2 at *
              generalize W1.heap.size = bt at *
              have ⟨x0, x1, x2, x3, x4⟩ := HX2.out
              have HLL := hid (HI.out.l HP2.out)
              go_wp2_with fail
              refine (tolerated_any HP2.out HK.out HLL.out.1 HLL.out.2).mono ?_
              intro e U hpo
              have HPO := hid hpo
              rw [HR.out] at HPO
              clear hpo
              cases R with
              | error q =>
                obtain ⟨c, x⟩ := q
                obtain ⟨N, rfl, hf, hb⟩ := po_bad HPO.out
                have HFL := hid hf
                have HBD := hid ((HP.out.below HF2.out).trans hb)
                clear hf hb HPO
                go_wp2_with fail
                exact ⟨rfl, N, rfl, HFL.out, HBD.out⟩
              | ok q =>
                obtain ⟨z, s9⟩ := q
                obtain ⟨rfl, v9, o9, ks9, hp, hf⟩ := po_ok HPO.out
                have HPU := hid hp
                have HFU := hid (HF2.out.trans hf)
                clear hp hf HPO
                go_wp2_with fail
                go_ret
                exact ⟨rfl, v9, o9, ks9, HPU.out, HFU.out⟩
            · rw [if_neg h4] at HR
              have e4 := beq_f h4
              clear h4
              go_enter Tryz.func88, Tryz.ntmps88
              go_wp2_with fail
              refine (HTK.out).mono ?_
              rintro e W1 ⟨rfl, l⟩
              have HP1 := hid (HP0.out.low l)
              have HF1 := hid (HF0.out.below l)
              clear l
              clear HTK
              go_upto_region 2 with fail
              have HX2 := hid (cells5 (heap_alloc_new W1 (.cells #[.int .i64 (t.kind : Int), .string t.text, .int .i64 t.num, .int .i64 (t.a : Int), .int .i64 (t.e : Int)] 80)))
              have HP2 := hid (HP1.out.low (belowA W1 (.cells #[.int .i64 (t.kind : Int), .string t.text, .int .i64 t.num, .int .i64 (t.a : Int), .int .i64 (t.e : Int)] 80)))
              have HF2 := hid (HF1.out.below (belowA W1 (.cells #[.int .i64 (t.kind : Int), .string t.text, .int .i64 t.num, .int .i64 (t.a : Int), .int .i64 (t.e : Int)] 80)))
              have HN1 := hid (show W1.heap.size < (W1.alloc (.cells #[.int .i64 (t.kind : Int), .string t.text, .int .i64 t.num, .int .i64 (t.a : Int), .int .i64 (t.e : Int)] 80)).heap.size by simp)
              generalize W1.alloc (.cells #[.int .i64 (t.kind : Int), .string t.text, .int .i64 t.num, .int .i64 (t.a : Int), .int .i64 (t.e : Int)] 80) = W2 at *
              generalize W1.heap.size = bt at *
              have ⟨x0, x1, x2, x3, x4⟩ := HX2.out
              go_wp2_with fail
              refine (comparison_any (r2 := r) HC2.out HG2.out HP2.out HI.out).mono ?_
              intro e U hpo
              have HPO := hid hpo
              rw [HR.out] at HPO
              clear hpo
              cases R with
              | error q =>
                obtain ⟨c, x⟩ := q
                obtain ⟨N, rfl, hf, hb⟩ := po_bad HPO.out
                have HFL := hid hf
                have HBD := hid ((HP.out.below HF2.out).trans hb)
                clear hf hb HPO
                go_wp2_with fail
                exact ⟨rfl, N, rfl, HFL.out, HBD.out⟩
              | ok q =>
                obtain ⟨z, s9⟩ := q
                obtain ⟨rfl, v9, o9, ks9, hp, hf⟩ := po_ok HPO.out
                have HPU := hid hp
                have HFU := hid (HF2.out.trans hf)
                clear hp hf HPO
                go_wp2_with fail
                go_ret
                exact ⟨rfl, v9, o9, ks9, HPU.out, HFU.out⟩
  · rw [if_neg h3] at HR
    have k3 : ((t.kind : Int) == 3) = false := by simp; omega
    clear h3
    go_enter Tryz.func88, Tryz.ntmps88
    go_wp2_with fail
    refine (HTK.out).mono ?_
    rintro e W1 ⟨rfl, l⟩
    have HP1 := hid (HP0.out.low l)
    have HF1 := hid (HF0.out.below l)
    clear l
    clear HTK
    go_upto_region 2 with fail
    have HX2 := hid (cells5 (heap_alloc_new W1 (.cells #[.int .i64 (t.kind : Int), .string t.text, .int .i64 t.num, .int .i64 (t.a : Int), .int .i64 (t.e : Int)] 80)))
    have HP2 := hid (HP1.out.low (belowA W1 (.cells #[.int .i64 (t.kind : Int), .string t.text, .int .i64 t.num, .int .i64 (t.a : Int), .int .i64 (t.e : Int)] 80)))
    have HF2 := hid (HF1.out.below (belowA W1 (.cells #[.int .i64 (t.kind : Int), .string t.text, .int .i64 t.num, .int .i64 (t.a : Int), .int .i64 (t.e : Int)] 80)))
    have HN1 := hid (show W1.heap.size < (W1.alloc (.cells #[.int .i64 (t.kind : Int), .string t.text, .int .i64 t.num, .int .i64 (t.a : Int), .int .i64 (t.e : Int)] 80)).heap.size by simp)
    generalize W1.alloc (.cells #[.int .i64 (t.kind : Int), .string t.text, .int .i64 t.num, .int .i64 (t.a : Int), .int .i64 (t.e : Int)] 80) = W2 at *
    generalize W1.heap.size = bt at *
    have ⟨x0, x1, x2, x3, x4⟩ := HX2.out
    go_wp2_with fail
    refine (comparison_any (r2 := r) HC2.out HG2.out HP2.out HI.out).mono ?_
    intro e U hpo
    have HPO := hid hpo
    rw [HR.out] at HPO
    clear hpo
    cases R with
    | error q =>
      obtain ⟨c, x⟩ := q
      obtain ⟨N, rfl, hf, hb⟩ := po_bad HPO.out
      have HFL := hid hf
      have HBD := hid ((HP.out.below HF2.out).trans hb)
      clear hf hb HPO
      go_wp2_with fail
      exact ⟨rfl, N, rfl, HFL.out, HBD.out⟩
    | ok q =>
      obtain ⟨z, s9⟩ := q
      obtain ⟨rfl, v9, o9, ks9, hp, hf⟩ := po_ok HPO.out
      have HPU := hid hp
      have HFU := hid (HF2.out.trans hf)
      clear hp hf HPO
      go_wp2_with fail
      go_ret
      exact ⟨rfl, v9, o9, ks9, HPU.out, HFU.out⟩
set_option maxHeartbeats 4000000 in
set_option maxRecDepth 100000 in
theorem unit_any {pb B : Nat} {Nb : Nat → Prop} {tv : Value} {T : List Tok} {W : World} {s : PS} {v o : Value} {ks : Nat → Value} {r r2 r3 : PS → PRes Int} (ho : Ct pb B tv T 33 r (s.nx + 1)) (gho : Gone r) (ho3 : Ct pb B tv T 74 r3 (s.nx + 1)) (gho3 : Gone r3) (ho2 : Ct pb B tv T 117 r2 (s.nx)) (gho2 : Gone r2) (h : PM pb B Nb tv T W s v o ks) (hi : Inv s) :
    Calls Tryz.prog 74 #[.pointer (some ⟨pb, 0, none⟩)] W fun e W' => Po pb B Nb tv T (fun k => .int .i64 k) (unitP T r r3 r2 s) W v o e W' := by
  have HP := hid h
  have HF0 := hid (Fp.refl pb W v o)
  have HP0 := hid h
  have HI := hid hi
  clear h hi
  have HC := hid ho
  have HG := hid gho
  have HC2 := hid ho2
  have HG2 := hid gho2
  clear ho gho ho2 gho2
  have HC3 := hid ho3
  have HG3 := hid gho3
  clear ho3 gho3
  have hmf : ∀ (fn : Fn) (first cap : Array Value) (w : World), (Instr.makeFunc fn first cap).run Tryz.prog w = .ok (.func fn first cap) w := fun _ _ _ _ => rfl
  obtain ⟨R, hR⟩ : ∃ R, R = unitP T r r3 r2 s := ⟨_, rfl⟩
  have HR := hid hR.symm
  rw [← hR]
  clear hR
  unfold unitP at HR
  cases hM : isM T s [33]
  · rw [hM, if_neg (by decide)] at HR
    cases hN : isM T s [40]
    · rw [hN, if_neg (by decide)] at HR
      go_enter Tryz.func74, Tryz.ntmps74
      have HAT := hid (at_any HP0.out ⟨#[33]⟩)
      rw [ml33, hM] at HAT
      go_wp2_with fail
      refine HAT.out.mono ?_
      rintro e W1 ⟨rfl, l⟩
      have HP1 := hid (HP0.out.low l)
      have HF1 := hid (HF0.out.below l)
      clear l HAT
      have HAT := hid (at_any HP1.out ⟨#[40]⟩)
      rw [ml40, hN] at HAT
      go_wp2_with fail
      refine HAT.out.mono ?_
      rintro e W2 ⟨rfl, l⟩
      have HP2 := hid (HP1.out.low l)
      have HF2 := hid (HF1.out.below l)
      clear l HAT
      go_wp2_with fail
      refine (atom_any HC.out HG.out HC2.out HG2.out HP2.out HI.out).mono ?_
      intro e U hpo
      have HPO := hid hpo
      rw [HR.out] at HPO
      clear hpo
      cases R with
      | error q =>
        obtain ⟨c, x⟩ := q
        obtain ⟨N, rfl, hf, hb⟩ := po_bad HPO.out
        have HFL := hid hf
        have HBD := hid ((HP.out.below HF2.out).trans hb)
        clear hf hb HPO
        go_wp2_with fail
        exact ⟨rfl, N, rfl, HFL.out, HBD.out⟩
      | ok q =>
        obtain ⟨z, s9⟩ := q
        obtain ⟨rfl, v9, o9, ks9, hp, hf⟩ := po_ok HPO.out
        have HPU := hid hp
        have HFU := hid (HF2.out.trans hf)
        clear hp hf HPO
        go_wp2_with fail
        go_ret
        exact ⟨rfl, v9, o9, ks9, HPU.out, HFU.out⟩
    · rw [hN, if_pos rfl] at HR
      go_enter Tryz.func74, Tryz.ntmps74
      have HAT := hid (at_any HP0.out ⟨#[33]⟩)
      rw [ml33, hM] at HAT
      go_wp2_with fail
      refine HAT.out.mono ?_
      rintro e W1 ⟨rfl, l⟩
      have HP1 := hid (HP0.out.low l)
      have HF1 := hid (HF0.out.below l)
      clear l HAT
      have HAT := hid (at_any HP1.out ⟨#[40]⟩)
      rw [ml40, hN] at HAT
      go_wp2_with fail
      refine HAT.out.mono ?_
      rintro e W2 ⟨rfl, l⟩
      have HP2 := hid (HP1.out.low l)
      have HF2 := hid (HF1.out.below l)
      clear l HAT
      go_wp2_with fail
      refine (within_expr (r2 := r) HC.out HG.out HP2.out HI.out).mono ?_
      intro e U hpo
      have HPO := hid hpo
      rw [HR.out] at HPO
      clear hpo
      cases R with
      | error q =>
        obtain ⟨c, x⟩ := q
        obtain ⟨N, rfl, hf, hb⟩ := po_bad HPO.out
        have HFL := hid hf
        have HBD := hid ((HP.out.below HF2.out).trans hb)
        clear hf hb HPO
        go_wp2_with fail
        exact ⟨rfl, N, rfl, HFL.out, HBD.out⟩
      | ok q =>
        obtain ⟨z, s9⟩ := q
        obtain ⟨rfl, v9, o9, ks9, hp, hf⟩ := po_ok HPO.out
        have HPU := hid hp
        have HFU := hid (HF2.out.trans hf)
        clear hp hf HPO
        go_wp2_with fail
        go_ret
        exact ⟨rfl, v9, o9, ks9, HPU.out, HFU.out⟩
  · rw [hM, if_pos rfl] at HR
    go_enter Tryz.func74, Tryz.ntmps74
    have HAT := hid (at_any HP0.out ⟨#[33]⟩)
    rw [ml33, hM] at HAT
    go_wp2_with fail
    refine HAT.out.mono ?_
    rintro e W1 ⟨rfl, l⟩
    have HP1 := hid (HP0.out.low l)
    have HF1 := hid (HF0.out.below l)
    clear l HAT
    go_wp2_with fail
    refine (negation_any (r2 := r) HC3.out HG3.out HP1.out HI.out).mono ?_
    intro e U hpo
    have HPO := hid hpo
    rw [HR.out] at HPO
    clear hpo
    cases R with
    | error q =>
      obtain ⟨c, x⟩ := q
      obtain ⟨N, rfl, hf, hb⟩ := po_bad HPO.out
      have HFL := hid hf
      have HBD := hid ((HP.out.below HF1.out).trans hb)
      clear hf hb HPO
      go_wp2_with fail
      exact ⟨rfl, N, rfl, HFL.out, HBD.out⟩
    | ok q =>
      obtain ⟨z, s9⟩ := q
      obtain ⟨rfl, v9, o9, ks9, hp, hf⟩ := po_ok HPO.out
      have HPU := hid hp
      have HFU := hid (HF1.out.trans hf)
      clear hp hf HPO
      go_wp2_with fail
      go_ret
      exact ⟨rfl, v9, o9, ks9, HPU.out, HFU.out⟩
def fno : Gr → Nat
  | .expr => 33
  | .conj => 54
  | .unit => 74
  | .term => 117
def lvl : Gr → Nat
  | .expr => 3
  | .conj => 2
  | .unit => 1
  | .term => 0
/-- Every production of the parser gives what the grammar says. -/
theorem gr_any {pb B : Nat} {tv : Value} {T : List Tok} : ∀ (n : Nat) (g : Gr) (lo : Nat), 4 * (T.length - lo) + lvl g < n → Ct pb B tv T (fno g) (gr T n g) lo
  | 0, g, lo, h => absurd h (Nat.not_lt_zero _)
  | n + 1, g, lo, h => by
    intro Nb W s v o ks hp hi hlo
    have hnx := hp.nx
    cases g with
    | expr => exact expr_any (r2 := gr T n .conj) (gr_any n .conj s.nx (by simp only [lvl] at *; omega)) (gn_gr n .conj) hp hi
    | conj => exact conj_any (r2 := gr T n .conj) (gr_any n .unit s.nx (by simp only [lvl] at *; omega)) (gn_gr n .unit) hp hi
    | unit => exact unit_any (gr_any n .expr (s.nx + 1) (by simp only [lvl] at *; omega)) (gn_gr n .expr) (gr_any n .unit (s.nx + 1) (by simp only [lvl] at *; omega)) (gn_gr n .unit) (gr_any n .term s.nx (by simp only [lvl] at *; omega)) (gn_gr n .term) hp hi
    | term => exact term_any (gr_any n .expr (s.nx + 1) (by simp only [lvl] at *; omega)) (gn_gr n .expr) (gr_any n .term (s.nx + 1) (by simp only [lvl] at *; omega)) (gn_gr n .term) hp hi
end Go.Proofs.YtlhlpamciafocaaGreatDoor.L
