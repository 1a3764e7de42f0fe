import Derived.Test.YtcldglilhhhdoaaGreatDoorPbG
namespace Go.Proofs.YtcldglilhhhdoaaGreatDoor.L
open Go.RowKit
set_option linter.unusedVariables false
set_option linter.unusedSimpArgs false
set_option maxHeartbeats 4000000 in
set_option maxRecDepth 100000 in
theorem who_any {pb B : Nat} {Nb : Nat → Prop} {tv : Value} {T : List Tok} {W : World} {s : PS} {v o : Value} {ks : Nat → Value} {r r2 : PS → PRes Int} (hk : (tk T s.nx).kind ≠ 0) (side : Int) (h : PM pb B Nb tv T W s v o ks) (hi : Inv s) :
    Calls Tryz.prog 133 #[.pointer (some ⟨pb, 0, none⟩), .int .i64 side] W fun e W' => Po pb B Nb tv T (fun k => .int .i64 k) (whoP T s side) W v o e W' := by
  have HP := hid h
  have HF0 := hid (Fp.refl pb W v o)
  have HP0 := hid h
  have HI := hid hi
  clear h hi
  have HK := hid hk
  clear hk
  have rf3 := run_f3
  obtain ⟨R, hR⟩ : ∃ R, R = whoP T s side := ⟨_, rfl⟩
  have HR := hid hR.symm
  rw [← hR]
  clear hR
  unfold whoP at HR
  obtain ⟨t, ht⟩ : ∃ t, t = tk T s.nx := ⟨_, rfl⟩
  have HT := hid ht
  rw [← ht] at HR
  clear ht
  have HTA := hid (take_any HP0.out HK.out)
  rw [← HT.out] at HTA
  unfold L.tv at HTA
  go_enter Tryz.func133, Tryz.ntmps133
  go_wp2_with fail
  refine (HTA.out).mono ?_
  rintro e W1 ⟨rfl, hp, hf⟩
  have HP1 := hid hp
  have HF1 := hid (HF0.out.trans hf)
  clear hp hf
  clear HTA
  go_upto_region 3 with fail
  have HBX2 := hid (bx_new HP1.out (.int .i64 14) (.string ⟨#[]⟩) (.int .i64 side) (.slice none 0 0))
  have HP2 := hid (HP1.out.low (belowA W1 (.cells #[.int .i64 14, .string ⟨#[]⟩, .int .i64 side, .slice none 0 0] 46)))
  have HF2 := hid (HF1.out.below (belowA W1 (.cells #[.int .i64 14, .string ⟨#[]⟩, .int .i64 side, .slice none 0 0] 46)))
  have HGS := hid HF1.out.size
  generalize W1.alloc (.cells #[.int .i64 14, .string ⟨#[]⟩, .int .i64 side, .slice none 0 0] 46) = W2 at *
  generalize W1.heap.size = g at *
  have HI2 := hid (HI.out.gn (gn_adv s))
  have HAT := hid (at_any HP2.out ⟨#[91]⟩)
  rw [ml91] at HAT
  cases hM : isM T (adv s) [91]
  · rw [hM] at HAT HR
    rw [if_neg (by decide)] at HR
    clear hM
    go_wp2_with fail
    refine (HAT.out).mono ?_
    rintro e W3 ⟨rfl, l⟩
    have HP3 := hid (HP2.out.low l)
    have HF3 := hid (HF2.out.below l)
    have HBX3 := hid (HBX2.out.low l)
    clear l
    go_wp2_with fail
    refine (mark_any HP3.out ⟨#[46]⟩).mono ?_
    intro e W4 hpo
    rw [ml46] at hpo
    cases hq : markP T (adv s) [46] with
    | error q =>
      obtain ⟨c, x⟩ := q
      rw [hq] at hpo HR
      rw [bnd_bad] at HR
      obtain ⟨N, rfl, hf, hb⟩ := po_bad hpo
      have HFL := hid hf
      have HBD := hid ((HP.out.below HF3.out).trans hb)
      clear hf hb hpo hq
      go_wp2_with fail
      rw [← HR.out]
      exact ⟨rfl, N, rfl, HFL.out, HBD.out⟩
    | ok q =>
      obtain ⟨u4, s4⟩ := q
      have HQ4 := hid hq
      rw [hq] at hpo HR
      rw [bnd_ok] at HR
      obtain ⟨rfl, v4, o4, ks4, hp, hf⟩ := po_ok hpo
      have HP4 := hid hp
      have HF4 := hid (HF3.out.trans hf)
      have HBX4 := hid (HBX3.out.fp HP3.out hf)
      clear hp hf hpo hq
      have HI4 := hid (HI2.out.gn (gn_mark HQ4.out))
      go_wp2_with fail
      refine (field_any HP4.out).mono ?_
      intro e W5 hpo
      cases hq : fieldP T s4 with
      | error q =>
        obtain ⟨c, x⟩ := q
        rw [hq] at hpo HR
        rw [bnd_bad] at HR
        obtain ⟨N, rfl, hf, hb⟩ := po_bad hpo
        have HFL := hid hf
        have HBD := hid ((HP.out.below HF4.out).trans hb)
        clear hf hb hpo hq
        go_wp2_with fail
        rw [← HR.out]
        exact ⟨rfl, N, rfl, HFL.out, HBD.out⟩
      | ok q =>
        obtain ⟨k5, s5⟩ := q
        have HQ5 := hid hq
        rw [hq] at hpo HR
        rw [bnd_ok] at HR
        obtain ⟨rfl, v5, o5, ks5, hp, hf⟩ := po_ok hpo
        have HP5 := hid hp
        have HF5 := hid (HF4.out.trans hf)
        have HBX5 := hid (HBX4.out.fp HP4.out hf)
        clear hp hf hpo hq
        have HI5 := hid (HI4.out.gn (gn_field HQ5.out))
        have fz : W5.frozen? ⟨g, 0, none⟩ = false := frz_row HBX5.out.hg 0
        have cc := HBX5.out.cells.1
        go_upto_region 9 with fail
        have HP6 := hid (HP5.out.prt HBX5.out 0 (.int .i64 k5))
        have HF6 := hid (HF5.out.prt HBX5.out HGS.out 0 (.int .i64 k5))
        have HBX6 := hid (HBX5.out.set.1 (.int .i64 k5))
        clear fz cc
        generalize W5.setCell ⟨g, 0, none⟩ (.int .i64 k5) = W6 at *
        by_cases h18 : k5 = 18
        · rw [if_pos h18] at HR
          subst h18
          have ⟨x0, x1, x2, x3⟩ := HBX6.out.cells
          go_wp2_with fail
          refine (named_any HP6.out).mono ?_
          intro e W7 hpo
          cases hq : namedP T s5 with
          | error q =>
            obtain ⟨c, x⟩ := q
            rw [hq] at hpo HR
            rw [bnd_bad] at HR
            obtain ⟨N, rfl, hf, hb⟩ := po_bad hpo
            have HFL := hid hf
            have HBD := hid ((HP.out.below HF6.out).trans hb)
            clear hf hb hpo hq
            go_wp2_with fail
            rw [← HR.out]
            exact ⟨rfl, N, rfl, HFL.out, HBD.out⟩
          | ok q =>
            obtain ⟨t7, s7⟩ := q
            have HQ7 := hid hq
            rw [hq] at hpo HR
            rw [bnd_ok] at HR
            obtain ⟨rfl, v7, o7, ks7, hp, hf⟩ := po_ok hpo
            have HP7 := hid hp
            have HF7 := hid (HF6.out.trans hf)
            have HBX7 := hid (HBX6.out.fp HP6.out hf)
            clear hp hf hpo hq
            have HI7 := hid (HI5.out.gn (gn_named HQ7.out))
            have HLL := hid (HI7.out.l HP7.out)
            clear x0 x1 x2 x3
            have fz : W7.frozen? ⟨g, 1, none⟩ = false := frz_row HBX7.out.hg 1
            have cc := HBX7.out.cells.2.1
            go_upto_region 11 with fail
            have HP8 := hid (HP7.out.prt HBX7.out 1 (.string t7))
            have HF8 := hid (HF7.out.prt HBX7.out HGS.out 1 (.string t7))
            have HBX8 := hid (HBX7.out.set.2.1 (.string t7))
            clear fz cc
            generalize W7.setCell ⟨g, 1, none⟩ (.string t7) = W8 at *
            have ⟨x0, x1, x2, x3⟩ := HBX8.out.cells
            go_wp2_with fail
            refine (put0_any HP8.out 18 t7 side (t.a : Int) HLL.out.1 HLL.out.2).mono ?_
            intro e U hpo
            have HPO := hid hpo
            rw [HR.out] at HPO
            clear hpo
            cases R with
            | error q =>
              obtain ⟨c, x⟩ := q
              obtain ⟨N, rfl, hf, hb⟩ := po_bad HPO.out
              have HFL := hid hf
              have HBD := hid ((HP.out.below HF8.out).trans hb)
              clear hf hb HPO
              go_wp2_with fail
              exact ⟨rfl, N, rfl, HFL.out, HBD.out⟩
            | ok q =>
              obtain ⟨z, s9⟩ := q
              obtain ⟨rfl, v9, o9, ks9, hp, hf⟩ := po_ok HPO.out
              have HPU := hid hp
              have HFU := hid (HF8.out.trans hf)
              clear hp hf HPO
              go_wp2_with fail
              go_ret
              exact ⟨rfl, v9, o9, ks9, HPU.out, HFU.out⟩
        · rw [if_neg h18] at HR
          have e18 : (k5 == 18) = false := by simp [h18]
          clear h18
          have HLL := hid (HI5.out.l HP6.out)
          have ⟨x0, x1, x2, x3⟩ := HBX6.out.cells
          go_wp2_with fail
          refine (put0_any HP6.out k5 ⟨#[]⟩ side (t.a : Int) HLL.out.1 HLL.out.2).mono ?_
          intro e U hpo
          have HPO := hid hpo
          rw [HR.out] at HPO
          clear hpo
          cases R with
          | error q =>
            obtain ⟨c, x⟩ := q
            obtain ⟨N, rfl, hf, hb⟩ := po_bad HPO.out
            have HFL := hid hf
            have HBD := hid ((HP.out.below HF6.out).trans hb)
            clear hf hb HPO
            go_wp2_with fail
            exact ⟨rfl, N, rfl, HFL.out, HBD.out⟩
          | ok q =>
            obtain ⟨z, s9⟩ := q
            obtain ⟨rfl, v9, o9, ks9, hp, hf⟩ := po_ok HPO.out
            have HPU := hid hp
            have HFU := hid (HF6.out.trans hf)
            clear hp hf HPO
            go_wp2_with fail
            go_ret
            exact ⟨rfl, v9, o9, ks9, HPU.out, HFU.out⟩
  · have HKD := hid (isM_kind hM)
    rw [hM] at HAT HR
    rw [if_pos rfl] at HR
    clear hM
    go_wp2_with fail
    refine (HAT.out).mono ?_
    rintro e W3 ⟨rfl, l⟩
    have HP3 := hid (HP2.out.low l)
    have HF3 := hid (HF2.out.below l)
    have HBX3 := hid (HBX2.out.low l)
    clear l
    go_wp2_with fail
    refine (take_any HP3.out HKD.out).mono ?_
    rintro e W4 ⟨rfl, hp, hf⟩
    have HP4 := hid hp
    have HF4 := hid (HF3.out.trans hf)
    have HBX4 := hid (HBX3.out.fp HP3.out hf)
    clear hp hf
    have HI4 := hid (HI2.out.gn (gn_adv _))
    go_wp2_with fail
    refine (text_any HP4.out).mono ?_
    intro e W5 hpo
    cases hq : textP T (adv (adv s)) with
    | error q =>
      obtain ⟨c, x⟩ := q
      rw [hq] at hpo HR
      rw [bnd_bad] at HR
      obtain ⟨N, rfl, hf, hb⟩ := po_bad hpo
      have HFL := hid hf
      have HBD := hid ((HP.out.below HF4.out).trans hb)
      clear hf hb hpo hq
      go_wp2_with fail
      rw [← HR.out]
      exact ⟨rfl, N, rfl, HFL.out, HBD.out⟩
    | ok q =>
      obtain ⟨t5, s5⟩ := q
      have HQ5 := hid hq
      rw [hq] at hpo HR
      rw [bnd_ok] at HR
      obtain ⟨rfl, v5, o5, ks5, hp, hf⟩ := po_ok hpo
      have HP5 := hid hp
      have HF5 := hid (HF4.out.trans hf)
      have HBX5 := hid (HBX4.out.fp HP4.out hf)
      clear hp hf hpo hq
      have HI5 := hid (HI4.out.gn (gn_text HQ5.out))
      have fz : W5.frozen? ⟨g, 1, none⟩ = false := frz_row HBX5.out.hg 1
      have cc := HBX5.out.cells.2.1
      go_upto_region 6 with fail
      have HP6 := hid (HP5.out.prt HBX5.out 1 (.string t5))
      have HF6 := hid (HF5.out.prt HBX5.out HGS.out 1 (.string t5))
      have HBX6 := hid (HBX5.out.set.2.1 (.string t5))
      clear fz cc
      generalize W5.setCell ⟨g, 1, none⟩ (.string t5) = W6 at *
      go_wp2_with fail
      refine (mark_any HP6.out ⟨#[93]⟩).mono ?_
      intro e W7 hpo
      rw [ml93] at hpo
      cases hq : markP T s5 [93] with
      | error q =>
        obtain ⟨c, x⟩ := q
        rw [hq] at hpo HR
        rw [bnd_bad] at HR
        obtain ⟨N, rfl, hf, hb⟩ := po_bad hpo
        have HFL := hid hf
        have HBD := hid ((HP.out.below HF6.out).trans hb)
        clear hf hb hpo hq
        go_wp2_with fail
        rw [← HR.out]
        exact ⟨rfl, N, rfl, HFL.out, HBD.out⟩
      | ok q =>
        obtain ⟨u7, s7⟩ := q
        have HQ7 := hid hq
        rw [hq] at hpo HR
        rw [bnd_ok] at HR
        obtain ⟨rfl, v7, o7, ks7, hp, hf⟩ := po_ok hpo
        have HP7 := hid hp
        have HF7 := hid (HF6.out.trans hf)
        have HBX7 := hid (HBX6.out.fp HP6.out hf)
        clear hp hf hpo hq
        have HI7 := hid (HI5.out.gn (gn_mark HQ7.out))
        have HLL := hid (HI7.out.l HP7.out)
        have ⟨x0, x1, x2, x3⟩ := HBX7.out.cells
        go_wp2_with fail
        refine (put0_any HP7.out 14 t5 side (t.a : Int) HLL.out.1 HLL.out.2).mono ?_
        intro e U hpo
        have HPO := hid hpo
        rw [HR.out] at HPO
        clear hpo
        cases R with
        | error q =>
          obtain ⟨c, x⟩ := q
          obtain ⟨N, rfl, hf, hb⟩ := po_bad HPO.out
          have HFL := hid hf
          have HBD := hid ((HP.out.below HF7.out).trans hb)
          clear hf hb HPO
          go_wp2_with fail
          exact ⟨rfl, N, rfl, HFL.out, HBD.out⟩
        | ok q =>
          obtain ⟨z, s9⟩ := q
          obtain ⟨rfl, v9, o9, ks9, hp, hf⟩ := po_ok HPO.out
          have HPU := hid hp
          have HFU := hid (HF7.out.trans hf)
          clear hp hf HPO
          go_wp2_with fail
          go_ret
          exact ⟨rfl, v9, o9, ks9, HPU.out, HFU.out⟩
end Go.Proofs.YtcldglilhhhdoaaGreatDoor.L
