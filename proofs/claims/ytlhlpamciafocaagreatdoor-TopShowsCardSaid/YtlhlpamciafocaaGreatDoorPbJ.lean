import Derived.Test.YtlhlpamciafocaaGreatDoorPbI
namespace Go.Proofs.YtlhlpamciafocaaGreatDoor.L
open Go.RowKit
set_option linter.unusedVariables false
set_option linter.unusedSimpArgs false
theorem own_stay {pb B : Nat} {Nb : Nat → Prop} {tv : Value} {T : List Tok} {W W' : World} {s : PS} {v o v' o' : Value} {ks : Nat → Value} {kv : Value} {kl : List Int} (h : OwnI W B kv kl) (hp : PM pb B (XA Nb kv) tv T W s v o ks) (hf : Fp pb W v o W' v' o') : OwnI W' B kv kl :=
  row_kept h (fun k hk => hf.block k (own_lt h k hk) (type_box h hp.box (by decide) hk) (type_ne h hp.parts.row (by decide) hk) (hp.xa hk).2.1)
theorem PM.nil {pb B : Nat} {Nb : Nat → Prop} {tv : Value} {T : List Tok} {W : World} {s : PS} {v o : Value} {ks : Nat → Value} (h : PM pb B Nb tv T W s v o ks) : PM pb B (XA Nb (.slice none 0 0)) tv T W s v o ks :=
  h.more (fun k hk => (by cases hk)) (fun k hk => (by cases hk)) (fun j hj k hk => (by cases hk))
/-- A set while it is read. -/
structure SI (pb B : Nat) (Nb : Nat → Prop) (tv : Value) (T : List Tok) (F : List Int → PS → PRes Int) (R : PRes Int) (W : World) (v o : Value) (n : Nat) (w : World) (s' : PS) (v' o' : Value) (ks' : Nat → Value) (kv : Value) (kl : List Int) : Prop where
  pm : PM pb B (XA Nb kv) tv T w s' v' o' ks'
  inv : Inv s'
  own : OwnI w B kv kl
  fp : Fp pb W v o w v' o'
  kb : ∀ k, kv.ownBlock = some k → W.heap.size ≤ k
  eq : bnd (memsP T n kl s') F = R
  fu : T.length - s'.nx ≤ n
  len : kl.length ≤ s'.nx
set_option maxHeartbeats 4000000 in
set_option maxRecDepth 100000 in
theorem set_any {pb B : Nat} {Nb : Nat → Prop} {tv : Value} {T : List Tok} {W : World} {s : PS} {v o : Value} {ks : Nat → Value} {r r2 : PS → PRes Int}  (h : PM pb B Nb tv T W s v o ks) (hi : Inv s) :
    Calls Tryz.prog 130 #[.pointer (some ⟨pb, 0, none⟩)] W fun e W' => Po pb B Nb tv T (fun k => .int .i64 k) (setP T s) W v o e W' := by
  have HP := hid h
  have HF0 := hid (Fp.refl pb W v o)
  have HP0 := hid h
  have HI := hid hi
  clear h hi
  have rf3 := run_f3
  obtain ⟨R, hR⟩ : ∃ R, R = setP T s := ⟨_, rfl⟩
  have HR := hid hR.symm
  rw [← hR]
  clear hR
  unfold setP at HR
  obtain ⟨t, ht⟩ : ∃ t, t = tk T s.nx := ⟨_, rfl⟩
  have HT := hid ht
  rw [← ht] at HR
  clear ht
  go_enter Tryz.func130, Tryz.ntmps130
  go_wp2_with fail
  refine (mark_any HP0.out ⟨#[123]⟩).mono ?_
  intro e W1 hpo
  rw [ml123, ← HT.out] at hpo
  cases hq : markP T s [123] with
  | error q =>
    obtain ⟨c, x⟩ := q
    rw [hq] at hpo HR
    rw [bnd_bad] at HR
    obtain ⟨N, rfl, hf, hb⟩ := po_bad hpo
    have HFL := hid hf
    have HBD := hid ((HP.out.below HF0.out).trans hb)
    clear hf hb hpo hq
    go_wp2_with fail
    rw [← HR.out]
    exact ⟨rfl, N, rfl, HFL.out, HBD.out⟩
  | ok q =>
    obtain ⟨u1, s1⟩ := q
    have HQ1 := hid hq
    rw [hq] at hpo HR
    rw [bnd_ok] at HR
    obtain ⟨rfl, v1, o1, ks1, hp, hf⟩ := po_ok hpo
    have HP1 := hid hp
    have HF1 := hid (HF0.out.trans hf)
    clear hp hf hpo hq
    (try unfold L.tv)
    have HI1 := hid (HI.out.gn (gn_mark HQ1.out))
    have HAT := hid (at_any HP1.out ⟨#[125]⟩)
    rw [ml125] at HAT
    cases hM : isM T s1 [125]
    · rw [hM] at HAT HR
      rw [if_neg (by decide)] at HR
      clear hM
      have HI2 := HI1
      go_wp2_with fail
      refine HAT.out.mono ?_
      rintro e W2 ⟨rfl, l⟩
      have HP2 := hid (HP1.out.low l)
      have HF2 := hid (HF1.out.below l)
      clear l HAT
      have HLL := hid (HI1.out.l HP2.out)
      go_wp2_with fail
      refine (member_any HP2.out 0 HLL.out.1 HLL.out.2).mono ?_
      intro e W3 hpo
      cases hq : memP T s1 0 with
      | error q =>
        obtain ⟨c, x⟩ := q
        rw [hq] at hpo HR
        rw [bnd_bad, bnd_bad] at HR
        obtain ⟨N, rfl, hf, hb⟩ := po_bad hpo
        have HFL := hid hf
        have HBD := hid ((HP.out.below HF2.out).trans hb)
        clear hf hb hpo hq
        go_wp2_with fail
        rw [← HR.out]
        exact ⟨rfl, N, rfl, HFL.out, HBD.out⟩
      | ok q =>
        obtain ⟨k3, s3⟩ := q
        have HG3 := hid (gn_mem hq)
        have HI3 := hid (HI1.out.gn HG3.out)
        rw [hq] at hpo HR
        rw [bnd_ok, bnd_ok] at HR
        obtain ⟨rfl, v3, o3, ks3, hp, hf⟩ := po_ok hpo
        have HP3 := hid hp.nil
        have HF3 := hid (HF2.out.trans hf)
        clear hp hf hpo hq
        have HBS := hid (show B ≤ W3.heap.size from Nat.le_trans HP3.out.pbB (Nat.le_of_lt (lt_blk HP3.out.box)))
        go_wp2_with (at_builtin; refine app_kid rfl _ _ rfl k3 rfl rfl (own_nil W3 B) (by simp) HBS.out ?_; intro kv6 W6 ho hg hw; have HK6 := hid ho; have HP6 := hid (HP3.out.kid (own_nil W3 B) hg hw ho); have HF6 := hid (HF3.out.kid (kv := .slice none 0 0) (fun k hk => (by cases hk)) hg); have HB6 := hid (kb_kid (kv := .slice none 0 0) HF3.out.size (fun k hk => (by cases hk)) hw); clear ho hg hw)
        clear rf3
        go_loopg [4] 4097 (fun n kv wr => ∃ s' v' o' ks' kl, Hid (SI pb B Nb tv T (fun ks s3 => bnd (markP T s3 [125]) fun _ s4 => putP s4 ⟨13, ⟨#[]⟩, 0, ks⟩ (t.a : Int)) R W v o n wr s' v' o' ks' kv kl))
        case atStart => exact ⟨s3, v3, o3, ks3, [] ++ [k3], hid ⟨HP6.out, HI3.out, HK6.out, HF6.out, HB6.out, HR.out, by have := HP3.out.tl; omega, by have h1 := HG3.out.nx; simp; omega⟩⟩
        case round =>
          obtain ⟨s', v', o', ks', kl, HI2⟩ := hrel
          have hgk : gk ≠ 0 := by have h1 := HI2.out.fu; have h2 := HI2.out.pm.nx; omega
          obtain ⟨n, rfl⟩ := Nat.exists_eq_succ_of_ne_zero hgk
          clear hgk
          have HAU := hid (at_any HI2.out.pm ⟨#[44]⟩)
          rw [ml44] at HAU
          obtain ⟨ka, kc, hkf⟩ := own_form HI2.out.own
          obtain ⟨L, hL⟩ : ∃ L, L = kl.length := ⟨_, rfl⟩
          rw [← hL] at hkf
          have HL := hid hL
          subst hkf
          have hLm : L ≤ maxLen := by have h1 := HI2.out.len; have h2 := HI2.out.pm.nx; have h3 := HI2.out.pm.tl; unfold maxLen; omega
          clear hL
          cases hM : isM T s' [44]
          · have HEQ := hid HI2.out.eq
            unfold memsP at HEQ
            rw [hM, if_neg (by decide), bnd_ok] at HEQ
            rw [hM] at HAU
            clear hM
            go_wp2_with fail
            refine HAU.out.mono ?_
            rintro e W3 ⟨rfl, l⟩
            have HP3 := hid (HI2.out.pm.low l)
            have HF3 := hid (HI2.out.fp.below l)
            have HK3 := hid (show OwnI W3 B (.slice ka L kc) kl from row_kept HI2.out.own (fun k hk => l.block k (row_at HI2.out.own hk).2.1))
            clear l
            go_wp2_with fail
            refine (mark_any HP3.out ⟨#[125]⟩).mono ?_
            intro e W4 hpo
            rw [ml125] at hpo
            cases hq : markP T s' [125] with
            | error q =>
              obtain ⟨c, x⟩ := q
              rw [hq] at hpo HEQ
              rw [bnd_bad] at HEQ
              obtain ⟨N, rfl, hf, hb⟩ := po_bad hpo
              have HFL := hid hf
              have HBD := hid ((HP.out.below HF3.out).trans hb)
              clear hf hb hpo hq
              go_wp2_with fail
              rw [← HEQ.out]
              exact ⟨rfl, N, rfl, HFL.out, HBD.out⟩
            | ok q =>
              obtain ⟨u4, s4⟩ := q
              have HI4 := hid (HI2.out.inv.gn (gn_mark hq))
              rw [hq] at hpo HEQ
              rw [bnd_ok] at HEQ
              obtain ⟨rfl, v4, o4, ks4, hp, hf⟩ := po_ok hpo
              have HP4 := hid hp
              have HF4 := hid (HF3.out.trans hf)
              have HK4 := hid (own_stay HK3.out HP3.out hf)
              have HLL := hid (HI4.out.l HP4.out)
              clear hp hf hpo hq
              have HNB := hid (show ∀ k, (Value.slice ka L kc).ownBlock = some k → ¬ Nb k from fun k hk hn => (by have h1 := HI2.out.kb k hk; have h2 := HP.out.apx.xl k hn; omega))
              go_wp2_with fail
              refine (put1_any HP4.out ⟨13, ⟨#[]⟩, 0, kl⟩ HK4.out HNB.out (t.a : Int) HLL.out.1 HLL.out.2).mono ?_
              intro e U hpo
              have HPO := hid hpo
              rw [HEQ.out] at HPO
              clear hpo
              cases R with
              | error q =>
                obtain ⟨c, x⟩ := q
                obtain ⟨N, rfl, hf, hb⟩ := po_bad HPO.out
                have HFL := hid hf
                have HBD := hid ((HP.out.below HF4.out).trans hb)
                clear hf hb HPO
                go_wp2_with fail
                exact ⟨rfl, N, rfl, HFL.out, HBD.out⟩
              | ok q =>
                obtain ⟨z, s9⟩ := q
                obtain ⟨rfl, v9, o9, ks9, hp, hf⟩ := po_ok HPO.out
                have HPU := hid hp
                have HFU := hid (HF4.out.trans hf)
                clear hp hf HPO
                go_wp2_with fail
                go_ret
                exact ⟨rfl, v9, o9, ks9, HPU.out, HFU.out⟩
          · have HEQ := hid HI2.out.eq
            unfold memsP at HEQ
            rw [hM, if_pos rfl, ← HL.out] at HEQ
            rw [hM] at HAU
            have HKD := hid (isM_kind hM)
            clear hM
            go_wp2_with fail
            refine HAU.out.mono ?_
            rintro e W3 ⟨rfl, l⟩
            have HP3 := hid (HI2.out.pm.low l)
            have HF3 := hid (HI2.out.fp.below l)
            have HK3 := hid (show OwnI W3 B (.slice ka L kc) kl from row_kept HI2.out.own (fun k hk => l.block k (row_at HI2.out.own hk).2.1))
            clear l
            go_wp2_with fail
            refine (take_any HP3.out HKD.out).mono ?_
            rintro e W4 ⟨rfl, hp, hf⟩
            have HP4 := hid hp
            have HK4 := hid (own_stay HK3.out HP3.out hf)
            have HF4 := hid (HF3.out.trans hf)
            clear hp hf
            have HI4 := hid (HI2.out.inv.gn (gn_adv s'))
            have HLL := hid (HI4.out.l HP4.out)
            go_wp2_with fail
            refine (member_any HP4.out L HLL.out.1 HLL.out.2).mono ?_
            intro e W5 hpo
            cases hq : memP T (adv s') L with
            | error q =>
              obtain ⟨c, x⟩ := q
              rw [hq] at hpo HEQ
              rw [bnd_bad, bnd_bad] at HEQ
              obtain ⟨N, rfl, hf, hb⟩ := po_bad hpo
              have HFL := hid hf
              have HBD := hid ((HP.out.below HF4.out).trans hb)
              clear hf hb hpo hq
              go_wp2_with fail
              rw [← HEQ.out]
              exact ⟨rfl, N, rfl, HFL.out, HBD.out⟩
            | ok q =>
              obtain ⟨k5, s5⟩ := q
              have HG5 := hid (gn_mem hq)
              rw [hq] at hpo HEQ
              rw [bnd_ok] at HEQ
              obtain ⟨rfl, v5, o5, ks5, hp, hf⟩ := po_ok hpo
              have HP5 := hid hp
              have HK5 := hid (own_stay HK4.out HP4.out hf)
              have HF5 := hid (HF4.out.trans hf)
              clear hp hf hpo hq
              have HLN := hid (show kl.length ≤ 100000 by have h1 := HI2.out.len; have h2 := HI2.out.pm.nx; have h3 := HI2.out.pm.tl; omega)
              have HBS := hid (show B ≤ W5.heap.size from Nat.le_trans HP5.out.pbB (Nat.le_of_lt (lt_blk HP5.out.box)))
              go_wp2_with (at_builtin; refine app_kid rfl _ _ rfl k5 rfl rfl HK5.out HLN.out HBS.out ?_; intro kv6 W6 ho hg hw; have HK6 := hid ho; have HP6 := hid (HP5.out.kid HK5.out hg hw ho); have HF6 := hid (HF5.out.kid HI2.out.kb hg); have HB6 := hid (kb_kid HF5.out.size HI2.out.kb hw); clear ho hg hw)
              go_roundg n
              case measure => omega
              case rel => exact ⟨s5, v5, o5, ks5, kl ++ [k5], hid ⟨HP6.out, HI2.out.inv.gn ((gn_adv s').trans HG5.out), HK6.out, HF6.out, HB6.out, HEQ.out, by have h1 := HI2.out.fu; have h2 := HG5.out.nx; simp only [adv] at h2; omega, by have h1 := HI2.out.len; have h2 := HG5.out.nx; simp only [adv] at h2; simp; omega⟩⟩
    · rw [hM] at HAT HR
      rw [if_pos rfl, bnd_ok] at HR
      clear hM
      go_wp2_with fail
      refine HAT.out.mono ?_
      rintro e W2 ⟨rfl, l⟩
      have HP2 := hid (HP1.out.low l).nil
      have HF2 := hid (HF1.out.below l)
      clear l HAT
      go_wp2_with fail
      clear rf3
      go_loopg [4] 4097 (fun n kv wr => ∃ s' v' o' ks' kl, Hid (SI pb B Nb tv T (fun ks s3 => bnd (markP T s3 [125]) fun _ s4 => putP s4 ⟨13, ⟨#[]⟩, 0, ks⟩ (t.a : Int)) R W v o n wr s' v' o' ks' kv kl))
      case atStart => exact ⟨s1, v1, o1, ks1, [], hid ⟨HP2.out, HI1.out, own_nil _ _, HF2.out, fun k hk => (by cases hk), HR.out, by have := HP2.out.tl; omega, Nat.zero_le _⟩⟩
      case round =>
        obtain ⟨s', v', o', ks', kl, HI2⟩ := hrel
        have hgk : gk ≠ 0 := by have h1 := HI2.out.fu; have h2 := HI2.out.pm.nx; omega
        obtain ⟨n, rfl⟩ := Nat.exists_eq_succ_of_ne_zero hgk
        clear hgk
        have HAU := hid (at_any HI2.out.pm ⟨#[44]⟩)
        rw [ml44] at HAU
        obtain ⟨ka, kc, hkf⟩ := own_form HI2.out.own
        obtain ⟨L, hL⟩ : ∃ L, L = kl.length := ⟨_, rfl⟩
        rw [← hL] at hkf
        have HL := hid hL
        subst hkf
        have hLm : L ≤ maxLen := by have h1 := HI2.out.len; have h2 := HI2.out.pm.nx; have h3 := HI2.out.pm.tl; unfold maxLen; omega
        clear hL
        cases hM : isM T s' [44]
        · have HEQ := hid HI2.out.eq
          unfold memsP at HEQ
          rw [hM, if_neg (by decide), bnd_ok] at HEQ
          rw [hM] at HAU
          clear hM
          go_wp2_with fail
          refine HAU.out.mono ?_
          rintro e W3 ⟨rfl, l⟩
          have HP3 := hid (HI2.out.pm.low l)
          have HF3 := hid (HI2.out.fp.below l)
          have HK3 := hid (show OwnI W3 B (.slice ka L kc) kl from row_kept HI2.out.own (fun k hk => l.block k (row_at HI2.out.own hk).2.1))
          clear l
          go_wp2_with fail
          refine (mark_any HP3.out ⟨#[125]⟩).mono ?_
          intro e W4 hpo
          rw [ml125] at hpo
          cases hq : markP T s' [125] with
          | error q =>
            obtain ⟨c, x⟩ := q
            rw [hq] at hpo HEQ
            rw [bnd_bad] at HEQ
            obtain ⟨N, rfl, hf, hb⟩ := po_bad hpo
            have HFL := hid hf
            have HBD := hid ((HP.out.below HF3.out).trans hb)
            clear hf hb hpo hq
            go_wp2_with fail
            rw [← HEQ.out]
            exact ⟨rfl, N, rfl, HFL.out, HBD.out⟩
          | ok q =>
            obtain ⟨u4, s4⟩ := q
            have HI4 := hid (HI2.out.inv.gn (gn_mark hq))
            rw [hq] at hpo HEQ
            rw [bnd_ok] at HEQ
            obtain ⟨rfl, v4, o4, ks4, hp, hf⟩ := po_ok hpo
            have HP4 := hid hp
            have HF4 := hid (HF3.out.trans hf)
            have HK4 := hid (own_stay HK3.out HP3.out hf)
            have HLL := hid (HI4.out.l HP4.out)
            clear hp hf hpo hq
            have HNB := hid (show ∀ k, (Value.slice ka L kc).ownBlock = some k → ¬ Nb k from fun k hk hn => (by have h1 := HI2.out.kb k hk; have h2 := HP.out.apx.xl k hn; omega))
            go_wp2_with fail
            refine (put1_any HP4.out ⟨13, ⟨#[]⟩, 0, kl⟩ HK4.out HNB.out (t.a : Int) HLL.out.1 HLL.out.2).mono ?_
            intro e U hpo
            have HPO := hid hpo
            rw [HEQ.out] at HPO
            clear hpo
            cases R with
            | error q =>
              obtain ⟨c, x⟩ := q
              obtain ⟨N, rfl, hf, hb⟩ := po_bad HPO.out
              have HFL := hid hf
              have HBD := hid ((HP.out.below HF4.out).trans hb)
              clear hf hb HPO
              go_wp2_with fail
              exact ⟨rfl, N, rfl, HFL.out, HBD.out⟩
            | ok q =>
              obtain ⟨z, s9⟩ := q
              obtain ⟨rfl, v9, o9, ks9, hp, hf⟩ := po_ok HPO.out
              have HPU := hid hp
              have HFU := hid (HF4.out.trans hf)
              clear hp hf HPO
              go_wp2_with fail
              go_ret
              exact ⟨rfl, v9, o9, ks9, HPU.out, HFU.out⟩
        · have HEQ := hid HI2.out.eq
          unfold memsP at HEQ
          rw [hM, if_pos rfl, ← HL.out] at HEQ
          rw [hM] at HAU
          have HKD := hid (isM_kind hM)
          clear hM
          go_wp2_with fail
          refine HAU.out.mono ?_
          rintro e W3 ⟨rfl, l⟩
          have HP3 := hid (HI2.out.pm.low l)
          have HF3 := hid (HI2.out.fp.below l)
          have HK3 := hid (show OwnI W3 B (.slice ka L kc) kl from row_kept HI2.out.own (fun k hk => l.block k (row_at HI2.out.own hk).2.1))
          clear l
          go_wp2_with fail
          refine (take_any HP3.out HKD.out).mono ?_
          rintro e W4 ⟨rfl, hp, hf⟩
          have HP4 := hid hp
          have HK4 := hid (own_stay HK3.out HP3.out hf)
          have HF4 := hid (HF3.out.trans hf)
          clear hp hf
          have HI4 := hid (HI2.out.inv.gn (gn_adv s'))
          have HLL := hid (HI4.out.l HP4.out)
          go_wp2_with fail
          refine (member_any HP4.out L HLL.out.1 HLL.out.2).mono ?_
          intro e W5 hpo
          cases hq : memP T (adv s') L with
          | error q =>
            obtain ⟨c, x⟩ := q
            rw [hq] at hpo HEQ
            rw [bnd_bad, bnd_bad] at HEQ
            obtain ⟨N, rfl, hf, hb⟩ := po_bad hpo
            have HFL := hid hf
            have HBD := hid ((HP.out.below HF4.out).trans hb)
            clear hf hb hpo hq
            go_wp2_with fail
            rw [← HEQ.out]
            exact ⟨rfl, N, rfl, HFL.out, HBD.out⟩
          | ok q =>
            obtain ⟨k5, s5⟩ := q
            have HG5 := hid (gn_mem hq)
            rw [hq] at hpo HEQ
            rw [bnd_ok] at HEQ
            obtain ⟨rfl, v5, o5, ks5, hp, hf⟩ := po_ok hpo
            have HP5 := hid hp
            have HK5 := hid (own_stay HK4.out HP4.out hf)
            have HF5 := hid (HF4.out.trans hf)
            clear hp hf hpo hq
            have HLN := hid (show kl.length ≤ 100000 by have h1 := HI2.out.len; have h2 := HI2.out.pm.nx; have h3 := HI2.out.pm.tl; omega)
            have HBS := hid (show B ≤ W5.heap.size from Nat.le_trans HP5.out.pbB (Nat.le_of_lt (lt_blk HP5.out.box)))
            go_wp2_with (at_builtin; refine app_kid rfl _ _ rfl k5 rfl rfl HK5.out HLN.out HBS.out ?_; intro kv6 W6 ho hg hw; have HK6 := hid ho; have HP6 := hid (HP5.out.kid HK5.out hg hw ho); have HF6 := hid (HF5.out.kid HI2.out.kb hg); have HB6 := hid (kb_kid HF5.out.size HI2.out.kb hw); clear ho hg hw)
            go_roundg n
            case measure => omega
            case rel => exact ⟨s5, v5, o5, ks5, kl ++ [k5], hid ⟨HP6.out, HI2.out.inv.gn ((gn_adv s').trans HG5.out), HK6.out, HF6.out, HB6.out, HEQ.out, by have h1 := HI2.out.fu; have h2 := HG5.out.nx; simp only [adv] at h2; omega, by have h1 := HI2.out.len; have h2 := HG5.out.nx; simp only [adv] at h2; simp; omega⟩⟩
end Go.Proofs.YtlhlpamciafocaaGreatDoor.L
