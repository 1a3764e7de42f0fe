import Derived.Test.YtlhlpamciafocaaGreatDoorMgAK
import Derived.Deep.LoopGhost
namespace Go.Proofs.YtlhlpamciafocaaGreatDoor.L
open Go.RowKit
set_option linter.unusedVariables false
set_option linter.unusedSimpArgs false
set_option maxHeartbeats 4000000 in
set_option maxRecDepth 100000 in
theorem row_conj {pb B : Nat} {Nb : Nat → Prop} {tv : Value} {T : List Tok} {W : World} {s : PS} {v o : Value} {ks : Nat → Value} {r : PS → PRes Int} (ho : Ct pb B tv T 54 r s.nx) (hg : Gone r) (h : PM pb B Nb tv T W s v o ks) (hi : Inv s) (kd : Int) (m : ByteArray) :
    Calls Tryz.prog 53 #[.pointer (some ⟨pb, 0, none⟩), .int .i64 kd, .string m, .func (.func 54) #[.pointer (some ⟨pb, 0, none⟩)] #[]] W fun e W' => Po pb B Nb tv T (fun k => .int .i64 k) (rowP T r kd m.toList s) W v o e W' := by
  unfold rowP
  have HP := hid h
  have HI := hid hi
  have HC := hid ho
  have HG := hid hg
  clear h hi ho hg
  cases h1 : r s with
  | error q =>
    obtain ⟨c, x⟩ := q
    have HR := hid h1
    rw [bnd_bad]
    clear h1
    go_enter Tryz.func53, Tryz.ntmps53
    go_wp2_with fail
    refine (HC.out Nb _ _ _ _ _ HP.out HI.out (Nat.le_refl _)).mono ?_
    intro e W1 hpo
    rw [HR.out] at hpo
    obtain ⟨N, rfl, hf, hb⟩ := po_bad hpo
    have HF := hid hf
    have HBD := hid hb
    clear hf hb hpo
    go_wp2_with fail
    exact ⟨rfl, N, rfl, HF.out, HBD.out⟩
  | ok q =>
    obtain ⟨k0, s1⟩ := q
    have HR := hid h1
    have HG1 := hid (HG.out _ _ _ h1)
    rw [bnd_ok]
    clear h1
    obtain ⟨R, hR⟩ : ∃ R, R = bnd (rowsP T r m.toList 4097 [k0] s1) (fun ks s2 => if ks.length = 1 then .ok (k0, s2) else putP s2 ⟨kd, ⟨#[]⟩, 0, ks⟩ ((tk T s1.nx).a : Int)) := ⟨_, rfl⟩
    have HRR := hid hR.symm
    rw [← hR]
    clear hR
    obtain ⟨t, ht⟩ : ∃ t, t = tk T s1.nx := ⟨_, rfl⟩
    have HT := hid ht
    rw [← ht] at HRR
    clear ht
    go_enter Tryz.func53, Tryz.ntmps53
    go_wp2_with fail
    refine (HC.out Nb _ _ _ _ _ HP.out HI.out (Nat.le_refl _)).mono ?_
    intro e W1 hpo
    rw [HR.out] at hpo
    obtain ⟨rfl, v1, o1, ks1, hp, hf⟩ := po_ok hpo
    have HP1 := hid (hp.fresh (.cells #[.int .i64 k0] 3) 1 1)
    have HK1 := hid (show OwnI (W1.alloc (.cells #[.int .i64 k0] 3)) B (.slice (some ⟨W1.heap.size, 0, none⟩) 1 1) [k0] from World.ownsRow_lit W1 #[.int .i64 k0] 1 (Nat.le_trans hp.pbB (Nat.le_of_lt (lt_blk hp.box))) (by decide) rfl)
    have HB1 := hid (kb_new (W0 := W) (W := W1) 1 1 hf.size)
    have HF1 := hid (hf.below (belowA W1 (.cells #[.int .i64 k0] 3)))
    clear hp hf hpo
    have HTK := hid (fun (Z : World) (hz : PM pb B (XA Nb (.slice (some ⟨W1.heap.size, 0, none⟩) 1 1)) tv T Z s1 v1 o1 ks1) => token_any hz)
    rw [← HT.out] at HTK
    unfold L.tv at HTK
    have rf3 := run_f3
    go_wp2_with fail
    refine (HTK.out _ HP1.out).mono ?_
    rintro e W2 ⟨rfl, l⟩
    have HP2 := hid (HP1.out.low l)
    have HK2 := hid (show OwnI W2 B (.slice (some ⟨W1.heap.size, 0, none⟩) 1 1) [k0] from row_kept HK1.out (fun k hk => l.block k (row_at HK1.out hk).2.1))
    have HF2 := hid (HF1.out.below l)
    clear l HP1 HK1 HF1 HTK
    generalize W1.heap.size = b1 at *
    go_wp2_with fail
    clear rf3
    go_loopg [9] 4097 (fun n kv wr => ∃ s' v' o' ks' kl, Hid (RI pb B Nb tv T (rowsP T r m.toList) (fun ks s2 => if ks.length = 1 then .ok (k0, s2) else putP s2 ⟨kd, ⟨#[]⟩, 0, ks⟩ (t.a : Int)) R s.nx k0 W v o n wr s' v' o' ks' kv kl))
    case atStart => exact ⟨s1, v1, o1, ks1, [k0], hid ⟨HP2.out, HI.out.gn HG1.out, by have := HG1.out.nx; omega, HK2.out, HF2.out, HB1.out, HRR.out, by have := HP2.out.tl; omega, by have := HG1.out.nx; simp; omega, rfl⟩⟩
    case round =>
      obtain ⟨s', v', o', ks', kl, HI2⟩ := hrel
      have hgk : gk ≠ 0 := by have h1 := HI2.out.fu; have h2 := HI2.out.pm.nx; omega
      obtain ⟨n, rfl⟩ := Nat.exists_eq_succ_of_ne_zero hgk
      clear hgk
      cases hM : isM T s' m.toList
      · have HM := hid hM
        have HEQ := hid HI2.out.eq
        unfold rowsP at HEQ
        rw [hM, if_neg (by decide), bnd_ok] at HEQ
        clear hM
        obtain ⟨ka, kc, hkf⟩ := own_form HI2.out.own
        obtain ⟨L, hL⟩ : ∃ L, L = kl.length := ⟨_, rfl⟩
        rw [← hL] at hkf HEQ
        have HL := hid hL
        subst hkf
        have hLm : L ≤ maxLen := by have h1 := HI2.out.len; have h2 := HI2.out.pm.nx; have h3 := HI2.out.pm.tl; unfold maxLen; omega
        clear hL
        by_cases h1 : L = 1
        · rw [if_pos h1] at HEQ
          obtain ⟨g, c, e1, e2, e3⟩ := kid0 HI2.out.own HI2.out.hd (HL.out.symm.trans h1)
          have HC0 := hid e2
          injection e1 with e4 e5 e6
          subst e4 e6
          have d1 : ((L : Int) == 1) = true := by simp [h1]
          have hlp : (0 : Int) < (L : Int) := by omega
          clear h1 e2 e3 e5
          go_wp2_with fail
          refine (at_any HI2.out.pm m).mono ?_
          rintro e W3 ⟨rfl, l⟩
          rw [HM.out]
          have HP3 := hid (HI2.out.pm.less.low l)
          have HF3 := hid (HI2.out.fp.below l)
          have hc0 : W3.cell? ⟨g, 0, none⟩ = some (.int .i64 k0) := (l.cell (p := ⟨g, 0, none⟩) (own_lt HI2.out.own g rfl)).trans HC0.out
          clear l
          go_wp2_with fail
          go_ret
          rw [← HEQ.out]
          exact ⟨rfl, v', o', ks', HP3.out, HF3.out⟩
        · rw [if_neg h1] at HEQ
          have d1 : ((L : Int) == 1) = false := by simp; omega
          clear h1
          go_wp2_with fail
          refine (at_any HI2.out.pm m).mono ?_
          rintro e W3 ⟨rfl, l⟩
          rw [HM.out]
          have HP3 := hid (HI2.out.pm.low l)
          have HF3 := hid (HI2.out.fp.below l)
          have HK3 := hid (show OwnI W3 B (.slice ka L kc) kl from row_kept HI2.out.own (fun k hk => l.block k (row_at HI2.out.own hk).2.1))
          clear l
          have HLL := hid (HI2.out.inv.l HP3.out)
          have HNB := hid (show ∀ k, (Value.slice ka L kc).ownBlock = some k → ¬ Nb k from fun k hk hn => (by have h1 := HI2.out.kb k hk; have h2 := HP.out.apx.xl k hn; omega))
          go_wp2_with fail
          refine (put1_any HP3.out ⟨kd, ⟨#[]⟩, 0, kl⟩ HK3.out HNB.out _ HLL.out.1 HLL.out.2).mono ?_
          intro e U hpo
          have HPO := hid hpo
          rw [HEQ.out] at HPO
          clear hpo
          cases R with
          | error q =>
            obtain ⟨c, x⟩ := q
            obtain ⟨N, rfl, hf, hb⟩ := po_bad HPO.out
            have HFL := hid hf
            have HBD := hid ((HP.out.below HF3.out).trans hb)
            clear hf hb HPO
            go_wp2_with fail
            exact ⟨rfl, N, rfl, HFL.out, HBD.out⟩
          | ok q =>
            obtain ⟨z, s9⟩ := q
            obtain ⟨rfl, v9, o9, ks9, hp, hf⟩ := po_ok HPO.out
            have HPU := hid hp
            have HFU := hid (HF3.out.trans hf)
            clear hp hf HPO
            go_wp2_with fail
            go_ret
            exact ⟨rfl, v9, o9, ks9, HPU.out, HFU.out⟩
      · have HM := hid hM
        have HEQ := hid HI2.out.eq
        unfold rowsP at HEQ
        rw [hM, if_pos rfl] at HEQ
        have HKD := hid (isM_kind hM)
        clear hM
        cases h2 : r (adv s') with
        | error q =>
          obtain ⟨c, x⟩ := q
          have HR2 := hid h2
          rw [h2, bnd_bad, bnd_bad] at HEQ
          clear h2
          go_wp2_with fail
          refine (at_any HI2.out.pm m).mono ?_
          rintro e W3 ⟨rfl, l⟩
          rw [HM.out]
          have HP3 := hid (HI2.out.pm.low l)
          have HF3 := hid (HI2.out.fp.below l)
          clear l
          go_wp2_with fail
          refine (take_any HP3.out HKD.out).mono ?_
          rintro e W4 ⟨rfl, hp, hf⟩
          have HP4 := hid hp
          have HF4 := hid (HF3.out.trans hf)
          clear hp hf
          go_wp2_with fail
          refine (HC.out (XA Nb u9) _ _ _ _ _ HP4.out (HI2.out.inv.gn (gn_adv s')) (Nat.le_trans HI2.out.lo (Nat.le_succ _))).mono ?_
          intro e W5 hpo
          rw [HR2.out] at hpo
          obtain ⟨N, rfl, hf, hb⟩ := po_bad hpo
          have HFL := hid hf
          have HBD := hid ((HP.out.below HF4.out).trans hb)
          clear hf hb hpo
          go_wp2_with fail
          rw [← HEQ.out]
          exact ⟨rfl, N, rfl, HFL.out, HBD.out⟩
        | ok q =>
          obtain ⟨k5, s5⟩ := q
          have HR2 := hid h2
          have HG5 := hid (HG.out _ _ _ h2)
          rw [h2, bnd_ok] at HEQ
          clear h2
          go_wp2_with fail
          refine (at_any HI2.out.pm m).mono ?_
          rintro e W3 ⟨rfl, l⟩
          rw [HM.out]
          have HP3 := hid (HI2.out.pm.low l)
          have HF3 := hid (HI2.out.fp.below l)
          have HK3 := hid (show OwnI W3 B u9 kl from row_kept HI2.out.own (fun k hk => l.block k (row_at HI2.out.own hk).2.1))
          clear l
          go_wp2_with fail
          refine (take_any HP3.out HKD.out).mono ?_
          rintro e W4 ⟨rfl, hp, hf⟩
          have HP4 := hid hp
          have HK4 := hid (show OwnI W4 B u9 kl from row_kept HK3.out (fun k hk => hf.block k (own_lt HK3.out k hk) (type_box HK3.out HP3.out.box (by decide) hk) (type_ne HK3.out HP3.out.parts.row (by decide) hk) (HP3.out.xa hk).2.1))
          have HF4 := hid (HF3.out.trans hf)
          clear hp hf
          go_wp2_with fail
          refine (HC.out (XA Nb u9) _ _ _ _ _ HP4.out (HI2.out.inv.gn (gn_adv s')) (Nat.le_trans HI2.out.lo (Nat.le_succ _))).mono ?_
          intro e W5 hpo
          rw [HR2.out] at hpo
          obtain ⟨rfl, v5, o5, ks5, hp, hf⟩ := po_ok hpo
          have HP5 := hid hp
          have HK5 := hid (show OwnI W5 B u9 kl from row_kept HK4.out (fun k hk => hf.block k (own_lt HK4.out k hk) (type_box HK4.out HP4.out.box (by decide) hk) (type_ne HK4.out HP4.out.parts.row (by decide) hk) (HP4.out.xa hk).2.1))
          have HF5 := hid (HF4.out.trans hf)
          clear hp hf hpo
          have HLN := hid (show kl.length ≤ 100000 by have h1 := HI2.out.len; have h2 := HI2.out.pm.nx; have h3 := HI2.out.pm.tl; omega)
          have HBS := hid (show B ≤ W5.heap.size from Nat.le_trans HP5.out.pbB (Nat.le_of_lt (lt_blk HP5.out.box)))
          go_wp2_with (at_builtin; refine app_kid rfl _ _ rfl k5 rfl rfl HK5.out HLN.out HBS.out ?_; intro kv6 W6 ho hg hw; have HK6 := hid ho; have HP6 := hid (HP5.out.kid HK5.out hg hw ho); have HF6 := hid (HF5.out.kid HI2.out.kb hg); have HB6 := hid (kb_kid HF5.out.size HI2.out.kb hw); clear ho hg hw)
          go_roundg n
          case measure => omega
          case rel => exact ⟨s5, v5, o5, ks5, kl ++ [k5], hid ⟨HP6.out, HI2.out.inv.gn ((gn_adv s').trans HG5.out), by have h1 := HI2.out.lo; have h2 := HG5.out.nx; simp only [adv] at h2; omega, HK6.out, HF6.out, HB6.out, HEQ.out, by have h1 := HI2.out.fu; have h2 := HG5.out.nx; simp only [adv] at h2; omega, by have h1 := HI2.out.len; have h2 := HG5.out.nx; simp only [adv] at h2; simp; omega, by have h1 := HI2.out.hd; cases kl; (cases h1); exact h1⟩⟩
end Go.Proofs.YtlhlpamciafocaaGreatDoor.L
namespace Go.Proofs.YtlhlpamciafocaaGreatDoor.L
open Go.RowKit
set_option linter.unusedVariables false
set_option linter.unusedSimpArgs false
set_option maxHeartbeats 4000000 in
set_option maxRecDepth 100000 in
theorem row_unit {pb B : Nat} {Nb : Nat → Prop} {tv : Value} {T : List Tok} {W : World} {s : PS} {v o : Value} {ks : Nat → Value} {r : PS → PRes Int} (ho : Ct pb B tv T 74 r s.nx) (hg : Gone r) (h : PM pb B Nb tv T W s v o ks) (hi : Inv s) (kd : Int) (m : ByteArray) :
    Calls Tryz.prog 53 #[.pointer (some ⟨pb, 0, none⟩), .int .i64 kd, .string m, .func (.func 74) #[.pointer (some ⟨pb, 0, none⟩)] #[]] W fun e W' => Po pb B Nb tv T (fun k => .int .i64 k) (rowP T r kd m.toList s) W v o e W' := by
  unfold rowP
  have HP := hid h
  have HI := hid hi
  have HC := hid ho
  have HG := hid hg
  clear h hi ho hg
  cases h1 : r s with
  | error q =>
    obtain ⟨c, x⟩ := q
    have HR := hid h1
    rw [bnd_bad]
    clear h1
    go_enter Tryz.func53, Tryz.ntmps53
    go_wp2_with fail
    refine (HC.out Nb _ _ _ _ _ HP.out HI.out (Nat.le_refl _)).mono ?_
    intro e W1 hpo
    rw [HR.out] at hpo
    obtain ⟨N, rfl, hf, hb⟩ := po_bad hpo
    have HF := hid hf
    have HBD := hid hb
    clear hf hb hpo
    go_wp2_with fail
    exact ⟨rfl, N, rfl, HF.out, HBD.out⟩
  | ok q =>
    obtain ⟨k0, s1⟩ := q
    have HR := hid h1
    have HG1 := hid (HG.out _ _ _ h1)
    rw [bnd_ok]
    clear h1
    obtain ⟨R, hR⟩ : ∃ R, R = bnd (rowsP T r m.toList 4097 [k0] s1) (fun ks s2 => if ks.length = 1 then .ok (k0, s2) else putP s2 ⟨kd, ⟨#[]⟩, 0, ks⟩ ((tk T s1.nx).a : Int)) := ⟨_, rfl⟩
    have HRR := hid hR.symm
    rw [← hR]
    clear hR
    obtain ⟨t, ht⟩ : ∃ t, t = tk T s1.nx := ⟨_, rfl⟩
    have HT := hid ht
    rw [← ht] at HRR
    clear ht
    go_enter Tryz.func53, Tryz.ntmps53
    go_wp2_with fail
    refine (HC.out Nb _ _ _ _ _ HP.out HI.out (Nat.le_refl _)).mono ?_
    intro e W1 hpo
    rw [HR.out] at hpo
    obtain ⟨rfl, v1, o1, ks1, hp, hf⟩ := po_ok hpo
    have HP1 := hid (hp.fresh (.cells #[.int .i64 k0] 3) 1 1)
    have HK1 := hid (show OwnI (W1.alloc (.cells #[.int .i64 k0] 3)) B (.slice (some ⟨W1.heap.size, 0, none⟩) 1 1) [k0] from World.ownsRow_lit W1 #[.int .i64 k0] 1 (Nat.le_trans hp.pbB (Nat.le_of_lt (lt_blk hp.box))) (by decide) rfl)
    have HB1 := hid (kb_new (W0 := W) (W := W1) 1 1 hf.size)
    have HF1 := hid (hf.below (belowA W1 (.cells #[.int .i64 k0] 3)))
    clear hp hf hpo
    have HTK := hid (fun (Z : World) (hz : PM pb B (XA Nb (.slice (some ⟨W1.heap.size, 0, none⟩) 1 1)) tv T Z s1 v1 o1 ks1) => token_any hz)
    rw [← HT.out] at HTK
    unfold L.tv at HTK
    have rf3 := run_f3
    go_wp2_with fail
    refine (HTK.out _ HP1.out).mono ?_
    rintro e W2 ⟨rfl, l⟩
    have HP2 := hid (HP1.out.low l)
    have HK2 := hid (show OwnI W2 B (.slice (some ⟨W1.heap.size, 0, none⟩) 1 1) [k0] from row_kept HK1.out (fun k hk => l.block k (row_at HK1.out hk).2.1))
    have HF2 := hid (HF1.out.below l)
    clear l HP1 HK1 HF1 HTK
    generalize W1.heap.size = b1 at *
    go_wp2_with fail
    clear rf3
    go_loopg [9] 4097 (fun n kv wr => ∃ s' v' o' ks' kl, Hid (RI pb B Nb tv T (rowsP T r m.toList) (fun ks s2 => if ks.length = 1 then .ok (k0, s2) else putP s2 ⟨kd, ⟨#[]⟩, 0, ks⟩ (t.a : Int)) R s.nx k0 W v o n wr s' v' o' ks' kv kl))
    case atStart => exact ⟨s1, v1, o1, ks1, [k0], hid ⟨HP2.out, HI.out.gn HG1.out, by have := HG1.out.nx; omega, HK2.out, HF2.out, HB1.out, HRR.out, by have := HP2.out.tl; omega, by have := HG1.out.nx; simp; omega, rfl⟩⟩
    case round =>
      obtain ⟨s', v', o', ks', kl, HI2⟩ := hrel
      have hgk : gk ≠ 0 := by have h1 := HI2.out.fu; have h2 := HI2.out.pm.nx; omega
      obtain ⟨n, rfl⟩ := Nat.exists_eq_succ_of_ne_zero hgk
      clear hgk
      cases hM : isM T s' m.toList
      · have HM := hid hM
        have HEQ := hid HI2.out.eq
        unfold rowsP at HEQ
        rw [hM, if_neg (by decide), bnd_ok] at HEQ
        clear hM
        obtain ⟨ka, kc, hkf⟩ := own_form HI2.out.own
        obtain ⟨L, hL⟩ : ∃ L, L = kl.length := ⟨_, rfl⟩
        rw [← hL] at hkf HEQ
        have HL := hid hL
        subst hkf
        have hLm : L ≤ maxLen := by have h1 := HI2.out.len; have h2 := HI2.out.pm.nx; have h3 := HI2.out.pm.tl; unfold maxLen; omega
        clear hL
        by_cases h1 : L = 1
        · rw [if_pos h1] at HEQ
          obtain ⟨g, c, e1, e2, e3⟩ := kid0 HI2.out.own HI2.out.hd (HL.out.symm.trans h1)
          have HC0 := hid e2
          injection e1 with e4 e5 e6
          subst e4 e6
          have d1 : ((L : Int) == 1) = true := by simp [h1]
          have hlp : (0 : Int) < (L : Int) := by omega
          clear h1 e2 e3 e5
          go_wp2_with fail
          refine (at_any HI2.out.pm m).mono ?_
          rintro e W3 ⟨rfl, l⟩
          rw [HM.out]
          have HP3 := hid (HI2.out.pm.less.low l)
          have HF3 := hid (HI2.out.fp.below l)
          have hc0 : W3.cell? ⟨g, 0, none⟩ = some (.int .i64 k0) := (l.cell (p := ⟨g, 0, none⟩) (own_lt HI2.out.own g rfl)).trans HC0.out
          clear l
          go_wp2_with fail
          go_ret
          rw [← HEQ.out]
          exact ⟨rfl, v', o', ks', HP3.out, HF3.out⟩
        · rw [if_neg h1] at HEQ
          have d1 : ((L : Int) == 1) = false := by simp; omega
          clear h1
          go_wp2_with fail
          refine (at_any HI2.out.pm m).mono ?_
          rintro e W3 ⟨rfl, l⟩
          rw [HM.out]
          have HP3 := hid (HI2.out.pm.low l)
          have HF3 := hid (HI2.out.fp.below l)
          have HK3 := hid (show OwnI W3 B (.slice ka L kc) kl from row_kept HI2.out.own (fun k hk => l.block k (row_at HI2.out.own hk).2.1))
          clear l
          have HLL := hid (HI2.out.inv.l HP3.out)
          have HNB := hid (show ∀ k, (Value.slice ka L kc).ownBlock = some k → ¬ Nb k from fun k hk hn => (by have h1 := HI2.out.kb k hk; have h2 := HP.out.apx.xl k hn; omega))
          go_wp2_with fail
          refine (put1_any HP3.out ⟨kd, ⟨#[]⟩, 0, kl⟩ HK3.out HNB.out _ HLL.out.1 HLL.out.2).mono ?_
          intro e U hpo
          have HPO := hid hpo
          rw [HEQ.out] at HPO
          clear hpo
          cases R with
          | error q =>
            obtain ⟨c, x⟩ := q
            obtain ⟨N, rfl, hf, hb⟩ := po_bad HPO.out
            have HFL := hid hf
            have HBD := hid ((HP.out.below HF3.out).trans hb)
            clear hf hb HPO
            go_wp2_with fail
            exact ⟨rfl, N, rfl, HFL.out, HBD.out⟩
          | ok q =>
            obtain ⟨z, s9⟩ := q
            obtain ⟨rfl, v9, o9, ks9, hp, hf⟩ := po_ok HPO.out
            have HPU := hid hp
            have HFU := hid (HF3.out.trans hf)
            clear hp hf HPO
            go_wp2_with fail
            go_ret
            exact ⟨rfl, v9, o9, ks9, HPU.out, HFU.out⟩
      · have HM := hid hM
        have HEQ := hid HI2.out.eq
        unfold rowsP at HEQ
        rw [hM, if_pos rfl] at HEQ
        have HKD := hid (isM_kind hM)
        clear hM
        cases h2 : r (adv s') with
        | error q =>
          obtain ⟨c, x⟩ := q
          have HR2 := hid h2
          rw [h2, bnd_bad, bnd_bad] at HEQ
          clear h2
          go_wp2_with fail
          refine (at_any HI2.out.pm m).mono ?_
          rintro e W3 ⟨rfl, l⟩
          rw [HM.out]
          have HP3 := hid (HI2.out.pm.low l)
          have HF3 := hid (HI2.out.fp.below l)
          clear l
          go_wp2_with fail
          refine (take_any HP3.out HKD.out).mono ?_
          rintro e W4 ⟨rfl, hp, hf⟩
          have HP4 := hid hp
          have HF4 := hid (HF3.out.trans hf)
          clear hp hf
          go_wp2_with fail
          refine (HC.out (XA Nb u9) _ _ _ _ _ HP4.out (HI2.out.inv.gn (gn_adv s')) (Nat.le_trans HI2.out.lo (Nat.le_succ _))).mono ?_
          intro e W5 hpo
          rw [HR2.out] at hpo
          obtain ⟨N, rfl, hf, hb⟩ := po_bad hpo
          have HFL := hid hf
          have HBD := hid ((HP.out.below HF4.out).trans hb)
          clear hf hb hpo
          go_wp2_with fail
          rw [← HEQ.out]
          exact ⟨rfl, N, rfl, HFL.out, HBD.out⟩
        | ok q =>
          obtain ⟨k5, s5⟩ := q
          have HR2 := hid h2
          have HG5 := hid (HG.out _ _ _ h2)
          rw [h2, bnd_ok] at HEQ
          clear h2
          go_wp2_with fail
          refine (at_any HI2.out.pm m).mono ?_
          rintro e W3 ⟨rfl, l⟩
          rw [HM.out]
          have HP3 := hid (HI2.out.pm.low l)
          have HF3 := hid (HI2.out.fp.below l)
          have HK3 := hid (show OwnI W3 B u9 kl from row_kept HI2.out.own (fun k hk => l.block k (row_at HI2.out.own hk).2.1))
          clear l
          go_wp2_with fail
          refine (take_any HP3.out HKD.out).mono ?_
          rintro e W4 ⟨rfl, hp, hf⟩
          have HP4 := hid hp
          have HK4 := hid (show OwnI W4 B u9 kl from row_kept HK3.out (fun k hk => hf.block k (own_lt HK3.out k hk) (type_box HK3.out HP3.out.box (by decide) hk) (type_ne HK3.out HP3.out.parts.row (by decide) hk) (HP3.out.xa hk).2.1))
          have HF4 := hid (HF3.out.trans hf)
          clear hp hf
          go_wp2_with fail
          refine (HC.out (XA Nb u9) _ _ _ _ _ HP4.out (HI2.out.inv.gn (gn_adv s')) (Nat.le_trans HI2.out.lo (Nat.le_succ _))).mono ?_
          intro e W5 hpo
          rw [HR2.out] at hpo
          obtain ⟨rfl, v5, o5, ks5, hp, hf⟩ := po_ok hpo
          have HP5 := hid hp
          have HK5 := hid (show OwnI W5 B u9 kl from row_kept HK4.out (fun k hk => hf.block k (own_lt HK4.out k hk) (type_box HK4.out HP4.out.box (by decide) hk) (type_ne HK4.out HP4.out.parts.row (by decide) hk) (HP4.out.xa hk).2.1))
          have HF5 := hid (HF4.out.trans hf)
          clear hp hf hpo
          have HLN := hid (show kl.length ≤ 100000 by have h1 := HI2.out.len; have h2 := HI2.out.pm.nx; have h3 := HI2.out.pm.tl; omega)
          have HBS := hid (show B ≤ W5.heap.size from Nat.le_trans HP5.out.pbB (Nat.le_of_lt (lt_blk HP5.out.box)))
          go_wp2_with (at_builtin; refine app_kid rfl _ _ rfl k5 rfl rfl HK5.out HLN.out HBS.out ?_; intro kv6 W6 ho hg hw; have HK6 := hid ho; have HP6 := hid (HP5.out.kid HK5.out hg hw ho); have HF6 := hid (HF5.out.kid HI2.out.kb hg); have HB6 := hid (kb_kid HF5.out.size HI2.out.kb hw); clear ho hg hw)
          go_roundg n
          case measure => omega
          case rel => exact ⟨s5, v5, o5, ks5, kl ++ [k5], hid ⟨HP6.out, HI2.out.inv.gn ((gn_adv s').trans HG5.out), by have h1 := HI2.out.lo; have h2 := HG5.out.nx; simp only [adv] at h2; omega, HK6.out, HF6.out, HB6.out, HEQ.out, by have h1 := HI2.out.fu; have h2 := HG5.out.nx; simp only [adv] at h2; omega, by have h1 := HI2.out.len; have h2 := HG5.out.nx; simp only [adv] at h2; simp; omega, by have h1 := HI2.out.hd; cases kl; (cases h1); exact h1⟩⟩
end Go.Proofs.YtlhlpamciafocaaGreatDoor.L
