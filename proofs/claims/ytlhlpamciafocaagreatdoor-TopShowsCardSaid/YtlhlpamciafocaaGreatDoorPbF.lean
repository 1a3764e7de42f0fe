import Derived.Test.YtlhlpamciafocaaGreatDoorMgAL
namespace Go.Proofs.YtlhlpamciafocaaGreatDoor.L
open Go.RowKit
set_option linter.unusedVariables false
set_option linter.unusedSimpArgs false
theorem ml124_124 : (⟨#[124, 124]⟩ : ByteArray).toList = [124, 124] := ByteArray.toList_eq _
theorem ml38_38 : (⟨#[38, 38]⟩ : ByteArray).toList = [38, 38] := ByteArray.toList_eq _
theorem ml33 : (⟨#[33]⟩ : ByteArray).toList = [33] := ByteArray.toList_eq _
theorem ml44 : (⟨#[44]⟩ : ByteArray).toList = [44] := ByteArray.toList_eq _
theorem ml123 : (⟨#[123]⟩ : ByteArray).toList = [123] := ByteArray.toList_eq _
theorem ml125 : (⟨#[125]⟩ : ByteArray).toList = [125] := ByteArray.toList_eq _
theorem ml91 : (⟨#[91]⟩ : ByteArray).toList = [91] := ByteArray.toList_eq _
theorem ml93 : (⟨#[93]⟩ : ByteArray).toList = [93] := ByteArray.toList_eq _
theorem ml46 : (⟨#[46]⟩ : ByteArray).toList = [46] := ByteArray.toList_eq _
set_option maxHeartbeats 4000000 in
set_option maxRecDepth 100000 in
theorem expr_any {pb B : Nat} {Nb : Nat → Prop} {tv : Value} {T : List Tok} {W : World} {s : PS} {v o : Value} {ks : Nat → Value} {r r2 : PS → PRes Int} (ho : Ct pb B tv T 54 r (s.nx)) (gho : Gone r) (h : PM pb B Nb tv T W s v o ks) (hi : Inv s) :
    Calls Tryz.prog 33 #[.pointer (some ⟨pb, 0, none⟩)] W fun e W' => Po pb B Nb tv T (fun k => .int .i64 k) (rowP T r 5 [124, 124] s) W v o e W' := by
  have HP := hid h
  have HF0 := hid (Fp.refl pb W v o)
  have HP0 := hid h
  have HI := hid hi
  clear h hi
  have HC := hid ho
  have HG := hid gho
  clear ho gho
  obtain ⟨R, hR⟩ : ∃ R, R = rowP T r 5 [124, 124] s := ⟨_, rfl⟩
  have HR := hid hR.symm
  rw [← hR]
  clear hR
  have hmf : ∀ (fn : Fn) (first cap : Array Value) (w : World), (Instr.makeFunc fn first cap).run Tryz.prog w = .ok (.func fn first cap) w := fun _ _ _ _ => rfl
  have HH := hid (row_conj HC.out HG.out HP.out HI.out 5 ⟨#[124, 124]⟩)
  rw [ml124_124] at HH
  go_enter Tryz.func33, Tryz.ntmps33
  go_wp2_with fail
  refine (HH.out).mono ?_
  intro e U hpo
  have HPO := hid hpo
  rw [HR.out] at HPO
  clear hpo
  cases R with
  | error q =>
    obtain ⟨c, x⟩ := q
    obtain ⟨N, rfl, hf, hb⟩ := po_bad HPO.out
    have HFL := hid hf
    have HBD := hid ((HP.out.below HF0.out).trans hb)
    clear hf hb HPO
    go_wp2_with fail
    exact ⟨rfl, N, rfl, HFL.out, HBD.out⟩
  | ok q =>
    obtain ⟨z, s9⟩ := q
    obtain ⟨rfl, v9, o9, ks9, hp, hf⟩ := po_ok HPO.out
    have HPU := hid hp
    have HFU := hid (HF0.out.trans hf)
    clear hp hf HPO
    go_wp2_with fail
    go_ret
    exact ⟨rfl, v9, o9, ks9, HPU.out, HFU.out⟩
set_option maxHeartbeats 4000000 in
set_option maxRecDepth 100000 in
theorem conj_any {pb B : Nat} {Nb : Nat → Prop} {tv : Value} {T : List Tok} {W : World} {s : PS} {v o : Value} {ks : Nat → Value} {r r2 : PS → PRes Int} (ho : Ct pb B tv T 74 r (s.nx)) (gho : Gone r) (h : PM pb B Nb tv T W s v o ks) (hi : Inv s) :
    Calls Tryz.prog 54 #[.pointer (some ⟨pb, 0, none⟩)] W fun e W' => Po pb B Nb tv T (fun k => .int .i64 k) (rowP T r 4 [38, 38] s) W v o e W' := by
  have HP := hid h
  have HF0 := hid (Fp.refl pb W v o)
  have HP0 := hid h
  have HI := hid hi
  clear h hi
  have HC := hid ho
  have HG := hid gho
  clear ho gho
  obtain ⟨R, hR⟩ : ∃ R, R = rowP T r 4 [38, 38] s := ⟨_, rfl⟩
  have HR := hid hR.symm
  rw [← hR]
  clear hR
  have hmf : ∀ (fn : Fn) (first cap : Array Value) (w : World), (Instr.makeFunc fn first cap).run Tryz.prog w = .ok (.func fn first cap) w := fun _ _ _ _ => rfl
  have HH := hid (row_unit HC.out HG.out HP.out HI.out 4 ⟨#[38, 38]⟩)
  rw [ml38_38] at HH
  go_enter Tryz.func54, Tryz.ntmps54
  go_wp2_with fail
  refine (HH.out).mono ?_
  intro e U hpo
  have HPO := hid hpo
  rw [HR.out] at HPO
  clear hpo
  cases R with
  | error q =>
    obtain ⟨c, x⟩ := q
    obtain ⟨N, rfl, hf, hb⟩ := po_bad HPO.out
    have HFL := hid hf
    have HBD := hid ((HP.out.below HF0.out).trans hb)
    clear hf hb HPO
    go_wp2_with fail
    exact ⟨rfl, N, rfl, HFL.out, HBD.out⟩
  | ok q =>
    obtain ⟨z, s9⟩ := q
    obtain ⟨rfl, v9, o9, ks9, hp, hf⟩ := po_ok HPO.out
    have HPU := hid hp
    have HFU := hid (HF0.out.trans hf)
    clear hp hf HPO
    go_wp2_with fail
    go_ret
    exact ⟨rfl, v9, o9, ks9, HPU.out, HFU.out⟩
set_option maxHeartbeats 4000000 in
set_option maxRecDepth 100000 in
theorem within_expr {pb B : Nat} {Nb : Nat → Prop} {tv : Value} {T : List Tok} {W : World} {s : PS} {v o : Value} {ks : Nat → Value} {r r2 : PS → PRes Int} (ho : Ct pb B tv T 33 r (s.nx + 1)) (gho : Gone r) (h : PM pb B Nb tv T W s v o ks) (hi : Inv s) :
    Calls Tryz.prog 87 #[.pointer (some ⟨pb, 0, none⟩), .func (.func 33) #[.pointer (some ⟨pb, 0, none⟩)] #[]] W fun e W' => Po pb B Nb tv T (fun k => .int .i64 k) (withP T r s) W v o e W' := by
  unfold withP
  have HP := hid h
  have HF0 := hid (Fp.refl pb W v o)
  have HP0 := hid h
  have HI := hid hi
  clear h hi
  have HC := hid ho
  have HG := hid gho
  clear ho gho
  obtain ⟨R, hR⟩ : ∃ R, R = bnd (openP T s [40]) fun _ s1 => bnd (r s1) fun k s2 => bnd (markP T s2 [41]) fun _ s3 => (.ok (k, shutP s3) : PRes Int) := ⟨_, rfl⟩
  have HR := hid hR.symm
  rw [← hR]
  clear hR
  go_enter Tryz.func87, Tryz.ntmps87
  go_wp2_with fail
  refine (open_any HP0.out ⟨#[40]⟩).mono ?_
  intro e W1 hpo
  rw [ml40] at hpo
  cases hq : openP T s [40] with
  | error q =>
    obtain ⟨c, x⟩ := q
    rw [hq] at hpo HR
    rw [bnd_bad] at HR
    obtain ⟨N, rfl, hf, hb⟩ := po_bad hpo
    have HFL := hid hf
    have HBD := hid ((HP.out.below HF0.out).trans hb)
    clear hf hb hpo hq
    go_wp2_with fail
    rw [← HR.out]
    exact ⟨rfl, N, rfl, HFL.out, HBD.out⟩
  | ok q =>
    obtain ⟨u1, s1⟩ := q
    have HQ1 := hid hq
    rw [hq] at hpo HR
    rw [bnd_ok] at HR
    obtain ⟨rfl, v1, o1, ks1, hp, hf⟩ := po_ok hpo
    have HP1 := hid hp
    have HF1 := hid (HF0.out.trans hf)
    clear hp hf hpo hq
    have HG1 := hid (gn_open HQ1.out)
    have HI1 := hid (HI.out.gn HG1.out)
    go_wp2_with fail
    refine (HC.out Nb _ _ _ _ _ HP1.out HI1.out (by have := HG1.out.nx; omega)).mono ?_
    intro e W2 hpo
    cases hq : r s1 with
    | error q =>
      obtain ⟨c, x⟩ := q
      rw [hq] at hpo HR
      rw [bnd_bad] at HR
      obtain ⟨N, rfl, hf, hb⟩ := po_bad hpo
      have HFL := hid hf
      have HBD := hid ((HP.out.below HF1.out).trans hb)
      clear hf hb hpo hq
      go_wp2_with fail
      rw [← HR.out]
      exact ⟨rfl, N, rfl, HFL.out, HBD.out⟩
    | ok q =>
      obtain ⟨k2, s2⟩ := q
      have HQ2 := hid hq
      rw [hq] at hpo HR
      rw [bnd_ok] at HR
      obtain ⟨rfl, v2, o2, ks2, hp, hf⟩ := po_ok hpo
      have HP2 := hid hp
      have HF2 := hid (HF1.out.trans hf)
      clear hp hf hpo hq
      have HG2 := hid (HG.out _ _ _ HQ2.out)
      go_wp2_with fail
      refine (mark_any HP2.out ⟨#[41]⟩).mono ?_
      intro e W3 hpo
      rw [ml41] at hpo
      cases hq : markP T s2 [41] with
      | error q =>
        obtain ⟨c, x⟩ := q
        rw [hq] at hpo HR
        rw [bnd_bad] at HR
        obtain ⟨N, rfl, hf, hb⟩ := po_bad hpo
        have HFL := hid hf
        have HBD := hid ((HP.out.below HF2.out).trans hb)
        clear hf hb hpo hq
        go_wp2_with fail
        rw [← HR.out]
        exact ⟨rfl, N, rfl, HFL.out, HBD.out⟩
      | ok q =>
        obtain ⟨u3, s3⟩ := q
        have HQ3 := hid hq
        rw [hq] at hpo HR
        rw [bnd_ok] at HR
        obtain ⟨rfl, v3, o3, ks3, hp, hf⟩ := po_ok hpo
        have HP3 := hid hp
        have HF3 := hid (HF2.out.trans hf)
        clear hp hf hpo hq
        have HNS := hid (show 1 ≤ s3.ns by rw [(gn_mark HQ3.out).ns, HG2.out.ns, HG1.out.ns]; omega)
        go_wp2_with fail
        refine (shut_any HP3.out HNS.out).mono ?_
        rintro e U ⟨rfl, hp, hf⟩
        have HPU := hid hp
        have HFU := hid (HF3.out.trans hf)
        clear hp hf
        go_wp2_with fail
        go_ret
        rw [← HR.out]
        exact ⟨rfl, v3, o3, ks3, HPU.out, HFU.out⟩
set_option maxHeartbeats 4000000 in
set_option maxRecDepth 100000 in
theorem within_term {pb B : Nat} {Nb : Nat → Prop} {tv : Value} {T : List Tok} {W : World} {s : PS} {v o : Value} {ks : Nat → Value} {r r2 : PS → PRes Int} (ho : Ct pb B tv T 117 r (s.nx + 1)) (gho : Gone r) (h : PM pb B Nb tv T W s v o ks) (hi : Inv s) :
    Calls Tryz.prog 87 #[.pointer (some ⟨pb, 0, none⟩), .func (.func 117) #[.pointer (some ⟨pb, 0, none⟩)] #[]] W fun e W' => Po pb B Nb tv T (fun k => .int .i64 k) (withP T r s) W v o e W' := by
  unfold withP
  have HP := hid h
  have HF0 := hid (Fp.refl pb W v o)
  have HP0 := hid h
  have HI := hid hi
  clear h hi
  have HC := hid ho
  have HG := hid gho
  clear ho gho
  obtain ⟨R, hR⟩ : ∃ R, R = bnd (openP T s [40]) fun _ s1 => bnd (r s1) fun k s2 => bnd (markP T s2 [41]) fun _ s3 => (.ok (k, shutP s3) : PRes Int) := ⟨_, rfl⟩
  have HR := hid hR.symm
  rw [← hR]
  clear hR
  go_enter Tryz.func87, Tryz.ntmps87
  go_wp2_with fail
  refine (open_any HP0.out ⟨#[40]⟩).mono ?_
  intro e W1 hpo
  rw [ml40] at hpo
  cases hq : openP T s [40] with
  | error q =>
    obtain ⟨c, x⟩ := q
    rw [hq] at hpo HR
    rw [bnd_bad] at HR
    obtain ⟨N, rfl, hf, hb⟩ := po_bad hpo
    have HFL := hid hf
    have HBD := hid ((HP.out.below HF0.out).trans hb)
    clear hf hb hpo hq
    go_wp2_with fail
    rw [← HR.out]
    exact ⟨rfl, N, rfl, HFL.out, HBD.out⟩
  | ok q =>
    obtain ⟨u1, s1⟩ := q
    have HQ1 := hid hq
    rw [hq] at hpo HR
    rw [bnd_ok] at HR
    obtain ⟨rfl, v1, o1, ks1, hp, hf⟩ := po_ok hpo
    have HP1 := hid hp
    have HF1 := hid (HF0.out.trans hf)
    clear hp hf hpo hq
    have HG1 := hid (gn_open HQ1.out)
    have HI1 := hid (HI.out.gn HG1.out)
    go_wp2_with fail
    refine (HC.out Nb _ _ _ _ _ HP1.out HI1.out (by have := HG1.out.nx; omega)).mono ?_
    intro e W2 hpo
    cases hq : r s1 with
    | error q =>
      obtain ⟨c, x⟩ := q
      rw [hq] at hpo HR
      rw [bnd_bad] at HR
      obtain ⟨N, rfl, hf, hb⟩ := po_bad hpo
      have HFL := hid hf
      have HBD := hid ((HP.out.below HF1.out).trans hb)
      clear hf hb hpo hq
      go_wp2_with fail
      rw [← HR.out]
      exact ⟨rfl, N, rfl, HFL.out, HBD.out⟩
    | ok q =>
      obtain ⟨k2, s2⟩ := q
      have HQ2 := hid hq
      rw [hq] at hpo HR
      rw [bnd_ok] at HR
      obtain ⟨rfl, v2, o2, ks2, hp, hf⟩ := po_ok hpo
      have HP2 := hid hp
      have HF2 := hid (HF1.out.trans hf)
      clear hp hf hpo hq
      have HG2 := hid (HG.out _ _ _ HQ2.out)
      go_wp2_with fail
      refine (mark_any HP2.out ⟨#[41]⟩).mono ?_
      intro e W3 hpo
      rw [ml41] at hpo
      cases hq : markP T s2 [41] with
      | error q =>
        obtain ⟨c, x⟩ := q
        rw [hq] at hpo HR
        rw [bnd_bad] at HR
        obtain ⟨N, rfl, hf, hb⟩ := po_bad hpo
        have HFL := hid hf
        have HBD := hid ((HP.out.below HF2.out).trans hb)
        clear hf hb hpo hq
        go_wp2_with fail
        rw [← HR.out]
        exact ⟨rfl, N, rfl, HFL.out, HBD.out⟩
      | ok q =>
        obtain ⟨u3, s3⟩ := q
        have HQ3 := hid hq
        rw [hq] at hpo HR
        rw [bnd_ok] at HR
        obtain ⟨rfl, v3, o3, ks3, hp, hf⟩ := po_ok hpo
        have HP3 := hid hp
        have HF3 := hid (HF2.out.trans hf)
        clear hp hf hpo hq
        have HNS := hid (show 1 ≤ s3.ns by rw [(gn_mark HQ3.out).ns, HG2.out.ns, HG1.out.ns]; omega)
        go_wp2_with fail
        refine (shut_any HP3.out HNS.out).mono ?_
        rintro e U ⟨rfl, hp, hf⟩
        have HPU := hid hp
        have HFU := hid (HF3.out.trans hf)
        clear hp hf
        go_wp2_with fail
        go_ret
        rw [← HR.out]
        exact ⟨rfl, v3, o3, ks3, HPU.out, HFU.out⟩
set_option maxHeartbeats 4000000 in
set_option maxRecDepth 100000 in
theorem negation_any {pb B : Nat} {Nb : Nat → Prop} {tv : Value} {T : List Tok} {W : World} {s : PS} {v o : Value} {ks : Nat → Value} {r r2 : PS → PRes Int} (ho : Ct pb B tv T 74 r (s.nx + 1)) (gho : Gone r) (h : PM pb B Nb tv T W s v o ks) (hi : Inv s) :
    Calls Tryz.prog 86 #[.pointer (some ⟨pb, 0, none⟩)] W fun e W' => Po pb B Nb tv T (fun k => .int .i64 k) (negP T r s) W v o e W' := by
  unfold negP
  have HP := hid h
  have HF0 := hid (Fp.refl pb W v o)
  have HP0 := hid h
  have HI := hid hi
  clear h hi
  have HC := hid ho
  have HG := hid gho
  clear ho gho
  have rf3 := run_f3
  obtain ⟨R, hR⟩ : ∃ R, R = bnd (openP T s [33]) fun _ s1 => bnd (r s1) fun k s2 => putP (shutP s2) ⟨3, ⟨#[]⟩, 0, [k]⟩ ((tk T s.nx).a : Int) := ⟨_, rfl⟩
  have HR := hid hR.symm
  rw [← hR]
  clear hR
  obtain ⟨t, ht⟩ : ∃ t, t = tk T s.nx := ⟨_, rfl⟩
  have HT := hid ht
  rw [← ht] at HR
  clear ht
  go_enter Tryz.func86, Tryz.ntmps86
  go_wp2_with fail
  refine (open_any HP0.out ⟨#[33]⟩).mono ?_
  intro e W1 hpo
  rw [ml33, ← HT.out] at hpo
  cases hq : openP T s [33] with
  | error q =>
    obtain ⟨c, x⟩ := q
    rw [hq] at hpo HR
    rw [bnd_bad] at HR
    obtain ⟨N, rfl, hf, hb⟩ := po_bad hpo
    have HFL := hid hf
    have HBD := hid ((HP.out.below HF0.out).trans hb)
    clear hf hb hpo hq
    go_wp2_with fail
    rw [← HR.out]
    exact ⟨rfl, N, rfl, HFL.out, HBD.out⟩
  | ok q =>
    obtain ⟨u1, s1⟩ := q
    have HQ1 := hid hq
    rw [hq] at hpo HR
    rw [bnd_ok] at HR
    obtain ⟨rfl, v1, o1, ks1, hp, hf⟩ := po_ok hpo
    have HP1 := hid hp
    have HF1 := hid (HF0.out.trans hf)
    clear hp hf hpo hq
    have HG1 := hid (gn_open HQ1.out)
    have HI1 := hid (HI.out.gn HG1.out)
    (try unfold L.tv)
    go_wp2_with fail
    refine (HC.out Nb _ _ _ _ _ HP1.out HI1.out (by have := HG1.out.nx; omega)).mono ?_
    intro e W2 hpo
    cases hq : r s1 with
    | error q =>
      obtain ⟨c, x⟩ := q
      rw [hq] at hpo HR
      rw [bnd_bad] at HR
      obtain ⟨N, rfl, hf, hb⟩ := po_bad hpo
      have HFL := hid hf
      have HBD := hid ((HP.out.below HF1.out).trans hb)
      clear hf hb hpo hq
      go_wp2_with fail
      rw [← HR.out]
      exact ⟨rfl, N, rfl, HFL.out, HBD.out⟩
    | ok q =>
      obtain ⟨k2, s2⟩ := q
      have HQ2 := hid hq
      rw [hq] at hpo HR
      rw [bnd_ok] at HR
      obtain ⟨rfl, v2, o2, ks2, hp, hf⟩ := po_ok hpo
      have HP2 := hid hp
      have HF2 := hid (HF1.out.trans hf)
      clear hp hf hpo hq
      have HG2 := hid (HG.out _ _ _ HQ2.out)
      have HNS := hid (show 1 ≤ s2.ns by rw [HG2.out.ns, HG1.out.ns]; omega)
      go_wp2_with fail
      refine (shut_any HP2.out HNS.out).mono ?_
      rintro e W3 ⟨rfl, hp, hf⟩
      have HP3 := hid hp
      have HF3 := hid ((HF2.out.trans hf).below (belowA W3 (.cells #[.int .i64 k2] 3)))
      have HI3 := hid (show Inv (shutP s2) from ((HI1.out.gn HG2.out : Inv s2)))
      have HLL := hid (HI3.out.l hp)
      clear hp hf
      go_wp2_with fail
      refine (putk_any HP3.out 3 ⟨#[]⟩ 0 k2 (t.a : Int) HLL.out.1 HLL.out.2).mono ?_
      intro e U hpo
      have HPO := hid hpo
      rw [HR.out] at HPO
      clear hpo
      cases R with
      | error q =>
        obtain ⟨c, x⟩ := q
        obtain ⟨N, rfl, hf, hb⟩ := po_bad HPO.out
        have HFL := hid hf
        have HBD := hid ((HP.out.below HF3.out).trans hb)
        clear hf hb HPO
        go_wp2_with fail
        exact ⟨rfl, N, rfl, HFL.out, HBD.out⟩
      | ok q =>
        obtain ⟨z, s9⟩ := q
        obtain ⟨rfl, v9, o9, ks9, hp, hf⟩ := po_ok HPO.out
        have HPU := hid hp
        have HFU := hid (HF3.out.trans hf)
        clear hp hf HPO
        go_wp2_with fail
        go_ret
        exact ⟨rfl, v9, o9, ks9, HPU.out, HFU.out⟩
end Go.Proofs.YtlhlpamciafocaaGreatDoor.L
