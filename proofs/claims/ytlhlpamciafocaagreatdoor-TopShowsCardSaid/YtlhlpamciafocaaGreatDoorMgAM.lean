import Derived.Test.YtlhlpamciafocaaGreatDoorMgAL
namespace Go.Proofs.YtlhlpamciafocaaGreatDoor.L
open Go.RowKit
set_option linter.unusedVariables false
set_option linter.unusedSimpArgs false
theorem ml124_124 : (⟨#[124, 124]⟩ : ByteArray).toList = [124, 124] := ByteArray.toList_eq _
theorem ml38_38 : (⟨#[38, 38]⟩ : ByteArray).toList = [38, 38] := ByteArray.toList_eq _
theorem ml33 : (⟨#[33]⟩ : ByteArray).toList = [33] := ByteArray.toList_eq _
theorem ml44 : (⟨#[44]⟩ : ByteArray).toList = [44] := ByteArray.toList_eq _
theorem ml123 : (⟨#[123]⟩ : ByteArray).toList = [123] := ByteArray.toList_eq _
theorem ml125 : (⟨#[125]⟩ : ByteArray).toList = [125] := ByteArray.toList_eq _
theorem ml91 : (⟨#[91]⟩ : ByteArray).toList = [91] := ByteArray.toList_eq _
theorem ml93 : (⟨#[93]⟩ : ByteArray).toList = [93] := ByteArray.toList_eq _
theorem ml46 : (⟨#[46]⟩ : ByteArray).toList = [46] := ByteArray.toList_eq _
set_option maxHeartbeats 4000000 in
set_option maxRecDepth 100000 in
theorem expr_any {pb B : Nat} {Nb : Nat → Prop} {tv : Value} {T : List Tok} {W : World} {s : PS} {v o : Value} {ks : Nat → Value} {r r2 : PS → PRes Int} (ho : Ct pb B tv T 54 r (s.nx)) (gho : Gone r) (h : PM pb B Nb tv T W s v o ks) (hi : Inv s) :
    Calls Tryz.prog 33 #[.pointer (some ⟨pb, 0, none⟩)] W fun e W' => Po pb B Nb tv T (fun k => .int .i64 k) (rowP T r 5 [124, 124] s) W v o e W' := by
  have HP := hid h
  have HF0 := hid (Fp.refl pb W v o)
  have HP0 := hid h
  have HI := hid hi
  clear h hi
  have HC := hid ho
  have HG := hid gho
  clear ho gho
  obtain ⟨R, hR⟩ : ∃ R, R = rowP T r 5 [124, 124] s := ⟨_, rfl⟩
  have HR := hid hR.symm
  rw [← hR]
  clear hR
  have hmf : ∀ (fn : Fn) (first cap : Array Value) (w : World), (Instr.makeFunc fn first cap).run Tryz.prog w = .ok (.func fn first cap) w := fun _ _ _ _ => rfl
  have HH := hid (row_conj HC.out HG.out HP.out HI.out 5 ⟨#[124, 124]⟩)
  rw [ml124_124] at HH
  go_enter Tryz.func33, Tryz.ntmps33
  go_wp2_with fail
  refine (HH.out).mono ?_
  intro e U hpo
  have HPO := hid hpo
  rw [HR.out] at HPO
  clear hpo
  cases R with
  | error q =>
    obtain ⟨c, x⟩ := q
    obtain ⟨N, rfl, hf, hb⟩ := po_bad HPO.out
    have HFL := hid hf
    have HBD := hid ((HP.out.below HF0.out).trans hb)
    clear hf hb HPO
    go_wp2_with fail
    exact ⟨rfl, N, rfl, HFL.out, HBD.out⟩
  | ok q =>
    obtain ⟨z, s9⟩ := q
    obtain ⟨rfl, v9, o9, ks9, hp, hf⟩ := po_ok HPO.out
    have HPU := hid hp
    have HFU := hid (HF0.out.trans hf)
    clear hp hf HPO
    go_wp2_with fail
    go_ret
    exact ⟨rfl, v9, o9, ks9, HPU.out, HFU.out⟩
set_option maxHeartbeats 4000000 in
set_option maxRecDepth 100000 in
theorem conj_any {pb B : Nat} {Nb : Nat → Prop} {tv : Value} {T : List Tok} {W : World} {s : PS} {v o : Value} {ks : Nat → Value} {r r2 : PS → PRes Int} (ho : Ct pb B tv T 74 r (s.nx)) (gho : Gone r) (h : PM pb B Nb tv T W s v o ks) (hi : Inv s) :
    Calls Tryz.prog 54 #[.pointer (some ⟨pb, 0, none⟩)] W fun e W' => Po pb B Nb tv T (fun k => .int .i64 k) (rowP T r 4 [38, 38] s) W v o e W' := by
  have HP := hid h
  have HF0 := hid (Fp.refl pb W v o)
  have HP0 := hid h
  have HI := hid hi
  clear h hi
  have HC := hid ho
  have HG := hid gho
  clear ho gho
  obtain ⟨R, hR⟩ : ∃ R, R = rowP T r 4 [38, 38] s := ⟨_, rfl⟩
  have HR := hid hR.symm
  rw [← hR]
  clear hR
  have hmf : ∀ (fn : Fn) (first cap : Array Value) (w : World), (Instr.makeFunc fn first cap).run Tryz.prog w = .ok (.func fn first cap) w := fun _ _ _ _ => rfl
  have HH := hid (row_unit HC.out HG.out HP.out HI.out 4 ⟨#[38, 38]⟩)
  rw [ml38_38] at HH
  go_enter Tryz.func54, Tryz.ntmps54
  go_wp2_with fail
  refine (HH.out).mono ?_
  intro e U hpo
  have HPO := hid hpo
  rw [HR.out] at HPO
  clear hpo
  cases R with
  | error q =>
    obtain ⟨c, x⟩ := q
    obtain ⟨N, rfl, hf, hb⟩ := po_bad HPO.out
    have HFL := hid hf
    have HBD := hid ((HP.out.below HF0.out).trans hb)
    clear hf hb HPO
    go_wp2_with fail
    exact ⟨rfl, N, rfl, HFL.out, HBD.out⟩
  | ok q =>
    obtain ⟨z, s9⟩ := q
    obtain ⟨rfl, v9, o9, ks9, hp, hf⟩ := po_ok HPO.out
    have HPU := hid hp
    have HFU := hid (HF0.out.trans hf)
    clear hp hf HPO
    go_wp2_with fail
    go_ret
    exact ⟨rfl, v9, o9, ks9, HPU.out, HFU.out⟩
set_option maxHeartbeats 4000000 in
set_option maxRecDepth 100000 in
theorem within_expr {pb B : Nat} {Nb : Nat → Prop} {tv : Value} {T : List Tok} {W : World} {s : PS} {v o : Value} {ks : Nat → Value} {r r2 : PS → PRes Int} (ho : Ct pb B tv T 33 r (s.nx + 1)) (gho : Gone r) (h : PM pb B Nb tv T W s v o ks) (hi : Inv s) :
    Calls Tryz.prog 87 #[.pointer (some ⟨pb, 0, none⟩), .func (.func 33) #[.pointer (some ⟨pb, 0, none⟩)] #[]] W fun e W' => Po pb B Nb tv T (fun k => .int .i64 k) (withP T r s) W v o e W' := by
  unfold withP
  have HP := hid h
  have HF0 := hid (Fp.refl pb W v o)
  have HP0 := hid h
  have HI := hid hi
  clear h hi
  have HC := hid ho
  have HG := hid gho
  clear ho gho
  obtain ⟨R, hR⟩ : ∃ R, R = bnd (openP T s [40]) fun _ s1 => bnd (r s1) fun k s2 => bnd (markP T s2 [41]) fun _ s3 => (.ok (k, shutP s3) : PRes Int) := ⟨_, rfl⟩
  have HR := hid hR.symm
  rw [← hR]
  clear hR
  go_enter Tryz.func87, Tryz.ntmps87
  go_wp2_with fail
  refine (open_any HP0.out ⟨#[40]⟩).mono ?_
  intro e W1 hpo
  rw [ml40] at hpo
  cases hq : openP T s [40] with
  | error q =>
    obtain ⟨c, x⟩ := q
    rw [hq] at hpo HR
    rw [bnd_bad] at HR
    obtain ⟨N, rfl, hf, hb⟩ := po_bad hpo
    have HFL := hid hf
    have HBD := hid ((HP.out.below HF0.out).trans hb)
    clear hf hb hpo hq
    go_wp2_with fail
    rw [← HR.out]
    exact ⟨rfl, N, rfl, HFL.out, HBD.out⟩
  | ok q =>
    obtain ⟨u1, s1⟩ := q
    have HQ1 := hid hq
    rw [hq] at hpo HR
    rw [bnd_ok] at HR
    obtain ⟨rfl, v1, o1, ks1, hp, hf⟩ := po_ok hpo
    have HP1 := hid hp
    have HF1 := hid (HF0.out.trans hf)
    clear hp hf hpo hq
    have HG1 := hid (gn_open HQ1.out)
    have HI1 := hid (HI.out.gn HG1.out)
    go_wp2_with fail
    refine (HC.out Nb _ _ _ _ _ HP1.out HI1.out (by have := HG1.out.nx; omega)).mono ?_
    intro e W2 hpo
    cases hq : r s1 with
    | error q =>
      obtain ⟨c, x⟩ := q
      rw [hq] at hpo HR
      rw [bnd_bad] at HR
      obtain ⟨N, rfl, hf, hb⟩ := po_bad hpo
      have HFL := hid hf
      have HBD := hid ((HP.out.below HF1.out).trans hb)
      clear hf hb hpo hq
      go_wp2_with fail
      rw [← HR.out]
      exact ⟨rfl, N, rfl, HFL.out, HBD.out⟩
    | ok q =>
      obtain ⟨k2, s2⟩ := q
      have HQ2 := hid hq
      rw [hq] at hpo HR
      rw [bnd_ok] at HR
      obtain ⟨rfl, v2, o2, ks2, hp, hf⟩ := po_ok hpo
      have HP2 := hid hp
      have HF2 := hid (HF1.out.trans hf)
      clear hp hf hpo hq
      have HG2 := hid (HG.out _ _ _ HQ2.out)
      go_wp2_with fail
      refine (mark_any HP2.out ⟨#[41]⟩).mono ?_
      intro e W3 hpo
      rw [ml41] at hpo
      cases hq : markP T s2 [41] with
      | error q =>
        obtain ⟨c, x⟩ := q
        rw [hq] at hpo HR
        rw [bnd_bad] at HR
        obtain ⟨N, rfl, hf, hb⟩ := po_bad hpo
        have HFL := hid hf
        have HBD := hid ((HP.out.below HF2.out).trans hb)
        clear hf hb hpo hq
        go_wp2_with fail
        rw [← HR.out]
        exact ⟨rfl, N, rfl, HFL.out, HBD.out⟩
      | ok q =>
        obtain ⟨u3, s3⟩ := q
        have HQ3 := hid hq
        rw [hq] at hpo HR
        rw [bnd_ok] at HR
        obtain ⟨rfl, v3, o3, ks3, hp, hf⟩ := po_ok hpo
        have HP3 := hid hp
        have HF3 := hid (HF2.out.trans hf)
        clear hp hf hpo hq
        have HNS := hid (show 1 ≤ s3.ns by rw [(gn_mark HQ3.out).ns, HG2.out.ns, HG1.out.ns]; omega)
        go_wp2_with fail
        refine (shut_any HP3.out HNS.out).mono ?_
        rintro e U ⟨rfl, hp, hf⟩
        have HPU := hid hp
        have HFU := hid (HF3.out.trans hf)
        clear hp hf
        go_wp2_with fail
        go_ret
        rw [← HR.out]
        exact ⟨rfl, v3, o3, ks3, HPU.out, HFU.out⟩
set_option maxHeartbeats 4000000 in
set_option maxRecDepth 100000 in
theorem within_term {pb B : Nat} {Nb : Nat → Prop} {tv : Value} {T : List Tok} {W : World} {s : PS} {v o : Value} {ks : Nat → Value} {r r2 : PS → PRes Int} (ho : Ct pb B tv T 117 r (s.nx + 1)) (gho : Gone r) (h : PM pb B Nb tv T W s v o ks) (hi : Inv s) :
    Calls Tryz.prog 87 #[.pointer (some ⟨pb, 0, none⟩), .func (.func 117) #[.pointer (some ⟨pb, 0, none⟩)] #[]] W fun e W' => Po pb B Nb tv T (fun k => .int .i64 k) (withP T r s) W v o e W' := by
  unfold withP
  have HP := hid h
  have HF0 := hid (Fp.refl pb W v o)
  have HP0 := hid h
  have HI := hid hi
  clear h hi
  have HC := hid ho
  have HG := hid gho
  clear ho gho
  obtain ⟨R, hR⟩ : ∃ R, R = bnd (openP T s [40]) fun _ s1 => bnd (r s1) fun k s2 => bnd (markP T s2 [41]) fun _ s3 => (.ok (k, shutP s3) : PRes Int) := ⟨_, rfl⟩
  have HR := hid hR.symm
  rw [← hR]
  clear hR
  go_enter Tryz.func87, Tryz.ntmps87
  go_wp2_with fail
  refine (open_any HP0.out ⟨#[40]⟩).mono ?_
  intro e W1 hpo
  rw [ml40] at hpo
  cases hq : openP T s [40] with
  | error q =>
    obtain ⟨c, x⟩ := q
    rw [hq] at hpo HR
    rw [bnd_bad] at HR
    obtain ⟨N, rfl, hf, hb⟩ := po_bad hpo
    have HFL := hid hf
    have HBD := hid ((HP.out.below HF0.out).trans hb)
    clear hf hb hpo hq
    go_wp2_with fail
    rw [← HR.out]
    exact ⟨rfl, N, rfl, HFL.out, HBD.out⟩
  | ok q =>
    obtain ⟨u1, s1⟩ := q
    have HQ1 := hid hq
    rw [hq] at hpo HR
    rw [bnd_ok] at HR
    obtain ⟨rfl, v1, o1, ks1, hp, hf⟩ := po_ok hpo
    have HP1 := hid hp
    have HF1 := hid (HF0.out.trans hf)
    clear hp hf hpo hq
    have HG1 := hid (gn_open HQ1.out)
    have HI1 := hid (HI.out.gn HG1.out)
    go_wp2_with fail
    refine (HC.out Nb _ _ _ _ _ HP1.out HI1.out (by have := HG1.out.nx; omega)).mono ?_
    intro e W2 hpo
    cases hq : r s1 with
    | error q =>
      obtain ⟨c, x⟩ := q
      rw [hq] at hpo HR
      rw [bnd_bad] at HR
      obtain ⟨N, rfl, hf, hb⟩ := po_bad hpo
      have HFL := hid hf
      have HBD := hid ((HP.out.below HF1.out).trans hb)
      clear hf hb hpo hq
      go_wp2_with fail
      rw [← HR.out]
      exact ⟨rfl, N, rfl, HFL.out, HBD.out⟩
    | ok q =>
      obtain ⟨k2, s2⟩ := q
      have HQ2 := hid hq
      rw [hq] at hpo HR
      rw [bnd_ok] at HR
      obtain ⟨rfl, v2, o2, ks2, hp, hf⟩ := po_ok hpo
      have HP2 := hid hp
      have HF2 := hid (HF1.out.trans hf)
      clear hp hf hpo hq
      have HG2 := hid (HG.out _ _ _ HQ2.out)
      go_wp2_with fail
      refine (mark_any HP2.out ⟨#[41]⟩).mono ?_
      intro e W3 hpo
      rw [ml41] at hpo
      cases hq : markP T s2 [41] with
      | error q =>
        obtain ⟨c, x⟩ := q
        rw [hq] at hpo HR
        rw [bnd_bad] at HR
        obtain ⟨N, rfl, hf, hb⟩ := po_bad hpo
        have HFL := hid hf
        have HBD := hid ((HP.out.below HF2.out).trans hb)
        clear hf hb hpo hq
        go_wp2_with fail
        rw [← HR.out]
        exact ⟨rfl, N, rfl, HFL.out, HBD.out⟩
      | ok q =>
        obtain ⟨u3, s3⟩ := q
        have HQ3 := hid hq
        rw [hq] at hpo HR
        rw [bnd_ok] at HR
        obtain ⟨rfl, v3, o3, ks3, hp, hf⟩ := po_ok hpo
        have HP3 := hid hp
        have HF3 := hid (HF2.out.trans hf)
        clear hp hf hpo hq
        have HNS := hid (show 1 ≤ s3.ns by rw [(gn_mark HQ3.out).ns, HG2.out.ns, HG1.out.ns]; omega)
        go_wp2_with fail
        refine (shut_any HP3.out HNS.out).mono ?_
        rintro e U ⟨rfl, hp, hf⟩
        have HPU := hid hp
        have HFU := hid (HF3.out.trans hf)
        clear hp hf
        go_wp2_with fail
        go_ret
        rw [← HR.out]
        exact ⟨rfl, v3, o3, ks3, HPU.out, HFU.out⟩
set_option maxHeartbeats 4000000 in
set_option maxRecDepth 100000 in
theorem negation_any {pb B : Nat} {Nb : Nat → Prop} {tv : Value} {T : List Tok} {W : World} {s : PS} {v o : Value} {ks : Nat → Value} {r r2 : PS → PRes Int} (ho : Ct pb B tv T 74 r (s.nx + 1)) (gho : Gone r) (h : PM pb B Nb tv T W s v o ks) (hi : Inv s) :
    Calls Tryz.prog 86 #[.pointer (some ⟨pb, 0, none⟩)] W fun e W' => Po pb B Nb tv T (fun k => .int .i64 k) (negP T r s) W v o e W' := by
  unfold negP
  have HP := hid h
  have HF0 := hid (Fp.refl pb W v o)
  have HP0 := hid h
  have HI := hid hi
  clear h hi
  have HC := hid ho
  have HG := hid gho
  clear ho gho
  have rf3 := run_f3
  obtain ⟨R, hR⟩ : ∃ R, R = bnd (openP T s [33]) fun _ s1 => bnd (r s1) fun k s2 => putP (shutP s2) ⟨3, ⟨#[]⟩, 0, [k]⟩ ((tk T s.nx).a : Int) := ⟨_, rfl⟩
  have HR := hid hR.symm
  rw [← hR]
  clear hR
  obtain ⟨t, ht⟩ : ∃ t, t = tk T s.nx := ⟨_, rfl⟩
  have HT := hid ht
  rw [← ht] at HR
  clear ht
  go_enter Tryz.func86, Tryz.ntmps86
  go_wp2_with fail
  refine (open_any HP0.out ⟨#[33]⟩).mono ?_
  intro e W1 hpo
  rw [ml33, ← HT.out] at hpo
  cases hq : openP T s [33] with
  | error q =>
    obtain ⟨c, x⟩ := q
    rw [hq] at hpo HR
    rw [bnd_bad] at HR
    obtain ⟨N, rfl, hf, hb⟩ := po_bad hpo
    have HFL := hid hf
    have HBD := hid ((HP.out.below HF0.out).trans hb)
    clear hf hb hpo hq
    go_wp2_with fail
    rw [← HR.out]
    exact ⟨rfl, N, rfl, HFL.out, HBD.out⟩
  | ok q =>
    obtain ⟨u1, s1⟩ := q
    have HQ1 := hid hq
    rw [hq] at hpo HR
    rw [bnd_ok] at HR
    obtain ⟨rfl, v1, o1, ks1, hp, hf⟩ := po_ok hpo
    have HP1 := hid hp
    have HF1 := hid (HF0.out.trans hf)
    clear hp hf hpo hq
    have HG1 := hid (gn_open HQ1.out)
    have HI1 := hid (HI.out.gn HG1.out)
    (try unfold L.tv)
    go_wp2_with fail
    refine (HC.out Nb _ _ _ _ _ HP1.out HI1.out (by have := HG1.out.nx; omega)).mono ?_
    intro e W2 hpo
    cases hq : r s1 with
    | error q =>
      obtain ⟨c, x⟩ := q
      rw [hq] at hpo HR
      rw [bnd_bad] at HR
      obtain ⟨N, rfl, hf, hb⟩ := po_bad hpo
      have HFL := hid hf
      have HBD := hid ((HP.out.below HF1.out).trans hb)
      clear hf hb hpo hq
      go_wp2_with fail
      rw [← HR.out]
      exact ⟨rfl, N, rfl, HFL.out, HBD.out⟩
    | ok q =>
      obtain ⟨k2, s2⟩ := q
      have HQ2 := hid hq
      rw [hq] at hpo HR
      rw [bnd_ok] at HR
      obtain ⟨rfl, v2, o2, ks2, hp, hf⟩ := po_ok hpo
      have HP2 := hid hp
      have HF2 := hid (HF1.out.trans hf)
      clear hp hf hpo hq
      have HG2 := hid (HG.out _ _ _ HQ2.out)
      have HNS := hid (show 1 ≤ s2.ns by rw [HG2.out.ns, HG1.out.ns]; omega)
      go_wp2_with fail
      refine (shut_any HP2.out HNS.out).mono ?_
      rintro e W3 ⟨rfl, hp, hf⟩
      have HP3 := hid hp
      have HF3 := hid ((HF2.out.trans hf).below (belowA W3 (.cells #[.int .i64 k2] 3)))
      have HI3 := hid (show Inv (shutP s2) from ((HI1.out.gn HG2.out : Inv s2)))
      have HLL := hid (HI3.out.l hp)
      clear hp hf
      go_wp2_with fail
      refine (putk_any HP3.out 3 ⟨#[]⟩ 0 k2 (t.a : Int) HLL.out.1 HLL.out.2).mono ?_
      intro e U hpo
      have HPO := hid hpo
      rw [HR.out] at HPO
      clear hpo
      cases R with
      | error q =>
        obtain ⟨c, x⟩ := q
        obtain ⟨N, rfl, hf, hb⟩ := po_bad HPO.out
        have HFL := hid hf
        have HBD := hid ((HP.out.below HF3.out).trans hb)
        clear hf hb HPO
        go_wp2_with fail
        exact ⟨rfl, N, rfl, HFL.out, HBD.out⟩
      | ok q =>
        obtain ⟨z, s9⟩ := q
        obtain ⟨rfl, v9, o9, ks9, hp, hf⟩ := po_ok HPO.out
        have HPU := hid hp
        have HFU := hid (HF3.out.trans hf)
        clear hp hf HPO
        go_wp2_with fail
        go_ret
        exact ⟨rfl, v9, o9, ks9, HPU.out, HFU.out⟩
end Go.Proofs.YtlhlpamciafocaaGreatDoor.L
namespace Go.Proofs.YtlhlpamciafocaaGreatDoor.L
open Go.RowKit
set_option linter.unusedVariables false
set_option linter.unusedSimpArgs false
/-- A part in a box of a function's own. -/
structure Bx (g : Nat) (W : World) (v a b c d : Value) : Prop where
  hg : W.heap[g]? = some (.cells #[a, b, c, d] 50 (0, 0))
  nv : v.ownBlock ≠ some g
theorem Bx.low {g : Nat} {W W' : World} {v a b c d : Value} (h : Bx g W v a b c d) (hb : Below W.heap.size W W') : Bx g W' v a b c d := ⟨(hb.block _ (lt_blk h.hg)).trans h.hg, h.nv⟩
theorem Bx.cells {g : Nat} {W : World} {v a b c d : Value} (h : Bx g W v a b c d) : W.cell? ⟨g, 0, none⟩ = some a ∧ W.cell? ⟨g, 1, none⟩ = some b ∧ W.cell? ⟨g, 2, none⟩ = some c ∧ W.cell? ⟨g, 3, none⟩ = some d :=
  ⟨cell_of_row _ _ 0 _ _ _ h.hg, cell_of_row _ _ 1 _ _ _ h.hg, cell_of_row _ _ 2 _ _ _ h.hg, cell_of_row _ _ 3 _ _ _ h.hg⟩
theorem Bx.fp {pb B : Nat} {Nb : Nat → Prop} {tv : Value} {T : List Tok} {W W' : World} {s : PS} {v o v' o' : Value} {ks : Nat → Value} {g : Nat} {a b c d : Value} (h : Bx g W v a b c d) (hp : PM pb B Nb tv T W s v o ks) (hf : Fp pb W v o W' v' o') : Bx g W' v' a b c d := by
  have h1 : g ≠ pb := fun e => by
    have h2 := h.hg
    rw [e, hp.box] at h2
    cases h2
  refine ⟨(hf.block g (lt_blk h.hg) h1 h.nv (fun e => type_box hp.offs h.hg (by decide) e rfl)).trans h.hg, fun e => ?_⟩
  rcases hf.vb g e with e2 | e2
  · exact h.nv e2
  · have := lt_blk h.hg
    omega
theorem Bx.set {g : Nat} {W : World} {v a b c d : Value} (h : Bx g W v a b c d) : (∀ x, Bx g (W.setCell ⟨g, 0, none⟩ x) v x b c d) ∧ (∀ x, Bx g (W.setCell ⟨g, 1, none⟩ x) v a x c d) ∧ (∀ x, Bx g (W.setCell ⟨g, 3, none⟩ x) v a b c x) :=
  ⟨fun x => ⟨by rw [setCell_eq_setRow _ _ _ _ _ _ _ h.hg, setRow_heap _ _ _ _ _ _ h.hg]; rfl, h.nv⟩, fun x => ⟨by rw [setCell_eq_setRow _ _ _ _ _ _ _ h.hg, setRow_heap _ _ _ _ _ _ h.hg]; rfl, h.nv⟩, fun x => ⟨by rw [setCell_eq_setRow _ _ _ _ _ _ _ h.hg, setRow_heap _ _ _ _ _ _ h.hg]; rfl, h.nv⟩⟩
/-- A box of a part is written: the parser stays. -/
theorem PM.prt {pb B : Nat} {Nb : Nat → Prop} {tv : Value} {T : List Tok} {W : World} {s : PS} {v o : Value} {ks : Nat → Value} {g : Nat} {a b c d : Value} (h : PM pb B Nb tv T W s v o ks) (hg : Bx g W v a b c d) (j : Nat) (x : Value) : PM pb B Nb tv T (W.setCell ⟨g, j, none⟩ x) s v o ks := by
  have key : ∀ {e : TypeId} {base size n : Nat} {u : Value} {xs : List Value}, (∀ k, u.ownBlock = some k → k ≠ g) → W.ownsRow base e size u n xs → (W.setCell ⟨g, j, none⟩ x).ownsRow base e size u n xs := by
    intro e base size n u xs he hr
    exact row_kept hr (fun k hkk => set_oth hg.hg j x (he k hkk))
  refine ⟨(set_oth hg.hg j x (fun e2 => ?_)).trans h.box, key (fun k hk => type_box h.tok hg.hg (by decide) hk) h.tok, h.tlt, ⟨key (fun k hk e => hg.nv (e ▸ hk)) h.parts.row, fun j hj => key (fun k hk => type_box (h.parts.kids j hj) hg.hg (by decide) hk) (h.parts.kids j hj)⟩, key (fun k hk => type_box h.offs hg.hg (by decide) hk) h.offs, h.pbB, h.nx, h.ns, h.tl, h.fin, h.apart, h.apx.size (fun k hk => by simpa using hk)⟩
  have h1 := h.box
  rw [e2, hg.hg] at h1
  cases h1
theorem Fp.prt {pb : Nat} {W0 W : World} {v0 o0 v o : Value} {g : Nat} {a b c d : Value} (h : Fp pb W0 v0 o0 W v o) (hg : Bx g W v a b c d) (hs : W0.heap.size ≤ g) (j : Nat) (x : Value) : Fp pb W0 v0 o0 (W.setCell ⟨g, j, none⟩ x) v o :=
  ⟨h.os, h.tape, h.output, by simpa using h.size, fun k hk h1 h2 h3 => (set_oth hg.hg j x (by omega)).trans (h.block k hk h1 h2 h3), h.vb, h.ob⟩
theorem bx_new {pb B : Nat} {Nb : Nat → Prop} {tv : Value} {T : List Tok} {W : World} {s : PS} {v o : Value} {ks : Nat → Value} (h : PM pb B Nb tv T W s v o ks) (a b c d : Value) : Bx W.heap.size (W.alloc (.cells #[a, b, c, d] 50)) v a b c d :=
  ⟨heap_alloc_new _ _, fun e => Nat.lt_irrefl _ (row_at h.parts.row e).2.1⟩
theorem row_prt {W : World} {base : Nat} {v kv : Value} {kl : List Int} {g : Nat} {a b c d : Value} (h : OwnI W base kv kl) (hg : Bx g W v a b c d) (j : Nat) (x : Value) : OwnI (W.setCell ⟨g, j, none⟩ x) base kv kl :=
  row_kept h (fun k hk => set_oth hg.hg j x (type_box h hg.hg (by decide) hk))
set_option maxHeartbeats 4000000 in
set_option maxRecDepth 100000 in
theorem comparison_any {pb B : Nat} {Nb : Nat → Prop} {tv : Value} {T : List Tok} {W : World} {s : PS} {v o : Value} {ks : Nat → Value} {r r2 : PS → PRes Int} (ho : Ct pb B tv T 117 r (s.nx)) (gho : Gone r) (h : PM pb B Nb tv T W s v o ks) (hi : Inv s) :
    Calls Tryz.prog 103 #[.pointer (some ⟨pb, 0, none⟩)] W fun e W' => Po pb B Nb tv T (fun k => .int .i64 k) (compP T r s) W v o e W' := by
  have HP := hid h
  have HF0 := hid (Fp.refl pb W v o)
  have HP0 := hid h
  have HI := hid hi
  clear h hi
  have HC := hid ho
  have HG := hid gho
  clear ho gho
  have rf3 := run_f3
  obtain ⟨R, hR⟩ : ∃ R, R = compP T r s := ⟨_, rfl⟩
  have HR := hid hR.symm
  rw [← hR]
  clear hR
  unfold compP at HR
  go_enter Tryz.func103, Tryz.ntmps103
  go_wp2_with fail
  refine (HC.out Nb _ _ _ _ _ HP0.out HI.out (Nat.le_refl _)).mono ?_
  intro e W1 hpo
  cases hq : r s with
  | error q =>
    obtain ⟨c, x⟩ := q
    rw [hq] at hpo HR
    rw [bnd_bad] at HR
    obtain ⟨N, rfl, hf, hb⟩ := po_bad hpo
    have HFL := hid hf
    have HBD := hid ((HP.out.below HF0.out).trans hb)
    clear hf hb hpo hq
    go_wp2_with fail
    rw [← HR.out]
    exact ⟨rfl, N, rfl, HFL.out, HBD.out⟩
  | ok q =>
    obtain ⟨l1, s1⟩ := q
    have HQ1 := hid hq
    rw [hq] at hpo HR
    rw [bnd_ok] at HR
    obtain ⟨rfl, v1, o1, ks1, hp, hf⟩ := po_ok hpo
    have HP1 := hid hp
    have HF1 := hid (HF0.out.trans hf)
    clear hp hf hpo hq
    have HG1 := hid (HG.out _ _ _ HQ1.out)
    have HI1 := hid (HI.out.gn HG1.out)
    obtain ⟨t, ht⟩ : ∃ t, t = tk T s1.nx := ⟨_, rfl⟩
    have HT := hid ht
    have HTK := hid (token_any HP1.out)
    rw [← ht] at HR HTK
    clear ht
    go_wp2_with fail
    refine HTK.out.mono ?_
    rintro e W2 ⟨rfl, l⟩
    have HP2 := hid (HP1.out.low l)
    have HF2 := hid (HF1.out.below l)
    clear l HTK
    go_wp2_with fail
    refine (between_any t _).mono ?_
    rintro e W3 ⟨⟨bk, bn, rfl, hbk⟩, l⟩
    have HBK := hid hbk
    have HP3 := hid (HP2.out.low l)
    have HF3 := hid (HF2.out.below l)
    clear l hbk
    go_upto_region 3 with fail
    have HBX := hid (bx_new HP3.out (.int .i64 bk) (.string ⟨#[]⟩) (.int .i64 bn) (.slice none 0 0))
    have HP4 := hid (HP3.out.low (belowA W3 (.cells #[.int .i64 bk, .string ⟨#[]⟩, .int .i64 bn, .slice none 0 0] 50)))
    have HF4 := hid (HF3.out.below (belowA W3 (.cells #[.int .i64 bk, .string ⟨#[]⟩, .int .i64 bn, .slice none 0 0] 50)))
    have HGS := hid HF3.out.size
    generalize W3.alloc (.cells #[.int .i64 bk, .string ⟨#[]⟩, .int .i64 bn, .slice none 0 0] 50) = W4 at *
    generalize W3.heap.size = g at *
    clear HP2 HP3 HF2 HF3
    cases hbe : betO t with
    | none =>
      rw [hbe] at HR
      dsimp only at HR
      have hs : (betO t).isSome = false := by rw [hbe]; rfl
      clear hbe
      go_wp2_with fail
      refine (refuse_any HP4.out).mono ?_
      rintro e V ⟨N, rfl, hf, hb⟩
      have HFL := hid hf
      have HBD := hid (HP.out.below (HF4.out.below hb))
      clear hf hb
      go_wp2_with fail
      rw [← HR.out]
      exact ⟨rfl, N, rfl, HFL.out, HBD.out⟩
    | some q =>
      obtain ⟨kd, nu⟩ := q
      obtain ⟨rfl, rfl⟩ := HBK.out kd nu hbe
      rw [hbe] at HR
      dsimp only at HR
      have hs : (betO t).isSome = true := by rw [hbe]; rfl
      have HTA := hid (take_any HP4.out (by rw [← HT.out]; intro h0; unfold betO at hbe; rw [if_neg (by omega), if_neg (by omega)] at hbe; cases hbe))
      rw [← HT.out] at HTA
      unfold L.tv at HTA
      clear hbe HBK
      go_wp2_with fail
      refine HTA.out.mono ?_
      rintro e W5 ⟨rfl, hp, hf⟩
      have HP5 := hid hp
      have HF5 := hid (HF4.out.trans hf)
      have HBX5 := hid (HBX.out.fp HP4.out hf)
      clear hp hf HTA
      have HI5 := hid (HI1.out.gn (gn_adv s1))
      go_wp2_with fail
      refine (HC.out Nb _ _ _ _ _ HP5.out HI5.out (by have := HG1.out.nx; simp only [adv]; omega)).mono ?_
      intro e W6 hpo
      cases hq : r (adv s1) with
      | error q =>
        obtain ⟨c, x⟩ := q
        rw [hq] at hpo HR
        rw [bnd_bad] at HR
        obtain ⟨N, rfl, hf, hb⟩ := po_bad hpo
        have HFL := hid hf
        have HBD := hid ((HP.out.below HF5.out).trans hb)
        clear hf hb hpo hq
        go_wp2_with fail
        rw [← HR.out]
        exact ⟨rfl, N, rfl, HFL.out, HBD.out⟩
      | ok q =>
        obtain ⟨z6, s6⟩ := q
        have HQ6 := hid hq
        rw [hq] at hpo HR
        rw [bnd_ok] at HR
        obtain ⟨rfl, v6, o6, ks6, hp, hf⟩ := po_ok hpo
        have HP6 := hid hp
        have HF6 := hid (HF5.out.trans hf)
        have HBX6 := hid (HBX5.out.fp HP5.out hf)
        clear hp hf hpo hq
        have HG6 := hid (HG.out _ _ _ HQ6.out)
        have HI6 := hid (HI5.out.gn HG6.out)
        have HLL := hid (HI6.out.l HP6.out)
        have HP7 := hid (HP6.out.fresh (.cells #[.int .i64 l1, .int .i64 z6] 3) 2 2)
        have HB7 := hid (HBX6.out.low (belowA W6 (.cells #[.int .i64 l1, .int .i64 z6] 3)))
        have HK7 := hid (show OwnI (W6.alloc (.cells #[.int .i64 l1, .int .i64 z6] 3)) B (.slice (some ⟨W6.heap.size, 0, none⟩) 2 2) [l1, z6] from World.ownsRow_lit W6 #[.int .i64 l1, .int .i64 z6] 2 (Nat.le_trans HP6.out.pbB (Nat.le_of_lt (lt_blk HP6.out.box))) (by decide) rfl)
        have HNB := hid (show ∀ k, Value.ownBlock (.slice (some ⟨W6.heap.size, 0, none⟩) 2 2) = some k → ¬ Nb k from fun k hk hn => (by have h1 := kb_new (W0 := W) (W := W6) 2 2 HF6.out.size k hk; have h2 := HP.out.apx.xl k hn; omega))
        have HF7 := hid (HF6.out.below (belowA W6 (.cells #[.int .i64 l1, .int .i64 z6] 3)))
        have fz : (W6.alloc (.cells #[.int .i64 l1, .int .i64 z6] 3)).frozen? ⟨g, 3, none⟩ = false := frz_row HB7.out.hg 3
        have c3 := HB7.out.cells.2.2.2
        go_upto_region 7 with fail
        have HP8 := hid (HP7.out.prt HB7.out 3 (.slice (some ⟨W6.heap.size, 0, none⟩) 2 2))
        have HB8 := hid (HB7.out.set.2.2 (.slice (some ⟨W6.heap.size, 0, none⟩) 2 2))
        have HK8 := hid (row_prt HK7.out HB7.out 3 (.slice (some ⟨W6.heap.size, 0, none⟩) 2 2))
        have HF8 := hid (HF7.out.prt HB7.out HGS.out 3 (.slice (some ⟨W6.heap.size, 0, none⟩) 2 2))
        clear fz c3 HP7 HB7 HK7 HF7
        generalize (W6.alloc (.cells #[.int .i64 l1, .int .i64 z6] 3)).setCell ⟨g, 3, none⟩ (.slice (some ⟨W6.heap.size, 0, none⟩) 2 2) = V at *
        have ⟨x0, x1, x2, x3⟩ := HB8.out.cells
        go_wp2_with fail
        refine (put1_any HP8.out ⟨bk, ⟨#[]⟩, bn, [l1, z6]⟩ HK8.out HNB.out (t.a : Int) HLL.out.1 HLL.out.2).mono ?_
        intro e U hpo
        have HPO := hid hpo
        rw [HR.out] at HPO
        clear hpo
        cases R with
        | error q =>
          obtain ⟨c, x⟩ := q
          obtain ⟨N, rfl, hf, hb⟩ := po_bad HPO.out
          have HFL := hid hf
          have HBD := hid ((HP.out.below HF8.out).trans hb)
          clear hf hb HPO
          go_wp2_with fail
          exact ⟨rfl, N, rfl, HFL.out, HBD.out⟩
        | ok q =>
          obtain ⟨z, s9⟩ := q
          obtain ⟨rfl, v9, o9, ks9, hp, hf⟩ := po_ok HPO.out
          have HPU := hid hp
          have HFU := hid (HF8.out.trans hf)
          clear hp hf HPO
          go_wp2_with fail
          go_ret
          exact ⟨rfl, v9, o9, ks9, HPU.out, HFU.out⟩
end Go.Proofs.YtlhlpamciafocaaGreatDoor.L
namespace Go.Proofs.YtlhlpamciafocaaGreatDoor.L
open Go.RowKit
set_option linter.unusedVariables false
set_option linter.unusedSimpArgs false
set_option maxHeartbeats 4000000 in
set_option maxRecDepth 100000 in
theorem who_any {pb B : Nat} {Nb : Nat → Prop} {tv : Value} {T : List Tok} {W : World} {s : PS} {v o : Value} {ks : Nat → Value} {r r2 : PS → PRes Int} (hk : (tk T s.nx).kind ≠ 0) (side : Int) (h : PM pb B Nb tv T W s v o ks) (hi : Inv s) :
    Calls Tryz.prog 141 #[.pointer (some ⟨pb, 0, none⟩), .int .i64 side] W fun e W' => Po pb B Nb tv T (fun k => .int .i64 k) (whoP T s side) W v o e W' := by
  have HP := hid h
  have HF0 := hid (Fp.refl pb W v o)
  have HP0 := hid h
  have HI := hid hi
  clear h hi
  have HK := hid hk
  clear hk
  have rf3 := run_f3
  obtain ⟨R, hR⟩ : ∃ R, R = whoP T s side := ⟨_, rfl⟩
  have HR := hid hR.symm
  rw [← hR]
  clear hR
  unfold whoP at HR
  obtain ⟨t, ht⟩ : ∃ t, t = tk T s.nx := ⟨_, rfl⟩
  have HT := hid ht
  rw [← ht] at HR
  clear ht
  have HTA := hid (take_any HP0.out HK.out)
  rw [← HT.out] at HTA
  unfold L.tv at HTA
  go_enter Tryz.func141, Tryz.ntmps141
  go_wp2_with fail
  refine (HTA.out).mono ?_
  rintro e W1 ⟨rfl, hp, hf⟩
  have HP1 := hid hp
  have HF1 := hid (HF0.out.trans hf)
  clear hp hf
  clear HTA
  go_upto_region 3 with fail
  have HBX2 := hid (bx_new HP1.out (.int .i64 14) (.string ⟨#[]⟩) (.int .i64 side) (.slice none 0 0))
  have HP2 := hid (HP1.out.low (belowA W1 (.cells #[.int .i64 14, .string ⟨#[]⟩, .int .i64 side, .slice none 0 0] 50)))
  have HF2 := hid (HF1.out.below (belowA W1 (.cells #[.int .i64 14, .string ⟨#[]⟩, .int .i64 side, .slice none 0 0] 50)))
  have HGS := hid HF1.out.size
  generalize W1.alloc (.cells #[.int .i64 14, .string ⟨#[]⟩, .int .i64 side, .slice none 0 0] 50) = W2 at *
  generalize W1.heap.size = g at *
  have HI2 := hid (HI.out.gn (gn_adv s))
  have HAT := hid (at_any HP2.out ⟨#[91]⟩)
  rw [ml91] at HAT
  cases hM : isM T (adv s) [91]
  · rw [hM] at HAT HR
    rw [if_neg (by decide)] at HR
    clear hM
    go_wp2_with fail
    refine (HAT.out).mono ?_
    rintro e W3 ⟨rfl, l⟩
    have HP3 := hid (HP2.out.low l)
    have HF3 := hid (HF2.out.below l)
    have HBX3 := hid (HBX2.out.low l)
    clear l
    go_wp2_with fail
    refine (mark_any HP3.out ⟨#[46]⟩).mono ?_
    intro e W4 hpo
    rw [ml46] at hpo
    cases hq : markP T (adv s) [46] with
    | error q =>
      obtain ⟨c, x⟩ := q
      rw [hq] at hpo HR
      rw [bnd_bad] at HR
      obtain ⟨N, rfl, hf, hb⟩ := po_bad hpo
      have HFL := hid hf
      have HBD := hid ((HP.out.below HF3.out).trans hb)
      clear hf hb hpo hq
      go_wp2_with fail
      rw [← HR.out]
      exact ⟨rfl, N, rfl, HFL.out, HBD.out⟩
    | ok q =>
      obtain ⟨u4, s4⟩ := q
      have HQ4 := hid hq
      rw [hq] at hpo HR
      rw [bnd_ok] at HR
      obtain ⟨rfl, v4, o4, ks4, hp, hf⟩ := po_ok hpo
      have HP4 := hid hp
      have HF4 := hid (HF3.out.trans hf)
      have HBX4 := hid (HBX3.out.fp HP3.out hf)
      clear hp hf hpo hq
      have HI4 := hid (HI2.out.gn (gn_mark HQ4.out))
      go_wp2_with fail
      refine (field_any HP4.out).mono ?_
      intro e W5 hpo
      cases hq : fieldP T s4 with
      | error q =>
        obtain ⟨c, x⟩ := q
        rw [hq] at hpo HR
        rw [bnd_bad] at HR
        obtain ⟨N, rfl, hf, hb⟩ := po_bad hpo
        have HFL := hid hf
        have HBD := hid ((HP.out.below HF4.out).trans hb)
        clear hf hb hpo hq
        go_wp2_with fail
        rw [← HR.out]
        exact ⟨rfl, N, rfl, HFL.out, HBD.out⟩
      | ok q =>
        obtain ⟨k5, s5⟩ := q
        have HQ5 := hid hq
        rw [hq] at hpo HR
        rw [bnd_ok] at HR
        obtain ⟨rfl, v5, o5, ks5, hp, hf⟩ := po_ok hpo
        have HP5 := hid hp
        have HF5 := hid (HF4.out.trans hf)
        have HBX5 := hid (HBX4.out.fp HP4.out hf)
        clear hp hf hpo hq
        have HI5 := hid (HI4.out.gn (gn_field HQ5.out))
        have fz : W5.frozen? ⟨g, 0, none⟩ = false := frz_row HBX5.out.hg 0
        have cc := HBX5.out.cells.1
        go_upto_region 9 with fail
        have HP6 := hid (HP5.out.prt HBX5.out 0 (.int .i64 k5))
        have HF6 := hid (HF5.out.prt HBX5.out HGS.out 0 (.int .i64 k5))
        have HBX6 := hid (HBX5.out.set.1 (.int .i64 k5))
        clear fz cc
        generalize W5.setCell ⟨g, 0, none⟩ (.int .i64 k5) = W6 at *
        by_cases h18 : k5 = 18
        · rw [if_pos h18] at HR
          subst h18
          have ⟨x0, x1, x2, x3⟩ := HBX6.out.cells
          go_wp2_with fail
          refine (named_any HP6.out).mono ?_
          intro e W7 hpo
          cases hq : namedP T s5 with
          | error q =>
            obtain ⟨c, x⟩ := q
            rw [hq] at hpo HR
            rw [bnd_bad] at HR
            obtain ⟨N, rfl, hf, hb⟩ := po_bad hpo
            have HFL := hid hf
            have HBD := hid ((HP.out.below HF6.out).trans hb)
            clear hf hb hpo hq
            go_wp2_with fail
            rw [← HR.out]
            exact ⟨rfl, N, rfl, HFL.out, HBD.out⟩
          | ok q =>
            obtain ⟨t7, s7⟩ := q
            have HQ7 := hid hq
            rw [hq] at hpo HR
            rw [bnd_ok] at HR
            obtain ⟨rfl, v7, o7, ks7, hp, hf⟩ := po_ok hpo
            have HP7 := hid hp
            have HF7 := hid (HF6.out.trans hf)
            have HBX7 := hid (HBX6.out.fp HP6.out hf)
            clear hp hf hpo hq
            have HI7 := hid (HI5.out.gn (gn_named HQ7.out))
            have HLL := hid (HI7.out.l HP7.out)
            clear x0 x1 x2 x3
            have fz : W7.frozen? ⟨g, 1, none⟩ = false := frz_row HBX7.out.hg 1
            have cc := HBX7.out.cells.2.1
            go_upto_region 11 with fail
            have HP8 := hid (HP7.out.prt HBX7.out 1 (.string t7))
            have HF8 := hid (HF7.out.prt HBX7.out HGS.out 1 (.string t7))
            have HBX8 := hid (HBX7.out.set.2.1 (.string t7))
            clear fz cc
            generalize W7.setCell ⟨g, 1, none⟩ (.string t7) = W8 at *
            have ⟨x0, x1, x2, x3⟩ := HBX8.out.cells
            go_wp2_with fail
            refine (put0_any HP8.out 18 t7 side (t.a : Int) HLL.out.1 HLL.out.2).mono ?_
            intro e U hpo
            have HPO := hid hpo
            rw [HR.out] at HPO
            clear hpo
            cases R with
            | error q =>
              obtain ⟨c, x⟩ := q
              obtain ⟨N, rfl, hf, hb⟩ := po_bad HPO.out
              have HFL := hid hf
              have HBD := hid ((HP.out.below HF8.out).trans hb)
              clear hf hb HPO
              go_wp2_with fail
              exact ⟨rfl, N, rfl, HFL.out, HBD.out⟩
            | ok q =>
              obtain ⟨z, s9⟩ := q
              obtain ⟨rfl, v9, o9, ks9, hp, hf⟩ := po_ok HPO.out
              have HPU := hid hp
              have HFU := hid (HF8.out.trans hf)
              clear hp hf HPO
              go_wp2_with fail
              go_ret
              exact ⟨rfl, v9, o9, ks9, HPU.out, HFU.out⟩
        · rw [if_neg h18] at HR
          have e18 : (k5 == 18) = false := by simp [h18]
          clear h18
          have HLL := hid (HI5.out.l HP6.out)
          have ⟨x0, x1, x2, x3⟩ := HBX6.out.cells
          go_wp2_with fail
          refine (put0_any HP6.out k5 ⟨#[]⟩ side (t.a : Int) HLL.out.1 HLL.out.2).mono ?_
          intro e U hpo
          have HPO := hid hpo
          rw [HR.out] at HPO
          clear hpo
          cases R with
          | error q =>
            obtain ⟨c, x⟩ := q
            obtain ⟨N, rfl, hf, hb⟩ := po_bad HPO.out
            have HFL := hid hf
            have HBD := hid ((HP.out.below HF6.out).trans hb)
            clear hf hb HPO
            go_wp2_with fail
            exact ⟨rfl, N, rfl, HFL.out, HBD.out⟩
          | ok q =>
            obtain ⟨z, s9⟩ := q
            obtain ⟨rfl, v9, o9, ks9, hp, hf⟩ := po_ok HPO.out
            have HPU := hid hp
            have HFU := hid (HF6.out.trans hf)
            clear hp hf HPO
            go_wp2_with fail
            go_ret
            exact ⟨rfl, v9, o9, ks9, HPU.out, HFU.out⟩
  · have HKD := hid (isM_kind hM)
    rw [hM] at HAT HR
    rw [if_pos rfl] at HR
    clear hM
    go_wp2_with fail
    refine (HAT.out).mono ?_
    rintro e W3 ⟨rfl, l⟩
    have HP3 := hid (HP2.out.low l)
    have HF3 := hid (HF2.out.below l)
    have HBX3 := hid (HBX2.out.low l)
    clear l
    go_wp2_with fail
    refine (take_any HP3.out HKD.out).mono ?_
    rintro e W4 ⟨rfl, hp, hf⟩
    have HP4 := hid hp
    have HF4 := hid (HF3.out.trans hf)
    have HBX4 := hid (HBX3.out.fp HP3.out hf)
    clear hp hf
    have HI4 := hid (HI2.out.gn (gn_adv _))
    go_wp2_with fail
    refine (text_any HP4.out).mono ?_
    intro e W5 hpo
    cases hq : textP T (adv (adv s)) with
    | error q =>
      obtain ⟨c, x⟩ := q
      rw [hq] at hpo HR
      rw [bnd_bad] at HR
      obtain ⟨N, rfl, hf, hb⟩ := po_bad hpo
      have HFL := hid hf
      have HBD := hid ((HP.out.below HF4.out).trans hb)
      clear hf hb hpo hq
      go_wp2_with fail
      rw [← HR.out]
      exact ⟨rfl, N, rfl, HFL.out, HBD.out⟩
    | ok q =>
      obtain ⟨t5, s5⟩ := q
      have HQ5 := hid hq
      rw [hq] at hpo HR
      rw [bnd_ok] at HR
      obtain ⟨rfl, v5, o5, ks5, hp, hf⟩ := po_ok hpo
      have HP5 := hid hp
      have HF5 := hid (HF4.out.trans hf)
      have HBX5 := hid (HBX4.out.fp HP4.out hf)
      clear hp hf hpo hq
      have HI5 := hid (HI4.out.gn (gn_text HQ5.out))
      have fz : W5.frozen? ⟨g, 1, none⟩ = false := frz_row HBX5.out.hg 1
      have cc := HBX5.out.cells.2.1
      go_upto_region 6 with fail
      have HP6 := hid (HP5.out.prt HBX5.out 1 (.string t5))
      have HF6 := hid (HF5.out.prt HBX5.out HGS.out 1 (.string t5))
      have HBX6 := hid (HBX5.out.set.2.1 (.string t5))
      clear fz cc
      generalize W5.setCell ⟨g, 1, none⟩ (.string t5) = W6 at *
      go_wp2_with fail
      refine (mark_any HP6.out ⟨#[93]⟩).mono ?_
      intro e W7 hpo
      rw [ml93] at hpo
      cases hq : markP T s5 [93] with
      | error q =>
        obtain ⟨c, x⟩ := q
        rw [hq] at hpo HR
        rw [bnd_bad] at HR
        obtain ⟨N, rfl, hf, hb⟩ := po_bad hpo
        have HFL := hid hf
        have HBD := hid ((HP.out.below HF6.out).trans hb)
        clear hf hb hpo hq
        go_wp2_with fail
        rw [← HR.out]
        exact ⟨rfl, N, rfl, HFL.out, HBD.out⟩
      | ok q =>
        obtain ⟨u7, s7⟩ := q
        have HQ7 := hid hq
        rw [hq] at hpo HR
        rw [bnd_ok] at HR
        obtain ⟨rfl, v7, o7, ks7, hp, hf⟩ := po_ok hpo
        have HP7 := hid hp
        have HF7 := hid (HF6.out.trans hf)
        have HBX7 := hid (HBX6.out.fp HP6.out hf)
        clear hp hf hpo hq
        have HI7 := hid (HI5.out.gn (gn_mark HQ7.out))
        have HLL := hid (HI7.out.l HP7.out)
        have ⟨x0, x1, x2, x3⟩ := HBX7.out.cells
        go_wp2_with fail
        refine (put0_any HP7.out 14 t5 side (t.a : Int) HLL.out.1 HLL.out.2).mono ?_
        intro e U hpo
        have HPO := hid hpo
        rw [HR.out] at HPO
        clear hpo
        cases R with
        | error q =>
          obtain ⟨c, x⟩ := q
          obtain ⟨N, rfl, hf, hb⟩ := po_bad HPO.out
          have HFL := hid hf
          have HBD := hid ((HP.out.below HF7.out).trans hb)
          clear hf hb HPO
          go_wp2_with fail
          exact ⟨rfl, N, rfl, HFL.out, HBD.out⟩
        | ok q =>
          obtain ⟨z, s9⟩ := q
          obtain ⟨rfl, v9, o9, ks9, hp, hf⟩ := po_ok HPO.out
          have HPU := hid hp
          have HFU := hid (HF7.out.trans hf)
          clear hp hf HPO
          go_wp2_with fail
          go_ret
          exact ⟨rfl, v9, o9, ks9, HPU.out, HFU.out⟩
end Go.Proofs.YtlhlpamciafocaaGreatDoor.L
