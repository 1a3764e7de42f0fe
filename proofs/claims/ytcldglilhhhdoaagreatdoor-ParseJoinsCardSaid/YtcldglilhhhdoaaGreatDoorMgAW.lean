import Derived.Test.YtcldglilhhhdoaaGreatDoorPhL
namespace Go.Proofs.YtcldglilhhhdoaaGreatDoor.L
open Go.RowKit
set_option linter.unusedVariables false
set_option linter.unusedSimpArgs false
set_option maxHeartbeats 16000000 in
set_option maxRecDepth 100000 in
theorem joins_10 {C C2 : Code} {K : Act → World → Prop} {Q : Exit → Act → World → Prop} (hK : ∀ a w, C2.wp Tryz.prog Q a w → K a w) (hC : C = hdC (rtC (rtC (rtC (rtC (rtC (rtC (rtC (rtC (Option.getD Tryz.f6.body Code.skip)))))))))) (hC2 : C2 = rtC (rtC (rtC (rtC (rtC (rtC (rtC (rtC (rtC (Option.getD Tryz.f6.body Code.skip)))))))))) (w0 W : World) (F S q : ByteArray) (A B : List Pt) (l1 l2 : List Tok) (ba n m ca bo : Nat) (va : Option Addr) (o1 o2 : Nat) (vo : Value) (kb : Nat → Value) {t3 t4 t5 t6 t8 t9 t10 t11 t12 t17 t18 t19 t20 t21 t22 t23 t24 t25 t26 t27 t28 t29 t30 t31 t32 t33 t34 t35 t36 t37 t38 t39 t40 t41 t42 t43 t44 t45 t46 t47 t48 t49 t50 t51 t52 t53 t54 t55 t56 t57 t58 t59 t60 t61 t62 t63 t64 t65 t66 t67 t68 t69 t70 t71 t72 t73 t74 t75 t76 t77 t78 t79 t80 t81 t82 t83 t84 t85 t86 t87 t88 t89 t90 t91 t92 t93 t94 t95 t96 t97 t98 t99 t100 t101 t102 t103 t104 t105 t106 t107 t108 t109 t110 t111 t112 t113 t114 t115 t116 t117 t118 t119 t120 t121 t122 t123 t124 t125 t126 t127 t128 t129 t130 t131 t132 t133 t134 t135 t136 t137 t138 t139 t140 t141 t142 t143 t144 t145 t146 t147 t148 t149 t150 t151 t152 t153 t154 t155 t156 t157 t158 t159 t160 t161 t162 t163 t164 t165 t166 t167 t168 t169 t170 t171 t172 t173 t174 t175 t176 t177 t178 t179 t180 t181 t182 t183 t184 t185 t186 t187 t188 t189 t190 t191 t192 t193 t194 t195 t196 t197 t198 t199 : Value} (J : Jw w0 W A ba n ca va o1) (htw : OwnI W 0 (.slice (some ⟨o2, 0, none⟩) 2 2) [(n : Int) - 1, (n : Int) + (m : Int) - 1]) (hvo : OwnR W bo vo (A ++ B.map (shK n)) kb (A ++ B.map (shK n)).length) (hna : n = A.length) (hnb : m = B.length) (R1 : Rd1 F A l1) (R2 : Rd1 S B l2) (hsa : Smk A) (hsb : Smk B) (hqm : q.size ≤ 140737488355328) (hq : ∀ c a a' w, Q (.panic c) a w → Q (.panic c) a' w)
    (nx : ∀ (a' : Act) (W' : World), a'.tmps.getD 6 undef = .bool true → a'.defers = [] → Below w0.heap.size w0 W' → Q .ret a' W') :
    Code.wp Tryz.prog C (Exit.then K Q) { tmps := #[.string F, .string S, .string q, t3, t4, t5, t6, .pointer (some ⟨ba, 0, none⟩), t8, t9, t10, t11, t12, .int .i64 (n : Int), .slice (some ⟨o1, 0, none⟩) 1 1, .slice (some ⟨o2, 0, none⟩) 2 2, vo, t17, t18, t19, t20, t21, t22, t23, t24, t25, t26, t27, t28, t29, t30, t31, t32, t33, t34, t35, t36, t37, t38, t39, t40, t41, t42, t43, t44, t45, t46, t47, t48, t49, t50, t51, t52, t53, t54, t55, t56, t57, t58, t59, t60, t61, t62, t63, t64, t65, t66, t67, t68, t69, t70, t71, t72, t73, t74, t75, t76, t77, t78, t79, t80, t81, t82, t83, t84, t85, t86, t87, t88, t89, t90, t91, t92, t93, t94, t95, t96, t97, t98, t99, t100, t101, t102, t103, t104, t105, t106, t107, t108, t109, t110, t111, t112, t113, t114, t115, t116, t117, t118, t119, t120, t121, t122, t123, t124, t125, t126, t127, t128, t129, t130, t131, t132, t133, t134, t135, t136, t137, t138, t139, t140, t141, t142, t143, t144, t145, t146, t147, t148, t149, t150, t151, t152, t153, t154, t155, t156, t157, t158, t159, t160, t161, t162, t163, t164, t165, t166, t167, t168, t169, t170, t171, t172, t173, t174, t175, t176, t177, t178, t179, t180, t181, t182, t183, t184, t185, t186, t187, t188, t189, t190, t191, t192, t193, t194, t195, t196, t197, t198, t199], defers := [] } W := by
  subst hC hC2
  have HKK := hid hK
  have NX := hid nx
  have HQ := hid hq
  have HJW := hid J
  have HTW := hid htw
  have HVO := hid hvo
  have HNA := hid hna
  have HNB := hid hnb
  have HR := hid R1
  have HR2 := hid R2
  have HSA := hid hsa
  have HSB := hid hsb
  have hn : n ≤ 1000 := by rw [hna]; exact R1.le
  have hm : m ≤ 1000 := by rw [hnb]; exact R2.le
  have HLL := hid (show (A ++ B.map (shK n)).length = n + m by rw [List.length_append, List.length_map, hna, hnb])
  have HNP := hid (show 0 < n by rw [hna]; exact R1.pos)
  clear hK nx hq J htw hvo hna hnb R1 R2 hsa hsb
  have HTWW := HTW
  have HVOW := HVO
  simp only [hdC, rtC, Option.getD, Tryz.f6] at HKK ⊢
  go_wp2_with (at_builtin; refine append_parts rfl _ _ rfl rfl rfl (made_none W) (HVOW.out.low (belowA _ _)) (by have h1 := HLL.out; have h2 := HNP.out; omega) (by have h1 := HLL.out; show 0 + _ ≤ _; omega) (belowA W _).size ?_)
  intro vX1 X1 r l
  have HEX1 := hid (show OwnR X1 W.heap.size vX1 (A ++ B.map (shK n)) (kcat 0 (fun _ => undef) kb) (A ++ B.map (shK n)).length from by rw [List.length_append, List.length_map]; exact r)
  have HLX1 := hid (abv (Below.refl _ W) l)
  have HTWX1 := hid (own_low HTWW.out HLX1.out)
  clear r l
  go_wp2_with (at_builtin; refine append_parts rfl _ _ rfl rfl rfl (HEX1.out.low (belowA _ _)) (made_one HTWX1.out) (by show 0 < 1; omega) (by rw [HLL.out]; show n + m + 1 ≤ _; omega) (by have h1 := HLX1.out.size; have h2 := (belowA X1 (.cells #[.int .i64 4, .string ⟨#[]⟩, .int .i64 0, .slice (some ⟨o2, 0, none⟩) 2 2] 46)).size; exact Nat.le_trans h1 h2) ?_)
  intro vV1 V1 r l
  have HRV1 := hid r
  have HLV1 := hid (abv HLX1.out l)
  have HJV1 := hid (HJW.out.low HLV1.out)
  have HTWV1 := hid (own_low HTWW.out HLV1.out)
  have HVOV1 := hid (HVOW.out.low HLV1.out)
  clear r l
  go_wp2_with fail
  refine HKK.out _ _ ?_
  clear HKK
  go_wp2_with (at_builtin; refine append_parts rfl _ _ rfl rfl rfl (made_none V1) (HVOV1.out.low (belowA _ _)) (by have h1 := HLL.out; have h2 := HNP.out; omega) (by have h1 := HLL.out; show 0 + _ ≤ _; omega) (belowA V1 _).size ?_)
  intro vX2 X2 r l
  have HEX2 := hid (show OwnR X2 V1.heap.size vX2 (A ++ B.map (shK n)) (kcat 0 (fun _ => undef) kb) (A ++ B.map (shK n)).length from by rw [List.length_append, List.length_map]; exact r)
  have HLX2 := hid (abv (Below.refl _ V1) l)
  have HTWX2 := hid (own_low HTWV1.out HLX2.out)
  clear r l
  go_wp2_with (at_builtin; refine append_parts rfl _ _ rfl rfl rfl (HEX2.out.low (belowA _ _)) (made_one HTWX2.out) (by show 0 < 1; omega) (by rw [HLL.out]; show n + m + 1 ≤ _; omega) (by have h1 := HLX2.out.size; have h2 := (belowA X2 (.cells #[.int .i64 5, .string ⟨#[]⟩, .int .i64 0, .slice (some ⟨o2, 0, none⟩) 2 2] 46)).size; exact Nat.le_trans h1 h2) ?_)
  intro vV2 V2 r l
  have HRV2 := hid r
  have HLV2 := hid (abv HLX2.out l)
  have HJV2 := hid (HJV1.out.low HLV2.out)
  have HTWV2 := hid (own_low HTWV1.out HLV2.out)
  have HVOV2 := hid (HVOV1.out.low HLV2.out)
  have HRV1V2 := hid (HRV1.out.low HLV2.out)
  clear r l
  have HJZ := HJV2
  have xa := HJV2.out.xa
  go_wp2_with fail
  refine (shift0 va A ca n V2 HNA.out HJV2.out.pa hn HSA.out).mono ?_
  rintro e Y ⟨v1, k1, rfl, r1, l⟩
  have HR1 := hid r1
  have HLY := hid l
  have HJY := hid (HJV2.out.low l)
  clear r1 l xa
  go_wp2_with (at_builtin; refine append_parts rfl _ _ rfl rfl rfl (HR1.out.low (belowA _ _)) (made_one HJY.out.one) (by show 0 < 1; omega) (by rw [← HNA.out]; show n + 1 ≤ _; omega) (by have h1 := HLY.out.size; have h2 := (belowA Y (.cells #[.int .i64 3, .string ⟨#[]⟩, .int .i64 0, .slice (some ⟨o1, 0, none⟩) 1 1] 46)).size; exact Nat.le_trans h1 h2) ?_)
  intro vU1 U1 r l
  have HRU1 := hid r
  have HLU1 := hid (abv HLY.out l)
  have HJU1 := hid (HJV2.out.low HLU1.out)
  clear r l HR1
  have HD1 := hid (HRV1V2.out.low HLU1.out)
  have HD2 := hid (HRV2.out.low HLU1.out)
  obtain ⟨a4, c4, e4, p4⟩ := HD1.out.plx (n + m + 1) (by have h1 := HNA.out; have h2 := HNB.out; simp only [List.length_append, List.length_map, List.length_cons, List.length_nil] <;> omega) (by have h1 := HNA.out; have h2 := HNB.out; simp only [List.length_append, List.length_map, List.length_cons, List.length_nil] <;> omega)
  obtain ⟨a5, c5, e5, p5⟩ := HD2.out.plx (n + m + 1) (by have h1 := HNA.out; have h2 := HNB.out; simp only [List.length_append, List.length_map, List.length_cons, List.length_nil] <;> omega) (by have h1 := HNA.out; have h2 := HNB.out; simp only [List.length_append, List.length_map, List.length_cons, List.length_nil] <;> omega)
  obtain ⟨a3, c3, e3, p3⟩ := HRU1.out.plx (n + 1) (by rw [HNA.out]; simp) (by simp)
  subst e4 e5 e3
  have P4 := hid p4
  have P5 := hid p5
  have P3 := hid p3
  clear p4 p5 p3 HD1 HD2 HRU1 HRV1 HRV2 HRV1V2
  have hfz : F.size ≤ 4096 := HR.out.sz
  have hsz : S.size ≤ 4096 := HR2.out.sz
  have HRD1 := hid (show Rds (⟨#[40]⟩ ++ F ++ ⟨#[10, 41, 32, 38, 38, 32, 40]⟩ ++ S ++ ⟨#[10, 41]⟩) (A ++ (B.map (shK n) ++ [⟨4, ⟨#[]⟩, 0, [(n : Int) - 1, (n : Int) + (m : Int) - 1]⟩])) from by have h9 := rds_and (w := ⟨#[40]⟩ ++ F ++ ⟨#[10, 41, 32, 38, 38, 32, 40]⟩ ++ S ++ ⟨#[10, 41]⟩) HR.out HR2.out (by rw [show (⟨#[10, 41, 32, 38, 38, 32, 40]⟩ : ByteArray) = ⟨#[10, 41]⟩ ++ ⟨#[32, 38, 38, 32]⟩ ++ ⟨#[40]⟩ from rfl]; simp only [ByteArray.append_assoc]); rw [← HNA.out, ← HNB.out, List.append_assoc] at h9; exact h9)
  go_wp2_with fail
  refine (readsx _ _ a4 c4 (n + m + 1) U1 (by have h1 := HNA.out; have h2 := HNB.out; simp only [List.length_append, List.length_map, List.length_cons, List.length_nil] <;> omega) HJU1.out.vars P4.out HRD1.out (by omega) (by simp only [ByteArray.size_append]; show 1 + F.size + 7 + S.size + 2 ≤ _; omega) (kids_app (kids_sh HSA.out) (kids_app (kids_map (kids_sh HSB.out)) (kids_lst (fun p hp => by simp at hp; subst hp; simp))))).mono ?_
  rintro e U2 ⟨rfl, l⟩
  have HJU2 := hid (HJU1.out.low l)
  have P51 := hid (P5.out.low l)
  have P31 := hid (P3.out.low l)
  clear l
  have HRD2 := hid (show Rds (⟨#[40]⟩ ++ F ++ ⟨#[10, 41, 124, 124, 40]⟩ ++ S ++ ⟨#[10, 41]⟩) (A ++ (B.map (shK n) ++ [⟨5, ⟨#[]⟩, 0, [(n : Int) - 1, (n : Int) + (m : Int) - 1]⟩])) from by have h9 := rds_or (w := ⟨#[40]⟩ ++ F ++ ⟨#[10, 41, 124, 124, 40]⟩ ++ S ++ ⟨#[10, 41]⟩) HR.out HR2.out (by rw [show (⟨#[10, 41, 124, 124, 40]⟩ : ByteArray) = ⟨#[10, 41]⟩ ++ ⟨#[124, 124]⟩ ++ ⟨#[40]⟩ from rfl]; simp only [ByteArray.append_assoc]); rw [← HNA.out, ← HNB.out, List.append_assoc] at h9; exact h9)
  go_wp2_with fail
  refine (readsx _ _ a5 c5 (n + m + 1) U2 (by have h1 := HNA.out; have h2 := HNB.out; simp only [List.length_append, List.length_map, List.length_cons, List.length_nil] <;> omega) HJU2.out.vars P51.out HRD2.out (by omega) (by simp only [ByteArray.size_append]; show 1 + F.size + 5 + S.size + 2 ≤ _; omega) (kids_app (kids_sh HSA.out) (kids_app (kids_map (kids_sh HSB.out)) (kids_lst (fun p hp => by simp at hp; subst hp; simp))))).mono ?_
  rintro e U3 ⟨rfl, l⟩
  have HJU3 := hid (HJU2.out.low l)
  have P312 := hid (P31.out.low l)
  clear l
  have HRD3 := hid (show Rds (⟨#[33, 40]⟩ ++ F ++ ⟨#[10, 41]⟩) (A ++ [⟨3, ⟨#[]⟩, 0, [(n : Int) - 1]⟩]) from by have h9 := rds_not (w := ⟨#[33, 40]⟩ ++ F ++ ⟨#[10, 41]⟩) HR.out rfl; rw [← HNA.out] at h9; exact h9)
  go_wp2_with fail
  refine (readsx _ _ a3 c3 (n + 1) U3 (by rw [HNA.out]; simp) HJU3.out.vars P312.out HRD3.out (by omega) (by simp only [ByteArray.size_append]; show 2 + F.size + 2 ≤ _; omega) (kids_app (kids_sh HSA.out) (kids_lst (fun p hp => by simp at hp; subst hp; simp)))).mono ?_
  rintro e U4 ⟨rfl, l⟩
  have HJU4 := hid (HJU3.out.low l)
  clear l
  have xa := HJU4.out.xa
  go_wp2_with fail
  refine (shift0 va A ca n U4 HNA.out HJU4.out.pa hn HSA.out).mono ?_
  rintro e Y5 ⟨v1, k1, rfl, r1, l⟩
  obtain ⟨a0, c0, e0, p0⟩ := r1.plx n HNA.out rfl
  subst e0
  have P0 := hid p0
  have HJY5 := hid (HJU4.out.low l)
  clear r1 l xa p0
  have HRD4 := hid (show Rds (⟨#[32, 40, 32]⟩ ++ F ++ ⟨#[10, 32, 41, 32]⟩) (A) from by have h9 := rds_par (w := ⟨#[32, 40, 32]⟩ ++ F ++ ⟨#[10, 32, 41, 32]⟩) HR.out rfl; exact h9)
  go_wp2_with fail
  refine (readsx _ _ a0 c0 (n) Y5 (by exact HNA.out) HJY5.out.vars P0.out HRD4.out (by omega) (by simp only [ByteArray.size_append]; show 3 + F.size + 4 ≤ _; omega) (kids_sh HSA.out)).mono ?_
  rintro e U5 ⟨rfl, l⟩
  have HJU5 := hid (HJY5.out.low l)
  clear l
  by_cases hqz : q.size ≤ 127
  · have g1 : ¬ ((127 : Int) < (q.size : Int)) := by omega
    go_upto_region 17 with fail
    refine joins_17 (by assumption) (by kernel_rfl) (by kernel_rfl) w0 U5 F q A l1 ba n ca va o1 HJU5.out HNA.out HR.out HSA.out hqz HQ.out NX.out
  · have g1 : (127 : Int) < (q.size : Int) := by omega
    go_wp2_with fail
    exact NX.out _ _ rfl rfl HJU5.out.lo
end Go.Proofs.YtcldglilhhhdoaaGreatDoor.L
namespace Go.Proofs.YtcldglilhhhdoaaGreatDoor.L
open Go.RowKit
set_option linter.unusedVariables false
set_option linter.unusedSimpArgs false
theorem smk_of {src : ByteArray} {s : PS} (h : parR src = .ok s) : Smk s.ps := by
  have r := either_ok h
  intro j hj
  have h1 := r.ok j hj
  have h2 := fre_len s.ps j
  have h3 := r.most
  refine ⟨by omega, fun q hq => ?_⟩
  have hm : (pt s.ps j).kids.getD q 0 ∈ (pt s.ps j).kids := by
    rw [List.getD_eq_getElem?_getD, List.getElem?_eq_getElem hq]
    exact List.getElem_mem hq
  obtain ⟨x, hx⟩ : ∃ x, x = (pt s.ps j).kids.getD q 0 := ⟨_, rfl⟩
  rw [← hx] at hm ⊢
  rw [h1.2.1] at hm
  have h4 := fre_mem s.ps j x (List.mem_of_mem_drop hm)
  omega
set_option maxHeartbeats 16000000 in
set_option maxRecDepth 100000 in
theorem pjoins_any (F S q : ByteArray) (w : World) (hv : Vars w) (hqm : q.size ≤ 140737488355328) : Calls Tryz.prog 6 #[.string F, .string S, .string q] w fun e w' => e = .returned (.bool true) ∧ Below w.heap.size w w' := by
  have HV := hid hv
  clear hv
  cases hp1 : parR F with
  | error q1 =>
    obtain ⟨c, x⟩ := q1
    have HP1 := hid hp1
    clear hp1
    go_enter Tryz.func6, Tryz.ntmps6
    go_wp2_with fail
    refine (wakes_any w HV.out).mono ?_
    rintro e W1 ⟨rfl, l1⟩
    have HLW1 := hid l1
    clear l1
    go_wp2_with fail
    refine (parse_any F W1 (HV.out.low HLW1.out)).mono ?_
    rintro e W2 ⟨hp, l2⟩
    have HLW2 := hid (bch3 HLW1.out l2)
    have HDW2 := hid l2
    clear l2
    unfold PaR at hp
    rw [HP1.out] at hp
    obtain ⟨N, rfl, hf⟩ := hp
    clear hf
    unfold fv
    go_upto_region 4 with fail
    have HDb := hid (belowA W2 (.cells #[.slice none 0 0] 25))
    have HXW3 := hid (heap_alloc_new W2 (.cells #[.slice none 0 0] 25))
    have HLW3 := hid (bch3 HLW2.out HDb.out)
    have HDW3 := hid HDb.out
    clear HDb
    generalize W2.alloc (.cells #[.slice none 0 0] 25) = W3 at *
    obtain ⟨bW3, hb⟩ : ∃ b, b = W2.heap.size := ⟨_, rfl⟩
    rw [← hb] at HXW3 ⊢
    clear hb
    go_wp2_with fail
    refine (parse_any S W3 (HV.out.low HLW3.out)).mono ?_
    rintro e W4 ⟨hp, l⟩
    have HLW4 := hid (bch3 HLW3.out l)
    have HDW4 := hid l
    clear l
    obtain ⟨va, vc, oa, oc, er, rfl, _, _, _⟩ := par_two hp
    clear hp
    obtain ⟨pn, hpn⟩ : ∃ pn, pn = (rdp S).length := ⟨_, rfl⟩
    rw [← hpn]
    clear hpn
    go_upto_region 5 with fail
    have HDb := hid (belowA W4 (.cells #[.slice va pn vc] 25))
    have HXW5 := hid (heap_alloc_new W4 (.cells #[.slice va pn vc] 25))
    have HLW5 := hid (bch3 HLW4.out HDb.out)
    have HDW5 := hid HDb.out
    clear HDb
    generalize W4.alloc (.cells #[.slice va pn vc] 25) = W5 at *
    obtain ⟨bW5, hb⟩ : ∃ b, b = W4.heap.size := ⟨_, rfl⟩
    rw [← hb] at HXW5 ⊢
    clear hb
    go_wp2_with fail
    go_ret
    exact ⟨rfl, HLW5.out⟩
  | ok s1 =>
    have HP1 := hid hp1
    clear hp1
    cases hp2 : parR S with
    | error q2 =>
      obtain ⟨c, x⟩ := q2
      have HP2 := hid hp2
      clear hp2
      go_enter Tryz.func6, Tryz.ntmps6
      go_wp2_with fail
      refine (wakes_any w HV.out).mono ?_
      rintro e W1 ⟨rfl, l1⟩
      have HLW1 := hid l1
      clear l1
      go_wp2_with fail
      refine (parse_any F W1 (HV.out.low HLW1.out)).mono ?_
      rintro e W2 ⟨hp, l2⟩
      have HLW2 := hid (bch3 HLW1.out l2)
      have HDW2 := hid l2
      clear l2
      unfold PaR at hp
      rw [HP1.out] at hp
      obtain ⟨pb, Bq, Nb, tv, T, v, o, ks, hB, rfl, pm⟩ := hp
      obtain ⟨v1, c1, rfl, hpl⟩ := pm.parts.pl
      obtain ⟨oa, oc, hoe, _⟩ := own_rdi pm.offs
      subst hoe
      have HPL1 := hid hpl.pl
      clear pm hB hpl
      obtain ⟨n, hn⟩ : ∃ n, n = s1.ps.length := ⟨_, rfl⟩
      have HN1 := hid hn
      rw [← hn]
      have n1 : n ≤ 1000 := by rw [hn]; exact (either_ok HP1.out).most
      have n0 : 0 < n := by rw [hn]; obtain ⟨_, r9⟩ := rd1_of HP1.out; exact r9.pos
      have nm : n ≤ maxLen := by unfold maxLen; omega
      clear hn
      go_upto_region 4 with fail
      have HDb := hid (belowA W2 (.cells #[.slice v1 n c1] 25))
      have HXW3 := hid (heap_alloc_new W2 (.cells #[.slice v1 n c1] 25))
      have HLW3 := hid (bch3 HLW2.out HDb.out)
      have HDW3 := hid HDb.out
      clear HDb
      generalize W2.alloc (.cells #[.slice v1 n c1] 25) = W3 at *
      obtain ⟨bW3, hb⟩ : ∃ b, b = W2.heap.size := ⟨_, rfl⟩
      rw [← hb] at HXW3 ⊢
      clear hb
      go_wp2_with fail
      refine (parse_any S W3 (HV.out.low HLW3.out)).mono ?_
      rintro e W4 ⟨hp, l⟩
      have HLW4 := hid (bch3 HLW3.out l)
      have HDW4 := hid l
      clear l
      unfold PaR at hp
      rw [HP2.out] at hp
      obtain ⟨N, rfl, hf⟩ := hp
      clear hf
      unfold fv
      go_upto_region 5 with fail
      have HDb := hid (belowA W4 (.cells #[.slice none 0 0] 25))
      have HXW5 := hid (heap_alloc_new W4 (.cells #[.slice none 0 0] 25))
      have HLW5 := hid (bch3 HLW4.out HDb.out)
      have HDW5 := hid HDb.out
      clear HDb
      generalize W4.alloc (.cells #[.slice none 0 0] 25) = W5 at *
      obtain ⟨bW5, hb⟩ : ∃ b, b = W4.heap.size := ⟨_, rfl⟩
      rw [← hb] at HXW5 ⊢
      clear hb
      go_wp2_with fail
      go_ret
      exact ⟨rfl, HLW5.out⟩
    | ok s2 =>
      have HP2 := hid hp2
      clear hp2
      obtain ⟨l1, R1⟩ := rd1_of HP1.out
      obtain ⟨l2, R2⟩ := rd1_of HP2.out
      have HR1 := hid R1
      have HR2 := hid R2
      clear R1 R2
      go_enter Tryz.func6, Tryz.ntmps6
      go_wp2_with fail
      refine (wakes_any w HV.out).mono ?_
      rintro e W1 ⟨rfl, l1⟩
      have HLW1 := hid l1
      clear l1
      go_wp2_with fail
      refine (parse_any F W1 (HV.out.low HLW1.out)).mono ?_
      rintro e W2 ⟨hp, l2⟩
      have HLW2 := hid (bch3 HLW1.out l2)
      have HDW2 := hid l2
      clear l2
      unfold PaR at hp
      rw [HP1.out] at hp
      obtain ⟨pb, Bq, Nb, tv, T, v, o, ks, hB, rfl, pm⟩ := hp
      obtain ⟨v1, c1, rfl, hpl⟩ := pm.parts.pl
      obtain ⟨oa, oc, hoe, _⟩ := own_rdi pm.offs
      subst hoe
      have HPL1 := hid hpl.pl
      clear pm hB hpl
      obtain ⟨n, hn⟩ : ∃ n, n = s1.ps.length := ⟨_, rfl⟩
      have HN1 := hid hn
      rw [← hn]
      have n1 : n ≤ 1000 := by rw [hn]; exact (either_ok HP1.out).most
      have n0 : 0 < n := by rw [hn]; obtain ⟨_, r9⟩ := rd1_of HP1.out; exact r9.pos
      have nm : n ≤ maxLen := by unfold maxLen; omega
      clear hn
      go_upto_region 4 with fail
      have HDb := hid (belowA W2 (.cells #[.slice v1 n c1] 25))
      have HXW3 := hid (heap_alloc_new W2 (.cells #[.slice v1 n c1] 25))
      have HLW3 := hid (bch3 HLW2.out HDb.out)
      have HDW3 := hid HDb.out
      clear HDb
      generalize W2.alloc (.cells #[.slice v1 n c1] 25) = W3 at *
      obtain ⟨bW3, hb⟩ : ∃ b, b = W2.heap.size := ⟨_, rfl⟩
      rw [← hb] at HXW3 ⊢
      clear hb
      go_wp2_with fail
      refine (parse_any S W3 (HV.out.low HLW3.out)).mono ?_
      rintro e W4 ⟨hp, l⟩
      have HLW4 := hid (bch3 HLW3.out l)
      have HDW4 := hid l
      clear l
      unfold PaR at hp
      rw [HP2.out] at hp
      obtain ⟨pb, Bq, Nb, tv, T, v, o, ks, hB, rfl, pm⟩ := hp
      obtain ⟨v2, c2, rfl, hpl⟩ := pm.parts.pl
      obtain ⟨oa, oc, hoe, _⟩ := own_rdi pm.offs
      subst hoe
      have HPL2 := hid hpl.pl
      clear pm hB hpl
      obtain ⟨m, hm⟩ : ∃ n, n = s2.ps.length := ⟨_, rfl⟩
      have HN2 := hid hm
      rw [← hm]
      have m1 : m ≤ 1000 := by rw [hm]; exact (either_ok HP2.out).most
      have m0 : 0 < m := by rw [hm]; obtain ⟨_, r9⟩ := rd1_of HP2.out; exact r9.pos
      have mm : m ≤ maxLen := by unfold maxLen; omega
      clear hm
      go_upto_region 5 with fail
      have HDb := hid (belowA W4 (.cells #[.slice v2 m c2] 25))
      have HXW5 := hid (heap_alloc_new W4 (.cells #[.slice v2 m c2] 25))
      have HLW5 := hid (bch3 HLW4.out HDb.out)
      have HDW5 := hid HDb.out
      clear HDb
      generalize W4.alloc (.cells #[.slice v2 m c2] 25) = W5 at *
      obtain ⟨bW5, hb⟩ : ∃ b, b = W4.heap.size := ⟨_, rfl⟩
      rw [← hb] at HXW5 ⊢
      clear hb
      have HD35 := hid (bch3 HDW4.out HDW5.out)
      have HX3 := hid ((HD35.out.block bW3 (lt_blk HXW3.out)).trans HXW3.out)
      have HPA := hid (HPL1.out.low (bch3 HDW3.out HD35.out))
      have HPB := hid (HPL2.out.low HDW5.out)
      have xa : W5.cell? ⟨bW3, 0, none⟩ = some (.slice v1 n c1) := cell_of_row _ _ 0 _ _ _ HX3.out
      have xb : W5.cell? ⟨bW5, 0, none⟩ = some (.slice v2 m c2) := cell_of_row _ _ 0 _ _ _ HXW5.out
      have g1 : ((n : Int) == 0) = false := by simp; omega
      have g2 : ((m : Int) == 0) = false := by simp; omega
      have g3 : ¬ n = 0 := by omega
      have g4 : ¬ m = 0 := by omega
      go_upto_region 8 with fail
      refine joins_8 (by assumption) (by kernel_rfl) W5 F S q bW3 bW5 n m c2 v2 xb (lt_blk HXW5.out) n1 m1 (fun c a a' w h => by cases h.2.1) ?_
      intro o1 o2 W6 x65 x66 x67 x68 x69 x70 x71 x72 x73 x74 x75 x76 hb6 h1 h2
      have HD6 := hid hb6
      have HO1 := hid h1
      have HO2 := hid h2
      clear hb6 h1 h2 xa xb
      go_upto_region 9 with fail
      refine joins_9 (by assumption) (by kernel_rfl) W6 F S q s1.ps s2.ps bW3 bW5 n m c1 c2 v1 v2 (cell_of_row _ _ 0 _ _ _ ((HD6.out.block bW3 (lt_blk HX3.out)).trans HX3.out)) (cell_of_row _ _ 0 _ _ _ ((HD6.out.block bW5 (lt_blk HXW5.out)).trans HXW5.out)) (Nat.lt_of_lt_of_le (lt_blk HX3.out) HD6.out.size) (Nat.lt_of_lt_of_le (lt_blk HXW5.out) HD6.out.size) n1 m1 HN1.out HN2.out (by rw [← HN2.out]; exact m0) (HPA.out.low HD6.out) (HPB.out.low HD6.out) (smk_of HP1.out) (smk_of HP2.out) (fun c a a' w h => by cases h.2.1) ?_
      intro vo kb W7 x77 x78 x79 x80 x81 x82 hb7 hro
      have HD7 := hid hb7
      have HRO := hid hro
      clear hb7 hro
      have HD57 := hid (bch3 HD6.out HD7.out)
      go_upto_region 10 with fail
      refine joins_10 (by assumption) (by kernel_rfl) (by kernel_rfl) w W7 F S q s1.ps s2.ps l1 l2 bW3 n m c1 W6.heap.size v1 o1 o2 vo kb ⟨bch3 HLW5.out HD57.out, cell_of_row _ _ 0 _ _ _ ((HD57.out.block bW3 (lt_blk HX3.out)).trans HX3.out), Nat.lt_of_lt_of_le (lt_blk HX3.out) HD57.out.size, HPA.out.low HD57.out, own_low HO1.out HD7.out, HV.out.low (bch3 HLW5.out HD57.out)⟩ (own_low HO2.out HD7.out) HRO.out HN1.out HN2.out HR1.out HR2.out (smk_of HP1.out) (smk_of HP2.out) hqm (fun c a a' w h => by cases h.2.1) ?_
      intro a9 W9 h6 hd hb9
      refine ⟨hd, .bool true, ?_, rfl, hb9⟩
      rw [← h6]
      exact results_tmp Tryz.results6 _ _ _
end Go.Proofs.YtcldglilhhhdoaaGreatDoor.L
