import Derived.Test.YtcldglilhhhdoaaGreatDoorPhK
import Derived.Test.YtcldglilhhhdoaaGreatDoorX3
namespace Go.Proofs.YtcldglilhhhdoaaGreatDoor.L
open Go.RowKit
set_option linter.unusedVariables false
set_option linter.unusedSimpArgs false
/-- What the law keeps while it goes on. -/
structure Jw (w0 W : World) (A : List Pt) (ba n ca : Nat) (va : Option Addr) (o1 : Nat) : Prop where
  lo : Below w0.heap.size w0 W
  xa : W.cell? ⟨ba, 0, none⟩ = some (.slice va n ca)
  la : ba < W.heap.size
  pa : PL W va A
  one : OwnI W 0 (.slice (some ⟨o1, 0, none⟩) 1 1) [(n : Int) - 1]
  vars : Vars W
theorem Jw.low {w0 W W' : World} {A : List Pt} {ba n ca : Nat} {va : Option Addr} {o1 : Nat} (h : Jw w0 W A ba n ca va o1) (hb : Below W.heap.size W W') : Jw w0 W' A ba n ca va o1 :=
  ⟨h.lo.trans (hb.mono h.lo.size), (hb.cell (p := ⟨ba, 0, none⟩) h.la).trans h.xa, Nat.lt_of_lt_of_le h.la hb.size, h.pa.low hb, own_low h.one hb, h.vars.low hb⟩
theorem abv {W Y U : World} {o : Obj} (h : Below W.heap.size W Y) (k : Below W.heap.size (Y.alloc o) U) : Below W.heap.size W U := (h.trans ((belowA Y o).mono h.size)).trans k
theorem abv2 {W Y U : World} {o o2 : Obj} (h : Below W.heap.size W Y) (k : Below W.heap.size ((Y.alloc o).alloc o2) U) : Below W.heap.size W U := abv (h.trans ((belowA Y o).mono h.size)) k
theorem OwnR.plx {W : World} {b k : Nat} {v : Value} {T : List Pt} {ks : Nat → Value} (h : OwnR W b v T ks k) (ln : Nat) (h1 : ln = T.length) (h2 : k = T.length) : ∃ a cap, v = .slice a ln cap ∧ PL W a T := by
  subst h1 h2
  exact h.pl
theorem readsx (src : ByteArray) (L : List Pt) (v : Option Addr) (cap ln : Nat) (w : World) (hln : ln = L.length) (hv : Vars w) (hP : PL w v L) (hR : Rds src L) (hl : ln ≤ 100000) (hs : src.size ≤ 140737488355328) (hk : ∀ j, j < L.length → (pt L j).kids.length ≤ 1000000) : Calls Tryz.prog 20 #[.string src, .slice v ln cap] w fun e w' => e = .returned (.bool true) ∧ Below w.heap.size w w' := by
  subst hln
  exact reads_any src L v cap w hv hP hR hl hs hk
theorem qbs_le {q : ByteArray} (h : q.size ≤ 127) : (qbs q).size ≤ 510 := by
  rw [qbs_size]
  have h1 := flat_len q.data.toList
  have h2 : q.data.toList.length = q.size := by simp
  unfold quoteL
  rw [List.length_append, List.length_cons, List.length_singleton]
  omega
theorem kids_sh {A : List Pt} (h : Smk A) : ∀ j, j < A.length → (pt A j).kids.length ≤ 1000000 := fun j hj => by have := (h j hj).1; omega
theorem kids_app {A B : List Pt} (h : ∀ j, j < A.length → (pt A j).kids.length ≤ 1000000) (h2 : ∀ j, j < B.length → (pt B j).kids.length ≤ 1000000) : ∀ j, j < (A ++ B).length → (pt (A ++ B) j).kids.length ≤ 1000000 := fun j hj => by
  by_cases hA : j < A.length
  · rw [pt_l hA]; exact h j hA
  · rw [List.length_append] at hj
    have e := pt_r A B (j - A.length)
    rw [show A.length + (j - A.length) = j by omega] at e
    rw [e]
    exact h2 _ (by omega)
theorem kids_map {B : List Pt} {n : Int} (h : ∀ j, j < B.length → (pt B j).kids.length ≤ 1000000) : ∀ j, j < (B.map (shK n)).length → (pt (B.map (shK n)) j).kids.length ≤ 1000000 := fun j hj => by
  rw [List.length_map] at hj
  rw [pt_sh B n hj]
  show ((pt B j).kids.map _).length ≤ _
  rw [List.length_map]
  exact h j hj
theorem kids_lst {B : List Pt} (h : ∀ p, p ∈ B → p.kids.length ≤ 1000000) : ∀ j, j < B.length → (pt B j).kids.length ≤ 1000000 := fun j hj => by
  unfold pt
  rw [List.getD_eq_getElem?_getD, List.getElem?_eq_getElem hj]
  exact h _ (List.getElem_mem hj)
set_option maxHeartbeats 16000000 in
set_option maxRecDepth 100000 in
theorem joins_17 {C C2 : Code} {K : Act → World → Prop} {Q : Exit → Act → World → Prop} (hK : ∀ a w, C2.wp Tryz.prog Q a w → K a w) (hC : C = hdC (rtC (rtC (rtC (rtC (rtC (rtC (rtC (rtC (rtC (rtC (rtC (rtC (rtC (Option.getD Tryz.f6.body Code.skip))))))))))))))) (hC2 : C2 = rtC (rtC (rtC (rtC (rtC (rtC (rtC (rtC (rtC (rtC (rtC (rtC (rtC (rtC (Option.getD Tryz.f6.body Code.skip))))))))))))))) (w0 W : World) (F q : ByteArray) (A : List Pt) (l1 : List Tok) (ba n ca : Nat) (va : Option Addr) (o1 : Nat) {t1 t3 t4 t5 t6 t8 t9 t10 t11 t12 t15 t16 t17 t18 t19 t20 t21 t22 t23 t24 t25 t26 t27 t28 t29 t30 t31 t32 t33 t34 t35 t36 t37 t38 t39 t40 t41 t42 t43 t44 t45 t46 t47 t48 t49 t50 t51 t52 t53 t54 t55 t56 t57 t58 t59 t60 t61 t62 t63 t64 t65 t66 t67 t68 t69 t70 t71 t72 t73 t74 t75 t76 t77 t78 t79 t80 t81 t82 t83 t84 t85 t86 t87 t88 t89 t90 t91 t92 t93 t94 t95 t96 t97 t98 t99 t100 t101 t102 t103 t104 t105 t106 t107 t108 t109 t110 t111 t112 t113 t114 t115 t116 t117 t118 t119 t120 t121 t122 t123 t124 t125 t126 t127 t128 t129 t130 t131 t132 t133 t134 t135 t136 t137 t138 t139 t140 t141 t142 t143 t144 t145 t146 t147 t148 t149 t150 t151 t152 t153 t154 t155 t156 t157 t158 t159 t160 t161 t162 t163 t164 t165 t166 t167 t168 t169 t170 t171 t172 t173 t174 t175 t176 t177 t178 t179 t180 t181 t182 t183 t184 t185 t186 t187 t188 t189 t190 t191 t192 t193 t194 t195 t196 t197 t198 t199 : Value} (J : Jw w0 W A ba n ca va o1) (hna : n = A.length) (R1 : Rd1 F A l1) (hsa : Smk A) (hqz : q.size ≤ 127) (hq : ∀ c a a' w, Q (.panic c) a w → Q (.panic c) a' w)
    (nx : ∀ (a' : Act) (W' : World), a'.tmps.getD 6 undef = .bool true → a'.defers = [] → Below w0.heap.size w0 W' → Q .ret a' W') :
    Code.wp Tryz.prog C (Exit.then K Q) { tmps := #[.string F, t1, .string q, t3, t4, t5, t6, .pointer (some ⟨ba, 0, none⟩), t8, t9, t10, t11, t12, .int .i64 (n : Int), .slice (some ⟨o1, 0, none⟩) 1 1, t15, t16, t17, t18, t19, t20, t21, t22, t23, t24, t25, t26, t27, t28, t29, t30, t31, t32, t33, t34, t35, t36, t37, t38, t39, t40, t41, t42, t43, t44, t45, t46, t47, t48, t49, t50, t51, t52, t53, t54, t55, t56, t57, t58, t59, t60, t61, t62, t63, t64, t65, t66, t67, t68, t69, t70, t71, t72, t73, t74, t75, t76, t77, t78, t79, t80, t81, t82, t83, t84, t85, t86, t87, t88, t89, t90, t91, t92, t93, t94, t95, t96, t97, t98, t99, t100, t101, t102, t103, t104, t105, t106, t107, t108, t109, t110, t111, t112, t113, t114, t115, t116, t117, t118, t119, t120, t121, t122, t123, t124, t125, t126, t127, t128, t129, t130, t131, t132, t133, t134, t135, t136, t137, t138, t139, t140, t141, t142, t143, t144, t145, t146, t147, t148, t149, t150, t151, t152, t153, t154, t155, t156, t157, t158, t159, t160, t161, t162, t163, t164, t165, t166, t167, t168, t169, t170, t171, t172, t173, t174, t175, t176, t177, t178, t179, t180, t181, t182, t183, t184, t185, t186, t187, t188, t189, t190, t191, t192, t193, t194, t195, t196, t197, t198, t199], defers := [] } W := by
  subst hC hC2
  have HKK := hid hK
  have NX := hid nx
  have HQ := hid hq
  have HJ := hid J
  have HNA := hid hna
  have HR := hid R1
  have HSA := hid hsa
  have hn : n ≤ 1000 := by rw [hna]; exact R1.le
  clear hK nx hq J hna R1 hsa
  have HJW := HJ
  have hw1 : IntKind.i64.wrap ((n : Int) + 1) = (n : Int) + 1 := by (simp [IntKind.wrap, IntKind.bits, IntKind.signed]; omega)
  simp only [hdC, rtC, Option.getD, Tryz.f6] at HKK ⊢
  have xa := HJW.out.xa
  go_wp2_with fail
  refine (shift0 va A ca n W HNA.out HJW.out.pa hn HSA.out).mono ?_
  rintro e Y ⟨v1, k1, rfl, r1, l⟩
  have HR1 := hid r1
  have HLY := hid l
  have HJY := hid (HJW.out.low l)
  clear r1 l xa
  go_wp2_with (at_builtin; refine append_parts rfl _ _ rfl rfl rfl (HR1.out.low (belowA _ _)) (made_one HJY.out.one) (by show 0 < 1; omega) (by rw [← HNA.out]; show n + 1 ≤ _; omega) (by have h1 := HLY.out.size; have h2 := (belowA Y (.cells #[.int .i64 8, .string q, .int .i64 0, .slice (some ⟨o1, 0, none⟩) 1 1] 46)).size; exact Nat.le_trans h1 h2) ?_)
  intro vU1 U1 r l
  have HRU1 := hid r
  have HLU1 := hid (abv HLY.out l)
  have HJU1 := hid (HJW.out.low HLU1.out)
  clear r l HR1
  go_wp2_with fail
  refine HKK.out _ _ ?_
  clear HKK
  have xa := HJU1.out.xa
  go_wp2_with fail
  refine (shift0 va A ca n U1 HNA.out HJU1.out.pa hn HSA.out).mono ?_
  rintro e Y2 ⟨v1, k1, rfl, r1, l⟩
  have HR1 := hid r1
  have HLY2 := hid l
  have HJY2 := hid (HJU1.out.low l)
  clear r1 l xa
  go_wp2_with (at_builtin; refine append_parts rfl _ _ rfl rfl rfl (HR1.out.low (belowA _ _)) (made_one HJY2.out.one) (by show 0 < 1; omega) (by rw [← HNA.out]; show n + 1 ≤ _; omega) (by have h1 := HLY2.out.size; have h2 := (belowA Y2 (.cells #[.int .i64 9, .string q, .int .i64 0, .slice (some ⟨o1, 0, none⟩) 1 1] 46)).size; exact Nat.le_trans h1 h2) ?_)
  intro vU2 U2 r l
  have HRU2 := hid r
  have HLU2 := hid (abv HLY2.out l)
  have HJU2 := hid (HJU1.out.low HLU2.out)
  have HRU1U2 := hid (HRU1.out.low HLU2.out)
  clear r l HR1
  have xa := HJU2.out.xa
  go_wp2_with fail
  refine (shift0 va A ca n U2 HNA.out HJU2.out.pa hn HSA.out).mono ?_
  rintro e Y3 ⟨v1, k1, rfl, r1, l⟩
  have HR1 := hid r1
  have HLY3 := hid l
  have HJY3 := hid (HJU2.out.low l)
  clear r1 l xa
  have HI2 := hid (made_i2 Y3 (n : Int) ((n : Int) + 1))
  have HB1 := hid (belowA Y3 (.cells #[.int .i64 (n : Int), .int .i64 ((n : Int) + 1)] 3))
  have HO2 := hid (own_low HJY3.out.one HB1.out)
  have H3 := hid (made_three (k1 := 20) (x1 := q) (n1 := 0) (k2 := 12) (x2 := ⟨#[]⟩) (n2 := 7) (k3 := 6) (x3 := ⟨#[]⟩) (n3 := 6) HO2.out (own_nil _ 0) HI2.out)
  rw [World.size_alloc] at H3
  go_wp2_with (at_builtin; refine append_parts rfl _ _ rfl rfl rfl ((HR1.out.low HB1.out).low (belowA _ _)) H3.out (by show 0 < 3; omega) (by rw [← HNA.out]; show n + 3 ≤ _; omega) (by have h1 := HLY3.out.size; have h2 := HB1.out.size; refine Nat.le_trans h1 (Nat.le_trans h2 ?_); exact (belowA _ _).size) ?_)
  intro vU3 U3 r l
  have HRU3 := hid r
  have HLU3 := hid (abv2 HLY3.out l)
  have HJU3 := hid (HJU2.out.low HLU3.out)
  have HRU1U3 := hid (HRU1U2.out.low HLU3.out)
  have HRU2U3 := hid (HRU2.out.low HLU3.out)
  clear r l HR1 HI2 HB1 HO2 H3
  go_wp2_with fail
  refine (quote_any q U3 (by omega)).mono ?_
  rintro e U4 ⟨rfl, l⟩
  have HJ4 := hid (HJU3.out.low l)
  have HA := hid (HRU1U3.out.low l)
  have HB := hid (HRU2U3.out.low l)
  have HC := hid (HRU3.out.low l)
  clear l
  obtain ⟨qs, hqs⟩ : ∃ qs, qs = qbs q := ⟨_, rfl⟩
  have HQS := hid hqs
  have hqsz : qs.size ≤ 510 := by rw [hqs]; exact qbs_le hqz
  rw [show (⟨(quoteL q.data.toList).toArray⟩ : ByteArray) = qs from hqs.symm]
  clear hqs
  obtain ⟨a8, c8, e8, p8⟩ := HA.out.plx (n + 1) (by rw [HNA.out]; simp) (by simp)
  obtain ⟨a9, c9, e9, p9⟩ := HB.out.plx (n + 1) (by rw [HNA.out]; simp) (by simp)
  obtain ⟨a20, c20, e20, p20⟩ := HC.out.plx (n + 3) (by rw [HNA.out]; simp) (by simp)
  clear HA HB HC HRU1U3 HRU2U3 HRU3 HRU1 HRU2 HRU1U2
  have hfz : F.size ≤ 4096 := HR.out.sz
  subst e8 e9 e20
  have P8 := hid p8
  have P9 := hid p9
  have P20 := hid p20
  clear p8 p9 p20
  have HJU4 := HJ4
  have HRD1 := hid (show Rds (⟨#[110, 101, 97, 114, 40]⟩ ++ qs ++ ⟨#[44]⟩ ++ F ++ ⟨#[10, 41]⟩) (A ++ [⟨8, q, 0, [(n : Int) - 1]⟩]) from by have h9 := rds_sel (w := ⟨#[110, 101, 97, 114, 40]⟩ ++ qs ++ ⟨#[44]⟩ ++ F ++ ⟨#[10, 41]⟩) HR.out wd_near hqz (Or.inl rfl) (by rw [HQS.out]; rfl) 8 (Or.inl ⟨rfl, by simp [wNear, ByteArray.toList_eq]⟩); rw [← HNA.out] at h9; exact h9)
  go_wp2_with fail
  refine (readsx _ _ a8 c8 (n + 1) U4 (by rw [HNA.out]; simp) HJU4.out.vars P8.out HRD1.out (by omega) (by simp only [ByteArray.size_append]; show 5 + qs.size + 1 + F.size + 2 ≤ _; omega) (kids_app (kids_sh HSA.out) (kids_lst (fun p hp => by simp at hp; subst hp; simp)))).mono ?_
  rintro e U5 ⟨rfl, l⟩
  have HJU5 := hid (HJU4.out.low l)
  have P91 := hid (P9.out.low l)
  have P201 := hid (P20.out.low l)
  clear l
  have HRD2 := hid (show Rds (⟨#[97, 112, 97, 114, 116, 40]⟩ ++ qs ++ ⟨#[44, 32]⟩ ++ F ++ ⟨#[10, 41]⟩) (A ++ [⟨9, q, 0, [(n : Int) - 1]⟩]) from by have h9 := rds_sel (w := ⟨#[97, 112, 97, 114, 116, 40]⟩ ++ qs ++ ⟨#[44, 32]⟩ ++ F ++ ⟨#[10, 41]⟩) HR.out wd_apart hqz (Or.inr rfl) (by rw [HQS.out]; rfl) 9 (Or.inr ⟨rfl, by simp [wApart, ByteArray.toList_eq]⟩); rw [← HNA.out] at h9; exact h9)
  go_wp2_with fail
  refine (readsx _ _ a9 c9 (n + 1) U5 (by rw [HNA.out]; simp) HJU5.out.vars P91.out HRD2.out (by omega) (by simp only [ByteArray.size_append]; show 6 + qs.size + 2 + F.size + 2 ≤ _; omega) (kids_app (kids_sh HSA.out) (kids_lst (fun p hp => by simp at hp; subst hp; simp)))).mono ?_
  rintro e U6 ⟨rfl, l⟩
  have HJU6 := hid (HJU5.out.low l)
  have P2012 := hid (P201.out.low l)
  clear l
  have HRD3 := hid (show Rds (⟨#[99, 111, 117, 110, 116, 40]⟩ ++ qs ++ ⟨#[44]⟩ ++ F ++ ⟨#[10, 41, 62, 61, 55]⟩) (A ++ [⟨20, q, 0, [(n : Int) - 1]⟩, ⟨12, ⟨#[]⟩, 7, []⟩, ⟨6, ⟨#[]⟩, 6, [(n : Int), (n : Int) + 1]⟩]) from by have h9 := rds_cnt (w := ⟨#[99, 111, 117, 110, 116, 40]⟩ ++ qs ++ ⟨#[44]⟩ ++ F ++ ⟨#[10, 41, 62, 61, 55]⟩) HR.out hqz (by rw [HQS.out, show (⟨#[10, 41, 62, 61, 55]⟩ : ByteArray) = ⟨#[10, 41]⟩ ++ ⟨#[62, 61, 55]⟩ from rfl, show (⟨#[99, 111, 117, 110, 116, 40]⟩ : ByteArray) = wCount ++ ⟨#[40]⟩ from rfl]; simp only [ByteArray.append_assoc]); rw [← HNA.out] at h9; exact h9)
  go_wp2_with fail
  refine (readsx _ _ a20 c20 (n + 3) U6 (by rw [HNA.out]; simp) HJU6.out.vars P2012.out HRD3.out (by omega) (by simp only [ByteArray.size_append]; show 6 + qs.size + 1 + F.size + 5 ≤ _; omega) (kids_app (kids_sh HSA.out) (kids_lst (fun p hp => by simp at hp; rcases hp with rfl | rfl | rfl <;> simp)))).mono ?_
  rintro e U7 ⟨rfl, l⟩
  have HJU7 := hid (HJU6.out.low l)
  clear l
  go_wp2_with fail
  exact NX.out _ _ rfl rfl HJU7.out.lo
end Go.Proofs.YtcldglilhhhdoaaGreatDoor.L
