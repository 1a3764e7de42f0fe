import Derived.Test.YtiddnjjaidiohaaGreatDoorSp9a
namespace Go.Proofs.YtiddnjjaidiohaaGreatDoor.L
open Go.RowKit Go.Shelf
set_option linter.unusedVariables false
abbrev zoneB : ByteArray := ⟨#[122, 111, 110, 101]⟩
theorem zone_key : keyB zoneB = true := by decide +kernel
theorem as_near {n : Int} : asO 8 0 2 zoneB n = none := by
  have e : nmB 8 zoneB = keyB zoneB := rfl
  unfold asO
  rw [e, zone_key]
  rfl
theorem as_apart (key : ByteArray) (t : Int) : asO 9 0 2 key t = if keyB key = true then none else some (147, t) := rfl
theorem gdtW (key : ByteArray) : GdT (wT key) := ⟨(show (3 : Nat) ≤ 140737488355328 by decide), fun j hj => by
  match j, hj with
  | 0, _ => exact (show (0 : Nat) ≤ 140737488355328 by decide)
  | 1, _ => exact (show (0 : Nat) ≤ 140737488355328 by decide)
  | 2, _ => exact (show (2 : Nat) ≤ 140737488355328 by decide)⟩
abbrev rowW (key : ByteArray) (k1 : Nat) : Array Value := #[.int .i64 14, .string key, .int .i64 2, .slice none 0 0, .int .i64 11, .string ⟨#[120]⟩, .int .i64 0, .slice none 0 0, .int .i64 6, .string ⟨#[]⟩, .int .i64 1, .slice (some ⟨k1, 0, none⟩) 2 2]
theorem plW {W : World} {key : ByteArray} {k1 gp : Nat} (h1 : W.heap[k1]? = some (.cells #[.int .i64 0, .int .i64 1] 3 (0, 0))) (h3 : W.heap[gp]? = some (.cells (rowW key k1) 60 (0, 0))) : PL W (some ⟨gp, 0, none⟩) (wT key) := by
  have hc := fun j => cell_of_row W gp j _ _ _ h3
  refine Or.inr ⟨gp, 0, rfl, lt_blk h3, fun j hj => ?_⟩
  match j, hj with
  | 0, _ => exact ⟨none, 0, hc 0, hc 1, hc 2, hc 3, Or.inl rfl⟩
  | 1, _ => exact ⟨none, 0, hc 4, hc 5, hc 6, hc 7, Or.inl rfl⟩
  | 2, _ =>
    refine ⟨some ⟨k1, 0, none⟩, 2, hc 8, hc 9, hc 10, hc 11, Or.inr ⟨k1, 0, rfl, lt_blk h1, fun i hi => ?_⟩⟩
    match i, hi with
    | 0, _ => exact cell_of_row _ _ 0 _ _ _ h1
    | 1, _ => exact cell_of_row _ _ 1 _ _ _ h1
/-- An answer of Check: whether it is an error. -/
theorem ck_nil {T : List Pt} {sc : Int} {B : Nat} {W : World} {v ev : Value} (h : CkR T sc B W v ev) (hs : sc = 2 ∨ sc = 3) (hr : Res T 0 0) : (ev = .nilIface ∧ (ovS T sc).2 = none) ∨ ∃ N e, ev = fv N ∧ (ovS T sc).2 = some e := by
  rcases h with ⟨rfl, _, _, _, _, hn, _⟩ | ⟨_, N, rfl, hf⟩
  · exact .inl ⟨rfl, hn⟩
  · rcases hf with ⟨⟨h2, h3⟩, _⟩ | ⟨_, ⟨M, c, i, _, _, hr2, h0⟩ | ⟨_, c, a, ho, _⟩⟩
    · rcases hs with h | h
      · exact absurd h h2
      · exact absurd h h3
    · exact absurd (res_one hr2 hr).1 h0
    · exact .inr ⟨N, (c, a), rfl, ho⟩
theorem ck_form {T : List Pt} {sc : Int} {B : Nat} {W : World} {v ev : Value} (h : CkR T sc B W v ev) : ev = .nilIface ∨ ∃ N, ev = fv N := by
  rcases h with ⟨rfl, _⟩ | ⟨_, N, rfl, _⟩
  · exact .inl rfl
  · exact .inr ⟨N, rfl⟩
set_option maxHeartbeats 16000000 in
set_option maxRecDepth 100000 in
theorem parts_22 (W : World) (ab n ca xc : Nat) (a xa : Option Addr) (A : List Pt) (key : ByteArray) (Q : Exit → Act → World → Prop) {t0 t1 t4 t5 t6 t9 t10 t11 t12 t13 t14 t15 t16 t17 t18 t19 t20 t21 t22 t23 t24 t25 t26 t27 t28 t29 t30 t31 t32 t33 t34 t35 t36 t37 t38 t39 t40 t41 t42 t43 t44 t45 t46 t47 t48 t49 t50 t51 t52 t53 t54 t55 t56 t57 t58 t59 t60 t61 t62 t63 t64 t65 t66 t67 t68 t69 t70 t71 t72 t73 t74 t75 t76 t77 t78 t79 t80 t81 t82 t83 t84 t85 t86 t87 t88 t89 t90 t91 t92 t93 t94 t95 t96 t97 t98 t99 t100 t101 t102 t103 t104 t105 t106 t107 t108 t109 t110 t111 t112 t113 t114 t115 t116 t117 t118 t119 t120 t121 t122 t123 t124 t125 t126 t127 t128 t129 t130 t131 t132 t133 t134 t135 t136 t137 t138 t139 t140 t141 t142 t143 t144 t145 t146 t147 t148 t149 t150 t151 t152 t153 t154 t155 t156 t157 t158 t159 t160 t161 t162 t163 t164 t165 t166 t167 t168 t169 t170 t171 t172 t173 t174 t175 t176 t177 t178 t179 t180 t181 t182 t183 t184 t185 t186 t187 t188 t189 t190 t191 t192 t193 t194 t195 t196 t197 t198 : Value}
    (hab : W.heap[ab]? = some (.cells #[.slice a n ca] 26 (0, 0))) (hA : PLs W a A) (hr : Res A 0 0) (hn : n = A.length) (hg : Gv W) (hy : TyL W (.slice xa n xc) n (ovS A 3).1) (ho : (ovS A 3).2 = none)
    (hq : ∀ c a a' w, Q (.panic c) a w → Q (.panic c) a' w)
    (nx : ∀ (W' : World) {x19 x20 x21 x22 x23 x24 x25 x155 x156 x157 x158 x159 x160 x161 x162 x163 x164 x165 x166 x167 x168 x169 x170 x171 x172 x173 x174 x175 x176 x177 x178 x179 x180 x181 x182 x183 x184 x185 x186 x187 x188 x189 x190 x191 x192 x193 x194 x195 x196 x197 x198 : Value}, Below W.heap.size W W' → Q Exit.normal { tmps := #[t0, t1, .string key, .pointer (some ⟨ab, 0, none⟩), t4, t5, t6, .int .i64 3, .slice xa n xc, t9, t10, t11, t12, t13, t14, t15, t16, t17, t18, x19, x20, x21, x22, x23, x24, x25, t26, t27, t28, t29, t30, t31, t32, t33, t34, t35, t36, t37, t38, t39, t40, t41, t42, t43, t44, t45, t46, t47, t48, t49, t50, t51, t52, t53, t54, t55, t56, t57, t58, t59, t60, t61, t62, t63, t64, t65, t66, t67, t68, t69, t70, t71, t72, t73, t74, t75, t76, t77, t78, t79, t80, t81, t82, t83, t84, t85, t86, t87, t88, t89, t90, t91, t92, t93, t94, t95, t96, t97, t98, t99, t100, t101, t102, t103, t104, t105, t106, t107, t108, t109, t110, t111, t112, t113, t114, t115, t116, t117, t118, t119, t120, t121, t122, t123, t124, t125, t126, t127, t128, t129, t130, t131, t132, t133, t134, t135, t136, t137, t138, t139, t140, t141, t142, t143, t144, t145, t146, t147, t148, t149, t150, t151, t152, t153, t154, x155, x156, x157, x158, x159, x160, x161, x162, x163, x164, x165, x166, x167, x168, x169, x170, x171, x172, x173, x174, x175, x176, x177, x178, x179, x180, x181, x182, x183, x184, x185, x186, x187, x188, x189, x190, x191, x192, x193, x194, x195, x196, x197, x198], defers := [] } W') :
    Code.wp Tryz.prog (rtC (rtC (rtC (rtC (rtC (rtC ((bdC (hdC (rtC (bdC (bdC (rtC (hdC (rtC (rtC (rtC (Option.getD Tryz.f5.body Code.skip)))))))))))))))))) Q { tmps := #[t0, t1, .string key, .pointer (some ⟨ab, 0, none⟩), t4, t5, t6, .int .i64 3, .slice xa n xc, t9, t10, t11, t12, t13, t14, t15, t16, t17, t18, t19, t20, t21, t22, t23, t24, t25, t26, t27, t28, t29, t30, t31, t32, t33, t34, t35, t36, t37, t38, t39, t40, t41, t42, t43, t44, t45, t46, t47, t48, t49, t50, t51, t52, t53, t54, t55, t56, t57, t58, t59, t60, t61, t62, t63, t64, t65, t66, t67, t68, t69, t70, t71, t72, t73, t74, t75, t76, t77, t78, t79, t80, t81, t82, t83, t84, t85, t86, t87, t88, t89, t90, t91, t92, t93, t94, t95, t96, t97, t98, t99, t100, t101, t102, t103, t104, t105, t106, t107, t108, t109, t110, t111, t112, t113, t114, t115, t116, t117, t118, t119, t120, t121, t122, t123, t124, t125, t126, t127, t128, t129, t130, t131, t132, t133, t134, t135, t136, t137, t138, t139, t140, t141, t142, t143, t144, t145, t146, t147, t148, t149, t150, t151, t152, t153, t154, t155, t156, t157, t158, t159, t160, t161, t162, t163, t164, t165, t166, t167, t168, t169, t170, t171, t172, t173, t174, t175, t176, t177, t178, t179, t180, t181, t182, t183, t184, t185, t186, t187, t188, t189, t190, t191, t192, t193, t194, t195, t196, t197, t198], defers := [] } W := by
  have NX := hid nx
  have HQ := hid hq
  have HAB := hid hab
  have HA := hid hA
  have HR := hid hr
  have HG := hid hg
  have HY := hid hy
  have HO := hid ho
  have hsm := res_small hr
  have ⟨hl1, hl2, _⟩ := res_ok hr
  have dA := gdt_of (T := A) (by omega)
  have HU8 := hid (fun W h => under_any 8 zoneB a A ca W h dA (by omega) hl1)
  have HU9 := hid (fun W h => under_any 9 key a A ca W h dA (by omega) hl1)
  have s8 := un_sum 8 zoneB A
  have s9 := un_sum 9 key A
  have d8 := gdt_of (T := unT 8 zoneB A) (by omega)
  have d9 := gdt_of (T := unT 9 key A) (by omega)
  have l8 := un_len 8 zoneB A
  have l9 := un_len 9 key A
  have HTK := hid (fun a' cap' W h1 h2 h3 => taken_any a' (unT 8 zoneB A) cap' 2 (.slice xa n xc) (.slice none 0 0) A.length 0 (ovS A 3).1 (fun _ => (0, 0)) W h1 d8 (by omega) h2 h3 (tyl_nil _ _) (by omega) (by omega) (fun hU => by
    obtain ⟨y1, y2⟩ := (un_ok (sc := 2) hr hU (by decide) ho).1 as_near
    exact ⟨.inl rfl, y1, by rw [un_len], y2, fun j hj => absurd hj (Nat.not_lt_zero j)⟩))
  have HC9 := hid (fun a' cap' W h => copied_pl a' (unT 9 key A) cap' W h d9 (by omega))
  have HK9 := hid (fun a' cap' W h1 h2 => check_any a' (unT 9 key A) cap' 2 W h1 d9 h2)
  have HV9 := hid (fun a' cap' W h1 h2 => valid_ok a' (unT 9 key A) cap' W h1 d9 h2)
  have HN9 := hid (fun a' cap' W h1 h2 => valid_bad a' (unT 9 key A) cap' W h1 d9 h2)
  have HKW := hid (fun g W h1 h2 => check_any (some ⟨g, 0, none⟩) (wT key) 3 2 W h1 (gdtW key) h2)
  have HVW := hid (fun g W h1 h2 => valid_ok (some ⟨g, 0, none⟩) (wT key) 3 W h1 (gdtW key) h2)
  have HNW := hid (fun g W h1 h2 => valid_bad (some ⟨g, 0, none⟩) (wT key) 3 W h1 (gdtW key) h2)
  have HIF := hid (show Res (unT 9 key A) 0 0 → ((ovS (unT 9 key A) 2).2 = none ↔ keyB key = true) from fun hU => by
    obtain ⟨y1, y2⟩ := un_ok (k := 9) (tx := key) (sc := 2) hr hU (by decide) ho
    rw [as_apart] at y1 y2
    cases hk : keyB key
    · rw [y2 _ (by rw [hk]; rfl)]
      simp
    · rw [(y1 (by rw [hk]; rfl)).1]
      simp)
  have HIW := hid (w_ok (key := key))
  rw [← hn] at HU8 HU9 l8 l9 hl1 hl2 HTK
  rw [l8] at HTK
  rw [l9] at HC9 HK9 HV9 HN9
  have HN := hid hn
  have D9 := hid d9
  have LN9 := hid l9.symm
  clear nx hq hab hA hr hg hy ho s8 s9 d8 d9 l8 l9 dA hn hsm
  generalize unT 8 zoneB A = U8 at *
  generalize unT 9 key A = U9 at *
  simp only [hdC, bdC, rtC, Option.getD, Tryz.f5]
  have x0 := cell_of_one HAB.out
  go_upto_region 24 with (go_at_call 18; refine (HU8.out _ HA.out).mono ?_; rintro e w1 ⟨a8, c8, rfl, p8, l1⟩; have P8 := hid p8; have L1 := hid l1; clear p8 l1)
  clear x0
  have HB2 := hid (belowA w1 (.cells #[.slice a8 (n + 1) c8] 26))
  have HX2 := hid (heap_alloc_new w1 (.cells #[.slice a8 (n + 1) c8] 26))
  have L2 := hid (bchS L1.out HB2.out)
  have P82 := hid (P8.out.low HB2.out)
  have HAB2 := hid ((L2.out.block _ (lt_blk HAB.out)).trans HAB.out)
  generalize w1.alloc (.cells #[.slice a8 (n + 1) c8] 26) = W2 at *
  generalize w1.heap.size = b8 at *
  have x0 := cell_of_one HAB2.out
  go_upto_region 25 with (go_at_call 18; refine (HU9.out _ (HA.out.low L2.out)).mono ?_; rintro e w3 ⟨a9, c9, rfl, p9, l3⟩; have P9 := hid p9; have L3 := hid l3; clear p9 l3)
  clear x0
  have HB4 := hid (belowA w3 (.cells #[.slice a9 (n + 1) c9] 26))
  have HX4 := hid (heap_alloc_new w3 (.cells #[.slice a9 (n + 1) c9] 26))
  have L24 := hid (bchS L3.out HB4.out)
  have L4 := hid (bchS L2.out L24.out)
  have P94 := hid (P9.out.low HB4.out)
  have P84 := hid (P82.out.low L24.out)
  have HX24 := hid ((L24.out.block _ (lt_blk HX2.out)).trans HX2.out)
  generalize w3.alloc (.cells #[.slice a9 (n + 1) c9] 26) = W4 at *
  generalize w3.heap.size = b9 at *
  have x0 := cell_of_one HX24.out
  go_upto_region 27 with (go_at_call 17; refine (HTK.out _ _ _ P84.out (HG.out.low L4.out) (HY.out.low L4.out)).mono ?_; rintro e w5 ⟨rfl, l5⟩; have L5 := hid l5; clear l5)
  clear x0
  have HX45 := hid ((L5.out.block _ (lt_blk HX4.out)).trans HX4.out)
  have L45 := hid (bchS L4.out L5.out)
  have P95 := hid (P94.out.low L5.out)
  have x0 := cell_of_one HX45.out
  go_upto_region 28 with (first
    | (go_at_call 10; refine (HC9.out _ _ _ P95.out).mono ?_; rintro e w6 ⟨a6, c6, rfl, p6, l6⟩; have P6 := hid p6; have L6 := hid l6; clear p6 l6)
    | (go_at_call 12; refine (HK9.out _ _ _ P6.out.pl (HG.out.low (bchS L45.out L6.out))).mono ?_; rintro e w7 ⟨v7, ev7, rfl, l7, hr7⟩; have R7 := hid hr7; have L7 := hid l7; clear l7 hr7))
  clear x0
  have L57 := hid (bchS L6.out L7.out)
  have L77 := hid (bchS L45.out L57.out)
  have P97 := hid (P95.out.low L57.out)
  have HX47 := hid ((L57.out.block _ (lt_blk HX45.out)).trans HX45.out)
  have ⟨m1, m2, m3, mb⟩ := alloc3 w7 (.cells #[.int .i64 0, .int .i64 1] 3) (.cells (rowW key w7.heap.size) 60) (.cells #[.slice (some ⟨w7.heap.size + 1, 0, none⟩) 3 3] 26)
  have HM1 := hid m1
  have HM2 := hid m2
  have HM3 := hid m3
  have HMB := hid mb
  clear m1 m2 m3 mb
  go_upto_region 29 with (fail)
  generalize ((w7.alloc (.cells #[.int .i64 0, .int .i64 1] 3)).alloc (.cells (rowW key w7.heap.size) 60)).alloc (.cells #[.slice (some ⟨w7.heap.size + 1, 0, none⟩) 3 3] 26) = W8 at *
  have HPW := hid (plW HM1.out HM2.out)
  have L78 := hid (bchS L77.out HMB.out)
  have P98 := hid (P97.out.low HMB.out)
  have HX48 := hid ((HMB.out.block _ (lt_blk HX47.out)).trans HX47.out)
  generalize w7.heap.size + 1 + 1 = bw at *
  generalize w7.heap.size + 1 = gw at *
  have x0 := cell_of_one HM3.out
  go_upto_region 30 with (go_at_call 12; refine (HKW.out _ _ HPW.out (HG.out.low L78.out)).mono ?_; rintro e w9 ⟨v9, ev9, rfl, l9, hr9⟩; have R9 := hid hr9; have L9 := hid l9; clear l9 hr9)
  clear x0
  have L89 := hid (bchS L78.out L9.out)
  have P99 := hid (P98.out.low L9.out)
  have HPW9 := hid (HPW.out.low L9.out)
  have HX49 := hid ((L9.out.block _ (lt_blk HX48.out)).trans HX48.out)
  have HM39 := hid ((L9.out.block _ (lt_blk HM3.out)).trans HM3.out)
  clear HU8 HU9 HTK HC9 HK9 HKW P8 P82 P84 P9 P94 P95 P97 P98 HB2 HB4 HX2 HX24 HX4 HX45 HX47 HX48 HAB HAB2 HM1 HM2 HMB L1 L2 L3 L24 L4 L45 L5 L6 L7 L57 L77 L78 HY HO HA P6 HPW HM3
  refine parts_30 (by assumption) (by kernel_rfl) (by kernel_rfl) w9 b9 bw gw (n + 1) c9 a9 U9 key ev7 ev9 HX49.out HM39.out LN9.out P99.out.pl D9.out HPW9.out (gdtW key) (fun hU hW => ?_) HQ.out (fun W' => ?_)
  · rcases ck_nil R7.out (.inl rfl) hU with ⟨e1, o1⟩ | ⟨N, f1, e1, o1⟩ <;> rcases ck_nil R9.out (.inl rfl) hW with ⟨e2, o2⟩ | ⟨M, f2, e2, o2⟩
    · exact .inl ⟨e1, e2⟩
    · have h := HIW.out.2 ((HIF.out hU).1 o1)
      rw [o2] at h
      cases h
    · have h := (HIF.out hU).2 (HIW.out.1 o2)
      rw [o1] at h
      cases h
    · exact .inr ⟨N, M, e1, e2⟩
  · intros
    exact NX.out _ (bchS L89.out (by assumption))
end Go.Proofs.YtiddnjjaidiohaaGreatDoor.L
namespace Go.Proofs.YtiddnjjaidiohaaGreatDoor.L
open Go.RowKit Go.Shelf
set_option linter.unusedVariables false
set_option maxHeartbeats 16000000 in
set_option maxRecDepth 100000 in
theorem parts_18 {C C2 C3 : Code} {K K2 : Act → World → Prop} {Q : Exit → Act → World → Prop} (hK : ∀ a w, C2.wp Tryz.prog (Exit.then K2 Q) a w → K a w) (hK2 : ∀ a w, C3.wp Tryz.prog Q a w → K2 a w) (hC : C = hdC (hdC (rtC (rtC (rtC (rtC ((bdC (hdC (rtC (bdC (bdC (rtC (hdC (rtC (rtC (rtC (Option.getD Tryz.f5.body Code.skip)))))))))))))))))) (hC2 : C2 = rtC (hdC (rtC (rtC (rtC (rtC ((bdC (hdC (rtC (bdC (bdC (rtC (hdC (rtC (rtC (rtC (Option.getD Tryz.f5.body Code.skip)))))))))))))))))) (hC3 : C3 = (rtC (rtC (rtC (rtC (rtC ((bdC (hdC (rtC (bdC (bdC (rtC (hdC (rtC (rtC (rtC (Option.getD Tryz.f5.body Code.skip)))))))))))))))))) (sc : Int) (W : World) (ab bb jb n ca m cb cj : Nat) (a b aj : Option Addr) (A B : List Pt) (va vb eb : Value) {t0 t1 t2 t5 t6 t9 t13 t14 t15 t16 t17 t18 t19 t20 t21 t22 t23 t24 t25 t26 t27 t28 t29 t30 t31 t32 t33 t34 t35 t36 t37 t38 t39 t40 t41 t42 t43 t44 t45 t46 t47 t48 t49 t50 t51 t52 t53 t54 t55 t56 t57 t58 t59 t60 t61 t62 t63 t64 t65 t66 t67 t68 t69 t70 t71 t72 t73 t74 t75 t76 t77 t78 t79 t80 t81 t82 t83 t84 t85 t86 t87 t88 t89 t90 t91 t92 t93 t94 t95 t96 t97 t98 t99 t100 t101 t102 t103 t104 t105 t106 t107 t108 t109 t110 t111 t112 t113 t114 t115 t116 t117 t118 t119 t120 t121 t122 t123 t124 t125 t126 t127 t128 t129 t130 t131 t132 t133 t134 t135 t136 t137 t138 t139 t140 t141 t142 t143 t144 t145 t146 t147 t148 t149 t150 t151 t152 t153 t154 t155 t156 t157 t158 t159 t160 t161 t162 t163 t164 t165 t166 t167 t168 t169 t170 t171 t172 t173 t174 t175 t176 t177 t178 t179 t180 t181 t182 t183 t184 t185 t186 t187 t188 t189 t190 t191 t192 t193 t194 t195 t196 t197 t198 : Value}
    (hab : W.heap[ab]? = some (.cells #[.slice a n ca] 26 (0, 0))) (hbb : W.heap[bb]? = some (.cells #[.slice b m cb] 26 (0, 0))) (hjb : W.heap[jb]? = some (.cells #[.slice aj (n + m + 1) cj] 26 (0, 0)))
    (hs : sc = 2 ∨ sc = 3) (hA : PLs W a A) (hB : PLs W b B) (hJ : PLs W aj (jnT 4 A B)) (hr : Res A 0 0) (hr2 : Res B 0 0) (hn : n = A.length) (hm : m = B.length) (hg : Gv W) (hy : TyL W va n (ovS A sc).1) (ho : (ovS A sc).2 = none)
    (he : (eb = .nilIface ∧ TyL W vb m (ovS B sc).1 ∧ (ovS B sc).2 = none) ∨ ∃ N, eb = fv N)
    (nx : ∀ (W' : World) {x129 x130 x131 x132 x133 x134 x135 x136 x137 x138 x139 x140 x141 x142 x143 x144 x145 x146 x147 x148 x149 x150 x151 x152 x153 x154 : Value}, Below W.heap.size W W' → (rtC (rtC (rtC (rtC (rtC (rtC ((bdC (hdC (rtC (bdC (bdC (rtC (hdC (rtC (rtC (rtC (Option.getD Tryz.f5.body Code.skip)))))))))))))))))).wp Tryz.prog Q { tmps := #[t0, t1, t2, .pointer (some ⟨ab, 0, none⟩), .pointer (some ⟨bb, 0, none⟩), t5, t6, .int .i64 sc, va, t9, vb, eb, .pointer (some ⟨jb, 0, none⟩), t13, t14, t15, t16, t17, t18, t19, t20, t21, t22, t23, t24, t25, t26, t27, t28, t29, t30, t31, t32, t33, t34, t35, t36, t37, t38, t39, t40, t41, t42, t43, t44, t45, t46, t47, t48, t49, t50, t51, t52, t53, t54, t55, t56, t57, t58, t59, t60, t61, t62, t63, t64, t65, t66, t67, t68, t69, t70, t71, t72, t73, t74, t75, t76, t77, t78, t79, t80, t81, t82, t83, t84, t85, t86, t87, t88, t89, t90, t91, t92, t93, t94, t95, t96, t97, t98, t99, t100, t101, t102, t103, t104, t105, t106, t107, t108, t109, t110, t111, t112, t113, t114, t115, t116, t117, t118, t119, t120, t121, t122, t123, t124, t125, t126, t127, t128, x129, x130, x131, x132, x133, x134, x135, x136, x137, x138, x139, x140, x141, x142, x143, x144, x145, x146, x147, x148, x149, x150, x151, x152, x153, x154, t155, t156, t157, t158, t159, t160, t161, t162, t163, t164, t165, t166, t167, t168, t169, t170, t171, t172, t173, t174, t175, t176, t177, t178, t179, t180, t181, t182, t183, t184, t185, t186, t187, t188, t189, t190, t191, t192, t193, t194, t195, t196, t197, t198], defers := [] } W') :
    Code.wp Tryz.prog C (Exit.then K (Exit.then K2 Q)) { tmps := #[t0, t1, t2, .pointer (some ⟨ab, 0, none⟩), .pointer (some ⟨bb, 0, none⟩), t5, t6, .int .i64 sc, va, t9, vb, eb, .pointer (some ⟨jb, 0, none⟩), t13, t14, t15, t16, t17, t18, t19, t20, t21, t22, t23, t24, t25, t26, t27, t28, t29, t30, t31, t32, t33, t34, t35, t36, t37, t38, t39, t40, t41, t42, t43, t44, t45, t46, t47, t48, t49, t50, t51, t52, t53, t54, t55, t56, t57, t58, t59, t60, t61, t62, t63, t64, t65, t66, t67, t68, t69, t70, t71, t72, t73, t74, t75, t76, t77, t78, t79, t80, t81, t82, t83, t84, t85, t86, t87, t88, t89, t90, t91, t92, t93, t94, t95, t96, t97, t98, t99, t100, t101, t102, t103, t104, t105, t106, t107, t108, t109, t110, t111, t112, t113, t114, t115, t116, t117, t118, t119, t120, t121, t122, t123, t124, t125, t126, t127, t128, t129, t130, t131, t132, t133, t134, t135, t136, t137, t138, t139, t140, t141, t142, t143, t144, t145, t146, t147, t148, t149, t150, t151, t152, t153, t154, t155, t156, t157, t158, t159, t160, t161, t162, t163, t164, t165, t166, t167, t168, t169, t170, t171, t172, t173, t174, t175, t176, t177, t178, t179, t180, t181, t182, t183, t184, t185, t186, t187, t188, t189, t190, t191, t192, t193, t194, t195, t196, t197, t198], defers := [] } W := by
  subst hC hC2 hC3
  have NX := hid nx
  have HAB := hid hab
  have HBB := hid hbb
  have HJB := hid hjb
  have HA := hid hA
  have HB := hid hB
  have HJ := hid hJ
  have HG := hid hg
  have HY := hid hy
  have HE := hid he
  have hsm := res_small hr
  have hsm2 := res_small hr2
  have ⟨hl1, hl2, k1, _⟩ := res_ok hr
  have ⟨hl3, hl4, k2, _⟩ := res_ok hr2
  have dA := gdt_of (T := A) (by omega)
  have dB := gdt_of (T := B) (by omega)
  have HU3 := hid (fun W h => under_any 3 ⟨#[]⟩ a A ca W h dA (by omega) hl1)
  have HJ5 := hid (fun W h1 h2 => joinedT_any 5 b a B A cb ca W h1 h2 (gds_of k2 hl4) (gds_of k1 hl2) hl3 hl1 dB dA (by omega) (by omega))
  have s3 := un_sum 3 ⟨#[]⟩ A
  have s4 := jn_sum 4 A B
  have s5 := jn_sum 5 B A
  have l3 := un_len 3 ⟨#[]⟩ A
  have l4 := jn_len 4 A B
  have l5 := jn_len 5 B A
  have d3 := gdt_of (T := unT 3 ⟨#[]⟩ A) (by omega)
  have d4 := gdt_of (T := jnT 4 A B) (by omega)
  have d5 := gdt_of (T := jnT 5 B A) (by omega)
  have e3 : scpO 3 sc = sc := rfl
  have HT3 := hid (fun a' cap' W h1 h2 h3 => taken_any a' (unT 3 ⟨#[]⟩ A) cap' sc va (.slice none 0 0) A.length 0 (ovS A sc).1 (fun _ => (0, 0)) W h1 d3 (by omega) h2 h3 (tyl_nil _ _) (by omega) (by omega) (fun hU => by
    obtain ⟨y1, y2⟩ := (un_ok (k := 3) (tx := ⟨#[]⟩) (sc := sc) hr hU (by decide) (by rw [e3]; exact ho)).1 (asO_top (.inl rfl) sc _ _)
    rw [e3] at y2
    exact ⟨hs, y1, by rw [un_len], y2, fun j hj => absurd hj (Nat.not_lt_zero j)⟩))
  have HT4 := hid (fun (hm2 : (ovS B sc).2 = none) cap' W h1 h2 h3 h4 => taken_any aj (jnT 4 A B) cap' sc va vb A.length B.length (ovS A sc).1 (ovS B sc).1 W h1 d4 (by omega) h2 h3 h4 (by omega) (by omega) (fun hU => by
    obtain ⟨y1, y2, y3⟩ := jn_ok hr hr2 hU (.inl rfl) ho hm2
    exact ⟨hs, y1, by rw [jn_len], y2, y3⟩))
  have HT5 := hid (fun (hm2 : (ovS B sc).2 = none) a' cap' W h1 h2 h3 h4 => taken_any a' (jnT 5 B A) cap' sc vb va B.length A.length (ovS B sc).1 (ovS A sc).1 W h1 d5 (by omega) h2 h3 h4 (by omega) (by omega) (fun hU => by
    obtain ⟨y1, y2, y3⟩ := jn_ok hr2 hr hU (.inr rfl) hm2 ho
    exact ⟨hs, y1, by rw [jn_len], y2, y3⟩))
  rw [l3] at HT3
  rw [l4] at HT4
  rw [l5] at HT5
  rw [← hn] at HU3 HT3 HT4 HT5 HJ5
  rw [← hm] at HT4 HT5 HJ5
  have T0 := And.intro (cell_of_one hab) (And.intro (cell_of_one hbb) (cell_of_one hjb))
  have hla := lt_blk hab
  have hlb := lt_blk hbb
  have hlj := lt_blk hjb
  clear nx hab hbb hjb hA hB hJ hr hr2 hg hy ho he s3 s4 s5 l3 l4 l5 d3 d4 d5 dA dB hn hm hsm hsm2 hl1 hl2 hl3 hl4 k1 k2 e3
  generalize unT 3 ⟨#[]⟩ A = U3 at *
  generalize jnT 4 A B = U4 at *
  generalize jnT 5 B A = U5 at *
  have sf5 : (rtC (rtC (rtC (rtC (rtC ((bdC (hdC (rtC (bdC (bdC (rtC (hdC (rtC (rtC (rtC (Option.getD Tryz.f5.body Code.skip))))))))))))))))) = Code.seq (hdC (rtC (rtC (rtC (rtC (rtC ((bdC (hdC (rtC (bdC (bdC (rtC (hdC (rtC (rtC (rtC (Option.getD Tryz.f5.body Code.skip)))))))))))))))))) (rtC (rtC (rtC (rtC (rtC (rtC ((bdC (hdC (rtC (bdC (bdC (rtC (hdC (rtC (rtC (rtC (Option.getD Tryz.f5.body Code.skip)))))))))))))))))) := by kernel_rfl
  rw [sf5] at hK2
  clear sf5
  generalize (rtC (rtC (rtC (rtC (rtC (rtC ((bdC (hdC (rtC (bdC (bdC (rtC (hdC (rtC (rtC (rtC (Option.getD Tryz.f5.body Code.skip)))))))))))))))))) = T6 at *
  simp only [hdC, bdC, rtC, Option.getD, Tryz.f5] at hK hK2 ⊢
  have HK2 := hid hK2
  clear hK2
  have x0 := T0.1
  go_upto_region 20 with (first
    | (go_at_call 18; refine (HU3.out _ HA.out).mono ?_; rintro e w1 ⟨a3, c3, rfl, p3, l1⟩; have P3 := hid p3; have L1 := hid l1; clear p3 l1)
    | (go_at_call 17; refine (HT3.out _ _ _ P3.out (HG.out.low L1.out) (HY.out.low L1.out)).mono ?_; rintro e w2 ⟨rfl, l2⟩; have L2 := hid (bchS L1.out l2); clear l2))
  refine HK2.out _ _ ?_
  clear x0
  have T2 := And.intro ((L2.out.cell (p := ⟨ab, 0, none⟩) hla).trans T0.1) (And.intro ((L2.out.cell (p := ⟨bb, 0, none⟩) hlb).trans T0.2.1) ((L2.out.cell (p := ⟨jb, 0, none⟩) hlj).trans T0.2.2))
  clear T0
  rcases HE.out with ⟨rfl, hy2, ho2⟩ | ⟨N, rfl⟩
  · have HY2 := hid hy2
    have HO2 := hid ho2
    clear hy2 ho2 HE
    have x0 := T2.1
    have x1 := T2.2.1
    have x2 := T2.2.2
    clear T2
    go_wp2_with (first
      | (go_at_call 16; refine (HJ5.out _ (HB.out.low L3.out) (HA.out.low L3.out)).mono ?_; rintro e w4 ⟨a5, c5, rfl, p5, l4⟩; have P5 := hid p5; have L4 := hid (bchS L3.out l4); clear p5 l4)
      | (go_at_call 17; refine (HT5.out HO2.out _ _ _ P5.out (HG.out.low L4.out) (HY2.out.low L4.out) (HY.out.low L4.out)).mono ?_; rintro e w5 ⟨rfl, l5⟩; have L5 := hid (bchS L4.out l5); clear l5)
      | (go_at_call 17; refine (HT4.out HO2.out _ _ (HJ.out.low L2.out) (HG.out.low L2.out) (HY.out.low L2.out) (HY2.out.low L2.out)).mono ?_; rintro e w3 ⟨rfl, l3⟩; have L3 := hid (bchS L2.out l3); have x3 := (l3.cell (p := ⟨ab, 0, none⟩) (Nat.lt_of_lt_of_le hla L2.out.size)).trans x0; have x4 := (l3.cell (p := ⟨bb, 0, none⟩) (Nat.lt_of_lt_of_le hlb L2.out.size)).trans x1; clear l3))
    exact NX.out _ L5.out
  · simp only [fv]
    clear HE
    have x0 := T2.1
    have x1 := T2.2.1
    have x2 := T2.2.2
    clear T2
    go_wp2_with (fail)
    exact NX.out _ L2.out
end Go.Proofs.YtiddnjjaidiohaaGreatDoor.L
