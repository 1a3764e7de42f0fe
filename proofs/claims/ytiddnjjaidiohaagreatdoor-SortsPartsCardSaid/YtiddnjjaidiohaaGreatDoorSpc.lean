import Derived.Test.YtiddnjjaidiohaaGreatDoorSpb
namespace Go.Proofs.YtiddnjjaidiohaaGreatDoor.L
open Go.RowKit Go.Shelf
set_option linter.unusedVariables false
theorem tyl_of {W : World} {base gt N : Nat} {ty : Nat → Int × Int} (h : TyO W base gt N ty) (c : Nat) : TyL W (.slice (some ⟨gt, 0, none⟩) N c) N ty := by
  have := h.cut (o := 0) (n := N) (c := c) (ty' := ty) (by omega) (fun j _ => by rw [Nat.zero_add])
  simpa using this
/-- The error of Check at a tree that is read: its fault. -/
theorem ck_flt {T : List Pt} {sc : Int} {B : Nat} {W : World} {v ev : Value} (h : CkR T sc B W v ev) (hs : sc = 2 ∨ sc = 3) (hr : Res T 0 0) :
    (∃ gt, ev = .nilIface ∧ v = .slice (some ⟨gt, 0, none⟩) T.length T.length ∧ (ovS T sc).2 = none ∧ TyL W v T.length (ovS T sc).1) ∨ ∃ (N c : Nat) (i : Int), ev = fv N ∧ (ovS T sc).2 = some (c, i) ∧ Flt W N c i := by
  rcases h with ⟨rfl, _, _, gt, rfl, hn, ht⟩ | ⟨_, M, rfl, hf⟩
  · exact .inl ⟨gt, rfl, rfl, hn, tyl_of ht _⟩
  · rcases hf with ⟨⟨h2, h3⟩, _⟩ | ⟨_, ⟨M', c', i', _, _, hr2, h0⟩ | ⟨_, c', a', ho2, hf2⟩⟩
    · rcases hs with h | h
      · exact absurd h h2
      · exact absurd h h3
    · exact absurd (res_one hr2 hr).1 h0
    · exact .inr ⟨M, c', a', rfl, ho2, hf2⟩
set_option maxHeartbeats 16000000 in
set_option maxRecDepth 100000 in
theorem parts_8 {C C2 : Code} {K : Act → World → Prop} {Q : Exit → Act → World → Prop} (hK : ∀ a w, C2.wp Tryz.prog Q a w → K a w) (hC : C = hdC (bdC (hdC (rtC (bdC (bdC (rtC (hdC (rtC (rtC (rtC (Option.getD Tryz.f5.body Code.skip)))))))))))) (hC2 : C2 = rtC (bdC (hdC (rtC (bdC (bdC (rtC (hdC (rtC (rtC (rtC (Option.getD Tryz.f5.body Code.skip)))))))))))) (sc : Int) (W : World) (ab bb n ca m cb : Nat) (a b : Option Addr) (A B : List Pt) (key : ByteArray) {t0 t1 t5 t6 t8 t9 t10 t11 t12 t13 t14 t15 t16 t17 t18 t19 t20 t21 t22 t23 t24 t25 t26 t27 t28 t29 t30 t31 t32 t33 t34 t35 t36 t37 t38 t39 t40 t41 t42 t43 t44 t45 t46 t47 t48 t49 t50 t51 t52 t53 t54 t55 t56 t57 t58 t59 t60 t61 t62 t63 t64 t65 t66 t67 t68 t69 t70 t71 t72 t73 t74 t75 t76 t77 t78 t79 t80 t81 t82 t83 t84 t85 t86 t87 t88 t89 t90 t91 t92 t93 t94 t95 t96 t97 t98 t99 t100 t101 t102 t103 t104 t105 t106 t107 t108 t109 t110 t111 t112 t113 t114 t115 t116 t117 t118 t119 t120 t121 t122 t123 t124 t125 t126 t127 t128 t129 t130 t131 t132 t133 t134 t135 t136 t137 t138 t139 t140 t141 t142 t143 t144 t145 t146 t147 t148 t149 t150 t151 t152 t153 t154 t155 t156 t157 t158 t159 t160 t161 t162 t163 t164 t165 t166 t167 t168 t169 t170 t171 t172 t173 t174 t175 t176 t177 t178 t179 t180 t181 t182 t183 t184 t185 t186 t187 t188 t189 t190 t191 t192 t193 t194 t195 t196 t197 t198 : Value}
    (hab : W.heap[ab]? = some (.cells #[.slice a n ca] 26 (0, 0))) (hbb : W.heap[bb]? = some (.cells #[.slice b m cb] 26 (0, 0)))
    (hs : sc = 2 ∨ sc = 3) (hA : PLs W a A) (hB : PLs W b B) (hr : Res A 0 0) (hr2 : Res B 0 0) (hn : n = A.length) (hm : m = B.length) (hg : Gv W)
    (hq : ∀ c a a' w, Q (.panic c) a w → Q (.panic c) a' w)
    (nx : ∀ (W' : World) {x8 x9 x10 x11 x12 x13 x14 x15 x16 x17 x18 x19 x20 x21 x22 x23 x24 x25 x54 x55 x56 x57 x58 x59 x60 x61 x62 x63 x64 x65 x66 x67 x68 x69 x70 x71 x72 x73 x74 x75 x76 x77 x78 x79 x80 x81 x82 x83 x84 x85 x86 x87 x88 x89 x90 x91 x92 x93 x94 x95 x96 x97 x98 x99 x100 x101 x102 x103 x104 x105 x106 x107 x108 x109 x110 x111 x112 x113 x114 x115 x116 x117 x118 x119 x120 x121 x122 x123 x124 x125 x126 x127 x128 x129 x130 x131 x132 x133 x134 x135 x136 x137 x138 x139 x140 x141 x142 x143 x144 x145 x146 x147 x148 x149 x150 x151 x152 x153 x154 x155 x156 x157 x158 x159 x160 x161 x162 x163 x164 x165 x166 x167 x168 x169 x170 x171 x172 x173 x174 x175 x176 x177 x178 x179 x180 x181 x182 x183 x184 x185 x186 x187 x188 x189 x190 x191 x192 x193 x194 x195 x196 x197 x198 : Value}, Below W.heap.size W W' → Q Exit.normal { tmps := #[t0, t1, .string key, .pointer (some ⟨ab, 0, none⟩), .pointer (some ⟨bb, 0, none⟩), t5, t6, .int .i64 sc, x8, x9, x10, x11, x12, x13, x14, x15, x16, x17, x18, x19, x20, x21, x22, x23, x24, x25, t26, t27, t28, t29, t30, t31, t32, t33, t34, t35, t36, t37, t38, t39, t40, t41, t42, t43, t44, t45, t46, t47, t48, t49, t50, t51, t52, t53, x54, x55, x56, x57, x58, x59, x60, x61, x62, x63, x64, x65, x66, x67, x68, x69, x70, x71, x72, x73, x74, x75, x76, x77, x78, x79, x80, x81, x82, x83, x84, x85, x86, x87, x88, x89, x90, x91, x92, x93, x94, x95, x96, x97, x98, x99, x100, x101, x102, x103, x104, x105, x106, x107, x108, x109, x110, x111, x112, x113, x114, x115, x116, x117, x118, x119, x120, x121, x122, x123, x124, x125, x126, x127, x128, x129, x130, x131, x132, x133, x134, x135, x136, x137, x138, x139, x140, x141, x142, x143, x144, x145, x146, x147, x148, x149, x150, x151, x152, x153, x154, x155, x156, x157, x158, x159, x160, x161, x162, x163, x164, x165, x166, x167, x168, x169, x170, x171, x172, x173, x174, x175, x176, x177, x178, x179, x180, x181, x182, x183, x184, x185, x186, x187, x188, x189, x190, x191, x192, x193, x194, x195, x196, x197, x198], defers := [] } W' ∧ Q (Exit.exit 1) { tmps := #[t0, t1, .string key, .pointer (some ⟨ab, 0, none⟩), .pointer (some ⟨bb, 0, none⟩), t5, t6, .int .i64 sc, x8, x9, x10, x11, x12, x13, x14, x15, x16, x17, x18, x19, x20, x21, x22, x23, x24, x25, t26, t27, t28, t29, t30, t31, t32, t33, t34, t35, t36, t37, t38, t39, t40, t41, t42, t43, t44, t45, t46, t47, t48, t49, t50, t51, t52, t53, x54, x55, x56, x57, x58, x59, x60, x61, x62, x63, x64, x65, x66, x67, x68, x69, x70, x71, x72, x73, x74, x75, x76, x77, x78, x79, x80, x81, x82, x83, x84, x85, x86, x87, x88, x89, x90, x91, x92, x93, x94, x95, x96, x97, x98, x99, x100, x101, x102, x103, x104, x105, x106, x107, x108, x109, x110, x111, x112, x113, x114, x115, x116, x117, x118, x119, x120, x121, x122, x123, x124, x125, x126, x127, x128, x129, x130, x131, x132, x133, x134, x135, x136, x137, x138, x139, x140, x141, x142, x143, x144, x145, x146, x147, x148, x149, x150, x151, x152, x153, x154, x155, x156, x157, x158, x159, x160, x161, x162, x163, x164, x165, x166, x167, x168, x169, x170, x171, x172, x173, x174, x175, x176, x177, x178, x179, x180, x181, x182, x183, x184, x185, x186, x187, x188, x189, x190, x191, x192, x193, x194, x195, x196, x197, x198], defers := [] } W') :
    Code.wp Tryz.prog C (Exit.then K Q) { tmps := #[t0, t1, .string key, .pointer (some ⟨ab, 0, none⟩), .pointer (some ⟨bb, 0, none⟩), t5, t6, .int .i64 sc, t8, t9, t10, t11, t12, t13, t14, t15, t16, t17, t18, t19, t20, t21, t22, t23, t24, t25, t26, t27, t28, t29, t30, t31, t32, t33, t34, t35, t36, t37, t38, t39, t40, t41, t42, t43, t44, t45, t46, t47, t48, t49, t50, t51, t52, t53, t54, t55, t56, t57, t58, t59, t60, t61, t62, t63, t64, t65, t66, t67, t68, t69, t70, t71, t72, t73, t74, t75, t76, t77, t78, t79, t80, t81, t82, t83, t84, t85, t86, t87, t88, t89, t90, t91, t92, t93, t94, t95, t96, t97, t98, t99, t100, t101, t102, t103, t104, t105, t106, t107, t108, t109, t110, t111, t112, t113, t114, t115, t116, t117, t118, t119, t120, t121, t122, t123, t124, t125, t126, t127, t128, t129, t130, t131, t132, t133, t134, t135, t136, t137, t138, t139, t140, t141, t142, t143, t144, t145, t146, t147, t148, t149, t150, t151, t152, t153, t154, t155, t156, t157, t158, t159, t160, t161, t162, t163, t164, t165, t166, t167, t168, t169, t170, t171, t172, t173, t174, t175, t176, t177, t178, t179, t180, t181, t182, t183, t184, t185, t186, t187, t188, t189, t190, t191, t192, t193, t194, t195, t196, t197, t198], defers := [] } W := by
  subst hC hC2
  have NX := hid nx
  have HQ := hid hq
  have HAB := hid hab
  have HBB := hid hbb
  have HA := hid hA
  have HB := hid hB
  have HG := hid hg
  have HR := hid hr
  have HR2 := hid hr2
  have HN := hid hn
  have HM := hid hm
  have HS := hid hs
  have hsm := res_small hr
  have hsm2 := res_small hr2
  have ⟨hl1, hl2, k1, _⟩ := res_ok hr
  have ⟨hl3, hl4, k2, _⟩ := res_ok hr2
  have dA := gdt_of (T := A) (by omega)
  have dB := gdt_of (T := B) (by omega)
  have HCA := hid (fun W h => copied_pl a A ca W h dA (by omega))
  have HCB := hid (fun W h => copied_pl b B cb W h dB (by omega))
  have HKA := hid (fun a' cap' W h1 h2 => check_any a' A cap' sc W h1 dA h2)
  have HKB := hid (fun a' cap' W h1 h2 => check_any a' B cap' sc W h1 dB h2)
  have HJ4 := hid (fun W h1 h2 => joinedT_any 4 a b A B ca cb W h1 h2 (gds_of k1 hl2) (gds_of k2 hl4) hl1 hl3 dA dB (by omega) (by omega))
  rw [← hn] at HCA HKA HJ4
  rw [← hm] at HCB HKB HJ4
  have x0 := cell_of_one hab
  clear nx hq hab hbb hA hB hr hr2 hg hn hm hs hsm hsm2 hl1 hl2 hl3 hl4 k1 k2 dA dB
  simp only [hdC, bdC, rtC, Option.getD, Tryz.f5] at hK ⊢
  go_upto_region 9 with (first
    | (go_at_call 10; refine (HCA.out _ HA.out).mono ?_; rintro e w1 ⟨a1, c1, rfl, p1, l1⟩; have P1 := hid p1; have L1 := hid l1; clear p1 l1)
    | (go_at_call 12; refine (HKA.out _ _ _ P1.out.pl (HG.out.low L1.out)).mono ?_; rintro e w2 ⟨va, ea, rfl, l2, hr2⟩; have L2 := hid (bchS L1.out l2); have R2 := hid hr2; clear l2 hr2))
  clear x0
  have x0 := cell_of_one ((L2.out.block _ (lt_blk HBB.out)).trans HBB.out)
  go_upto_region 10 with (first
    | (go_at_call 10; refine (HCB.out _ (HB.out.low L2.out)).mono ?_; rintro e w3 ⟨a3, c3, rfl, p3, l3⟩; have P3 := hid p3; have L23 := hid l3; have L3 := hid (bchS L2.out l3); clear p3 l3)
    | (go_at_call 12; refine (HKB.out _ _ _ P3.out.pl (HG.out.low L3.out)).mono ?_; rintro e w4 ⟨vb, eb, rfl, l4, hr4⟩; have L24 := hid (bchS L23.out l4); have L4 := hid (bchS L3.out l4); have R4 := hid hr4; clear l4 hr4))
  clear x0
  have x0 := cell_of_one ((L4.out.block _ (lt_blk HAB.out)).trans HAB.out)
  have x1 := cell_of_one ((L4.out.block _ (lt_blk HBB.out)).trans HBB.out)
  go_upto_region 11 with (go_at_call 16; refine (HJ4.out _ (HA.out.low L4.out) (HB.out.low L4.out)).mono ?_; rintro e w5 ⟨aj, cj, rfl, pj, l5⟩; have PJ := hid pj; have L45 := hid l5; clear pj l5)
  clear x0 x1
  have HB6 := hid (belowA w5 (.cells #[.slice aj (n + m + 1) cj] 26))
  have HJB := hid (heap_alloc_new w5 (.cells #[.slice aj (n + m + 1) cj] 26))
  have L46 := hid (bchS L45.out HB6.out)
  have L26 := hid (bchS L24.out L46.out)
  have L6 := hid (bchS L4.out L46.out)
  have PJ6 := hid (PJ.out.low HB6.out)
  generalize w5.alloc (.cells #[.slice aj (n + m + 1) cj] 26) = W6 at *
  generalize w5.heap.size = jb at *
  have HXA := hid ((L6.out.block _ (lt_blk HAB.out)).trans HAB.out)
  have HXB := hid ((L6.out.block _ (lt_blk HBB.out)).trans HBB.out)
  have HEB := hid (show (eb = .nilIface ∧ TyL W6 vb m (ovS B sc).1 ∧ (ovS B sc).2 = none) ∨ ∃ N, eb = fv N from by
    rcases ck_flt R4.out HS.out HR2.out with ⟨gt, e1, e2, h1, h2⟩ | ⟨N, c, i, e1, _⟩
    · rw [← HM.out] at h2
      exact .inl ⟨e1, h2.low L46.out, h1⟩
    · exact .inr ⟨N, e1⟩)
  clear HCA HCB HKA HKB HJ4 R4
  rcases ck_flt R2.out HS.out HR.out with ⟨gt, rfl, rfl, hn2, hty⟩ | ⟨N, c, i, rfl, hn2, hf⟩
  · have HN2 := hid hn2
    rw [← HN.out] at hty
    have HTY := hid (hty.low L26.out)
    have hnn := HN.out
    rw [← hnn] at *
    clear hn2 hty R2 hnn
    go_upto_region 18 with (fail)
    refine parts_18 (by assumption) (by assumption) (by kernel_rfl) (by kernel_rfl) (by kernel_rfl) sc W6 ab bb jb n ca m cb cj a b aj A B _ vb eb HXA.out HXB.out HJB.out HS.out (HA.out.low L6.out) (HB.out.low L6.out) PJ6.out HR.out HR2.out HN.out HM.out (HG.out.low L6.out) HTY.out HN2.out HEB.out (fun W7 => ?_)
    intros
    rename_i l7
    have L67 := hid l7
    have L7 := hid (bchS L6.out l7)
    clear l7
    rcases HS.out with rfl | rfl
    · simp only [hdC, bdC, rtC, Option.getD, Tryz.f5]
      go_wp2_with (fail)
      exact (NX.out _ L7.out).1
    · refine parts_22 W7 ab n ca n a (some ⟨gt, 0, none⟩) A key Q ((L67.out.block _ (lt_blk HXA.out)).trans HXA.out) (HA.out.low L7.out) HR.out HN.out (HG.out.low L7.out) (HTY.out.low L67.out) HN2.out HQ.out (fun W8 => ?_)
      intros
      rename_i l8
      exact (NX.out _ (bchS L7.out l8)).1
  · have HN2 := hid hn2
    have HF := hid (hf.low L26.out)
    clear hn2 hf R2
    simp only [fv]
    go_upto_region 12 with (fail)
    refine parts_12 (by assumption) (by kernel_rfl) (by kernel_rfl) sc W6 N c jb (n + m + 1) cj i aj A B HJB.out (by rw [HN.out, HM.out]) HS.out PJ6.out HR.out HR2.out (HG.out.low L6.out) HF.out HN2.out (fun c a a' w h => HQ.out c a a' w h) (fun W7 => ?_)
    intros
    rename_i l7
    exact (NX.out _ (bchS L6.out l7)).2
end Go.Proofs.YtiddnjjaidiohaaGreatDoor.L
