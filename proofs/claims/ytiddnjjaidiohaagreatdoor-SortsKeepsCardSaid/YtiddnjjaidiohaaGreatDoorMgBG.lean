import Derived.Test.YtiddnjjaidiohaaGreatDoorKh
import Derived.Test.YtiddnjjaidiohaaGreatDoorMgBE
import Derived.Test.YtiddnjjaidiohaaGreatDoorMgBF
import Derived.Test.YtiddnjjaidiohaaGreatDoorRows
import Derived.Test.YtiddnjjaidiohaaGreatDoorTie
import Derived.Test.YtiddnjjaidiohaaGreatDoorCards
import Derived.Test.YtiddnjjaidiohaaGreatDoorMgAS
import Derived.ProofKit
import Derived.LaidMore
import Derived.LaidLaws
import Derived.LaidSub
import Derived.OpenShut
import Derived.SizedLaws
import Derived.Deep.DeepHandedRow
import Derived.Deep.Slices
import Derived.Lib.SmallJoins
import Derived.Lib.LaidTab
import Derived.SevenTiedAt
import Derived.Test.YtiddnjjaidiohaaGreatDoorMgAM
import Derived.LaidHandle
import Derived.Lay
namespace Go.Proofs.YtiddnjjaidiohaaGreatDoor.L.Kp
open Go.RowKit Go.Shelf
set_option linter.unusedVariables false
set_option linter.unusedSimpArgs false
set_option maxHeartbeats 4000000 in
theorem keeps_rest (w : World) (base tb fb mb gr : Nat) (a a2 : Option Addr) (n cap mc : Nat) (fc fi fz sc : Int) (vw : Value) (T : List Pt) (X W0 : World) (ks : Nat → Value) (xs : List Value) {t0 t3 t4 t9 t10 t11 t12 t13 t14 t15 t16 t17 t18 t19 t20 t21 t22 t23 t24 t25 t26 t27 t28 t29 t30 t31 t32 t33 t34 t35 t36 t37 t38 t39 t40 t41 t42 t43 t44 t45 t46 t47 t48 t49 t50 t51 t52 t53 t54 t55 t56 t57 t58 t59 t60 t61 t62 t63 t64 t65 t66 t67 t68 t69 t70 t71 t72 t73 t74 t75 t76 t77 t78 t79 t80 t81 t82 t83 t84 t85 t86 t87 t88 t89 t90 t91 t92 t93 t94 t95 t96 t97 t98 t99 t100 t101 t102 t103 t104 t105 t106 t107 t108 t109 t110 t111 t112 t113 t114 t115 t116 t117 t118 t119 t120 t121 t122 t123 t124 t125 t126 t127 t128 t129 t130 t131 t132 t133 t134 t135 t136 t137 t138 t139 t140 t141 t142 t143 t144 t145 t146 t147 t148 t149 t150 t151 t152 t153 t154 t155 t156 t157 t158 t159 t160 t161 t162 t163 t164 t165 t166 t167 t168 t169 t170 t171 t172 t173 t174 t175 t176 t177 t178 t179 t180 t181 t182 t183 t184 t185 t186 t187 t188 t189 t190 t191 t192 t193 t194 t195 t196 t197 t198 t199 t200 t201 t202 t203 t204 t205 t206 t207 t208 t209 t210 t211 t212 t213 t214 t215 t216 t217 t218 t219 t220 t221 t222 t223 t224 t225 t226 t227 t228 t229 t230 t231 t232 t233 t234 t235 t236 t237 t238 t239 t240 t241 t242 t243 t244 t245 t246 t247 t248 t249 t250 t251 t252 t253 t254 t255 t256 t257 t258 t259 t260 t261 t262 t263 t264 t265 t266 t267 t268 t269 t270 t271 t272 t273 t274 t275 t276 t277 t278 t279 t280 t281 t282 t283 t284 t285 t286 t287 t288 t289 t290 t291 t292 t293 t294 : Value}
    (hlow : Below w.heap.size w X) (hbse : w.heap.size ≤ base) (htb : X.heap[tb]? = some (.cells #[.slice a n cap] 26 (0, 0))) (htl : tb < base) (hfb : X.heap[fb]? = some (.cells #[.int .i64 fc, .int .i64 fi, .int .i64 fz] 33 (0, 0))) (hfl : fb < base)
    (hx : X.heap[mb]? = some (.cells #[.slice a2 n mc] 26 (0, 0))) (hsrc : PLs w a T) (hM : OwnP X base (.slice a2 n mc) T ks n) (hR : X.ownsRow base 58 1 (.slice (some ⟨gr, 0, none⟩) n n) n xs) (hn : n = T.length) (hs : sumK T T.length ≤ 100000)
    (hw0 : RkR T sc W0 vw (.agg #[.int .i64 fc, .int .i64 fi, .int .i64 fz])) (hb0 : Below W0.heap.size W0 X) (hwb : W0.heap.size ≤ base) (hgv : Gv w) :
    Code.wp Tryz.prog (rtC (rtC (rtC (rtC (rtC (rtC (Option.getD Tryz.f7.body Code.skip))))))) (bodyPost Tryz.prog Tryz.f7 (fun e w' => e = .returned (.bool true) ∧ Below w.heap.size w w')) { tmps := #[t0, .int .i64 sc, .pointer (some ⟨tb, 0, none⟩), t3, t4, vw, .pointer (some ⟨fb, 0, none⟩), .pointer (some ⟨mb, 0, none⟩), .slice (some ⟨gr, 0, none⟩) n n, t9, t10, t11, t12, t13, t14, t15, t16, t17, t18, t19, t20, t21, t22, t23, t24, t25, t26, t27, t28, t29, t30, t31, t32, t33, t34, t35, t36, t37, t38, t39, t40, t41, t42, t43, t44, t45, t46, t47, t48, t49, t50, t51, t52, t53, t54, t55, t56, t57, t58, t59, t60, t61, t62, t63, t64, t65, t66, t67, t68, t69, t70, t71, t72, t73, t74, t75, t76, t77, t78, t79, t80, t81, t82, t83, t84, t85, t86, t87, t88, t89, t90, t91, t92, t93, t94, t95, t96, t97, t98, t99, t100, t101, t102, t103, t104, t105, t106, t107, t108, t109, t110, t111, t112, t113, t114, t115, t116, t117, t118, t119, t120, t121, t122, t123, t124, t125, t126, t127, t128, t129, t130, t131, t132, t133, t134, t135, t136, t137, t138, t139, t140, t141, t142, t143, t144, t145, t146, t147, t148, t149, t150, t151, t152, t153, t154, t155, t156, t157, t158, t159, t160, t161, t162, t163, t164, t165, t166, t167, t168, t169, t170, t171, t172, t173, t174, t175, t176, t177, t178, t179, t180, t181, t182, t183, t184, t185, t186, t187, t188, t189, t190, t191, t192, t193, t194, t195, t196, t197, t198, t199, t200, t201, t202, t203, t204, t205, t206, t207, t208, t209, t210, t211, t212, t213, t214, t215, t216, t217, t218, t219, t220, t221, t222, t223, t224, t225, t226, t227, t228, t229, t230, t231, t232, t233, t234, t235, t236, t237, t238, t239, t240, t241, t242, t243, t244, t245, t246, t247, t248, t249, t250, t251, t252, t253, t254, t255, t256, t257, t258, t259, t260, t261, t262, t263, t264, t265, t266, t267, t268, t269, t270, t271, t272, t273, t274, t275, t276, t277, t278, t279, t280, t281, t282, t283, t284, t285, t286, t287, t288, t289, t290, t291, t292, t293, t294], defers := [] } X := by
  have hG : GdT T := gdt_of hs
  obtain ⟨TT, hT1, hT2, hT3⟩ := types_one T sc
  have hbX : base ≤ X.heap.size := by have := row_lt hR rfl; omega
  refine seg_6 w base tb fb mb gr a a2 n cap mc fc fi fz sc vw T X ks xs hx hM hR hn hs ?_
  intro W1 ks1 xs1
  intros
  rename_i hk
  have hB1 : Below base X W1 := hk.but.below hbX (fun k e => (row_lt hM.row e).1) (fun k e => by cases e; exact (row_lt hR rfl).1)
  have K1 : Kst w W1 base tb fb mb gr a a2 n cap mc fc fi fz T ks1 xs1 := ⟨hlow.trans (hB1.mono hbse), hbse, (hB1.block _ htl).trans htb, (hB1.block _ hfl).trans hfb, (hk.but.block mb (lt_blk hx) (fun e => by
      cases a2 with
      | none => cases e
      | some ad =>
        obtain ⟨gp, go, gs⟩ := ad
        have h1 := hM.row
        rcases h1.2 with ⟨e1, _⟩ | ⟨g, c1, cur, e1, _⟩
        · cases e1
        · cases e1
          exact blk_ne hM.row hx (by decide) (by simpa [Value.ownBlock] using e)) (fun e => blk_ne hR hx (by decide) (by simpa using e))).trans hx, hsrc, hk.mine, hk.room, hk.rows, hk.cut, hn⟩
  have hb1 : Below W0.heap.size W0 W1 := hb0.trans (hB1.mono hwb)
  refine seg_7 w base tb fb mb gr a a2 n cap mc fc fi fz sc vw T W1 ks1 xs1 K1 W0 hw0 hb1 hG hgv TT hT1 hT2 ?_
  intro W2 ga gc fl
  intros
  rename_i hF hB2
  refine seg_9 w base tb fb mb gr a a2 n cap mc fc fi fz sc vw T W2 W1 ks1 xs1 ga gc fl K1 W0 hw0 hb1 hG hgv TT hT1 hT3 hF hB2 ?_
  intro W3
  intros
  rename_i hB3
  refine seg_11 w base tb fb mb gr a a2 n cap mc fc fi fz sc vw T W3 ks1 xs1 (K1.below hB3) hs ?_
  intro W4
  intros
  rename_i hB4
  have hB14 := bchS hB3 hB4
  refine seg_12 w base tb fb mb gr a a2 n cap mc fc fi fz sc vw T W4 ks1 xs1 (K1.below hB14) W0 hw0 (bchS hb1 hB14) hG hgv ?_
  intro W5
  intros
  rename_i hB5
  have hB15 := bchS hB14 hB5
  refine seg_14 w base tb fb mb gr a a2 n cap mc fc fi fz sc vw T W5 ks1 xs1 (K1.below hB15) hs ?_
  intro W6
  intros
  rename_i hKm hB6
  refine seg_15 w W6 base mb a2 n mc sc (Tk T n) ks1 hKm (by rw [Tk_len]; exact hn) ?_ hgv
  rw [sumK_kids (Tk_len T n) (Tk_kids T n), Tk_len]
  exact hs
set_option maxHeartbeats 16000000 in
set_option maxRecDepth 100000 in
theorem keeps_great (a : Option Addr) (T : List Pt) (cap : Nat) (sc : Int) (w : World) (hT : PLs w a T) (hG : GdT T) (hg : Gv w) (hn : ¬ sumK T T.length ≤ 100000) :
    Calls Tryz.prog 7 #[.agg #[.slice a T.length cap], .int .i64 sc] w fun e w' => e = .returned (.bool true) ∧ Below w.heap.size w w' := by
  have HG := hid hg
  have HT := hid hT
  have HFX := hid (fun w h => fixed_any w h)
  have HSN := hid (fun W h1 => small_no a T cap W h1 hG hn)
  have HB0 := hid (belowA w (.cells #[.slice a T.length cap] 26))
  have HX0 := hid (heap_alloc_new w (.cells #[.slice a T.length cap] 26))
  generalize T.length = n at *
  clear hT hG hg hn
  go_enter Tryz.func7, Tryz.ntmps7
  go_upto_region 1 with (fail)
  generalize w.alloc (.cells #[.slice a n cap] 26) = V at *
  generalize hwb : w.heap.size = tb at HX0 ⊢
  clear hwb
  go_wp2_with (first
    | (go_at_call 8; refine (HFX.out _ (HG.out.low HB0.out)).mono ?_; rintro e w1 ⟨rfl, l1⟩; have L1 := hid l1; clear l1; have y0 := cell_of_one ((L1.out.block _ (lt_blk HX0.out)).trans HX0.out); dsimp only)
    | (go_at_call 9; refine (HSN.out _ (HT.out.low (bchS HB0.out L1.out)).pl).mono ?_; rintro e w2 ⟨rfl, l2⟩; have L2 := hid l2; clear l2; dsimp only))
  go_ret
  exact ⟨rfl, bchS (bchS HB0.out L1.out) L2.out⟩
set_option maxHeartbeats 16000000 in
set_option maxRecDepth 100000 in
theorem keeps_small (a : Option Addr) (T : List Pt) (cap : Nat) (sc : Int) (w : World) (hT : PLs w a T) (hG : GdT T) (hg : Gv w) (hs : sumK T T.length ≤ 100000) :
    Calls Tryz.prog 7 #[.agg #[.slice a T.length cap], .int .i64 sc] w fun e w' => e = .returned (.bool true) ∧ Below w.heap.size w w' := by
  have HG := hid hg
  have HT := hid hT
  have HS := hid hs
  have HFX := hid (fun w h => fixed_any w h)
  have HSY := hid (fun W h1 => small_yes a T cap W h1 hG hs)
  have HCP := hid (fun W h1 => copied_pl a T cap W h1 hG hs)
  have HCO := hid (fun W h1 => copied_any a T cap W h1 hG hs)
  have HRK := hid (fun a' cap' W h1 => rcheck_any a' T cap' sc W h1 hG)
  have HB0 := hid (belowA w (.cells #[.slice a T.length cap] 26))
  have HX0 := hid (heap_alloc_new w (.cells #[.slice a T.length cap] 26))
  obtain ⟨n, hn⟩ : ∃ n, n = T.length := ⟨_, rfl⟩
  have HN := hid hn
  have hn5 : n ≤ 100000 := by
    have h0 := sumK_mono T (Nat.zero_le T.length)
    have h1 : sumK T 0 = T.length := rfl
    omega
  rw [← hn] at HSY HCP HCO HRK HB0 HX0 ⊢
  have MK := make_rooms n hn5
  have HOR := hid (fun W => own_rooms W n)
  clear hT hG hg hs hn
  go_enter Tryz.func7, Tryz.ntmps7
  go_upto_region 1 with (fail)
  generalize w.alloc (.cells #[.slice a n cap] 26) = V at *
  have HTL := hid (lt_blk HX0.out)
  generalize hwb : w.heap.size = tb at HX0 HTL ⊢
  have HWT := hid hwb
  clear hwb
  go_upto_region 5 with (first
    | (go_at_call 8; refine (HFX.out _ (HG.out.low HB0.out)).mono ?_; rintro e w1 ⟨rfl, l1⟩; have L1 := hid l1; clear l1; have y0 := cell_of_one ((L1.out.block _ (lt_blk HX0.out)).trans HX0.out); dsimp only)
    | (go_at_call 9; refine (HSY.out _ (HT.out.low (bchS HB0.out L1.out)).pl).mono ?_; rintro e w2 ⟨rfl, l2⟩; have L2 := hid l2; clear l2; dsimp only))
  have L12 := hid (bchS L1.out L2.out)
  have HX2 := hid ((L12.out.block _ (lt_blk HX0.out)).trans HX0.out)
  have HB2 := hid (bchS HB0.out L12.out)
  clear y0
  have y2 := cell_of_one HX2.out
  go_upto_region 6 with (first
    | (go_at_call 10; refine (HCP.out _ (HT.out.low HB2.out)).mono ?_; rintro e w3 ⟨a3, c3, rfl, p3, l3⟩; have P3 := hid p3; have L3 := hid l3; clear p3 l3; dsimp only)
    | (go_at_call 11; refine (HRK.out _ _ _ P3.out.pl).mono ?_; rintro e w6 ⟨v6, f6, rfl, l6, hr6⟩; obtain ⟨fc, fi, fz, rfl⟩ := hr6.form; have R6 := hid hr6; have L6 := hid (bchS L3.out l6); clear l6 hr6; dsimp only))
  have HB6 := hid (belowA w6 (.cells #[.int .i64 fc, .int .i64 fi, .int .i64 fz] 33))
  have HX6 := hid (heap_alloc_new w6 (.cells #[.int .i64 fc, .int .i64 fi, .int .i64 fz] 33))
  have L7 := hid (bchS L6.out HB6.out)
  generalize w6.alloc (.cells #[.int .i64 fc, .int .i64 fi, .int .i64 fz] 33) = W7 at *
  have HX7 := hid ((L7.out.block _ (lt_blk HX2.out)).trans HX2.out)
  have HB7 := hid (bchS HB2.out L7.out)
  have H67 := hid HB6.out
  have HFL := hid (lt_blk HX6.out)
  clear y2
  have y7 := cell_of_one HX7.out
  go_upto_region 7 with (go_at_call 10; refine (HCO.out _ (HT.out.low HB7.out)).mono ?_; rintro e w8 ⟨a8, c8, ks8, rfl, o8, l8⟩; have O8 := hid o8; have L8 := hid l8; clear o8 l8; dsimp only)
  rename_i KK aK
  have HKK := hid aK
  clear aK y7
  have HB9 := hid (belowA w8 (.cells #[.slice a8 n c8] 26))
  have HX9 := hid (heap_alloc_new w8 (.cells #[.slice a8 n c8] 26))
  have L9 := hid (bchS L8.out HB9.out)
  have O9 := hid (O8.out.low HB9.out)
  generalize w8.alloc (.cells #[.slice a8 n c8] 26) = W9 at *
  have y9 := cell_of_one HX9.out
  generalize w8.heap.size = mb at *
  have HA := hid (belowA W9 (.cells (madeCells #[.slice none 0 0] n) 58))
  have HOW := hid (HOR.out W9 W7.heap.size hn5 L9.out.size)
  go_wp2_with fail
  refine HKK.out _ _ ?_
  have hb := bchS L9.out HA.out
  have hwt := HWT.out
  exact keeps_rest w W7.heap.size tb w6.heap.size mb W9.heap.size a a8 n cap c8 fc fi fz sc v6 T _ w6 ks8 _
    (bchS HB7.out hb) HB7.out.size ((hb.block _ (lt_blk HX7.out)).trans HX7.out) (lt_blk HX7.out) ((hb.block _ (lt_blk HX6.out)).trans HX6.out) (lt_blk HX6.out)
    ((HA.out.block _ (lt_blk HX9.out)).trans HX9.out) HT.out (O9.out.low HA.out) HOW.out HN.out HS.out R6.out (bchS H67.out hb) H67.out.size HG.out
theorem sortskeeps_any (a : Option Addr) (T : List Pt) (cap : Nat) (sc : Int) (w : World) (hT : PLs w a T) (hG : GdT T) (hg : Gv w) :
    Calls Tryz.prog 7 #[.agg #[.slice a T.length cap], .int .i64 sc] w fun e w' => e = .returned (.bool true) ∧ Below w.heap.size w w' := by
  by_cases hs : sumK T T.length ≤ 100000
  · exact keeps_small a T cap sc w hT hG hg hs
  · exact keeps_great a T cap sc w hT hG hg hs
end Go.Proofs.YtiddnjjaidiohaaGreatDoor.L.Kp
namespace Go.Proofs.YtiddnjjaidiohaaGreatDoor.L
open Go.ChangeShapes Go.WideShapes Go.ChangeAt Go.RowKit Go.Joins
set_option linter.unusedVariables false
theorem own : ownKnob Tryz.prog.godebug = none := by kernel_rfl
theorem reach_num : reachBytes = 140737488351232 := by kernel_rfl
theorem laidOut : laidOutB Tryz.prog = true := by kernel_rfl
theorem cells9 : Tryz.prog.cellsOf 9 = 1 := by kernel_rfl
theorem cells3 : Tryz.prog.cellsOf 3 = 1 := by kernel_rfl
theorem cellsK : Tryz.prog.cellsOf 55 = 1 := by kernel_rfl
theorem cellsI : Tryz.prog.cellsOf 58 = 1 := by kernel_rfl
theorem cellsL : Tryz.prog.cellsOf 24 = 1 := by kernel_rfl
theorem cellsPt : Tryz.prog.cellsOf 60 = 4 := by kernel_rfl
theorem cellsTr : Tryz.prog.cellsOf 26 = 1 := by kernel_rfl
theorem bytes3 : Tryz.prog.bytesOf 3 = 8 := by kernel_rfl
theorem bytesPt : Tryz.prog.bytesOf 60 = 56 := by kernel_rfl
theorem readT : Tryz.prog.readableRec 26 = true := by kernel_rfl
theorem rowT : 26 < Tryz.prog.types.size := of_decide_eq_true (by kernel_rfl)
theorem all_le {l : List Nat} {n : Nat} (h : l.all (fun x => decide (x ≤ n)) = true) {x : Nat} (hx : x ∈ l) : x ≤ n := by
  have := List.all_eq_true.1 h x hx
  simpa using this
theorem block_lt {w : World} {b o : Nat} {v : Value} (h : w.cell? ⟨b, o, none⟩ = some v) : b < w.heap.size := by
  apply Classical.byContradiction
  intro n
  have : w.heap[b]? = none := Array.getElem?_eq_none (by omega)
  simp [World.cell?, this] at h
theorem mem_all {H : Type} {P : Program} {e : TypeId} {ds : List (DataW H)} {d : DataW H} (h : d ∈ ds) {x : Nat} (hx : x ∈ d.weights P e) : x ∈ DataW.weightsAll P e ds := by
  induction ds with
  | nil => cases h
  | cons y r ih =>
    rw [DataW.weightsAll, List.mem_append]
    rcases List.mem_cons.1 h with rfl | h
    · exact Or.inl hx
    · exact Or.inr (ih h)
/-- A list of kids that came in, opened. -/
theorem kids_open {H : Type} {enc : TypeId × Value → H} {W : World} {fuel : Nat} {v : Value} {d : DataW H} {p : List MemPlace} (h : DataW.trod enc Tryz.prog W 0 (fun _ => true) true fuel 58 [v] = some (d, p))
    (hk : ∀ x ∈ d.weights Tryz.prog 58, x ≤ reachBytes) : ∃ (a : Option Addr) (zs : List Int) (cap : Nat), v = .slice a zs.length cap ∧ RdI W a zs ∧ (a = none → cap = 0) ∧ zs.length ≤ 140737488355328 := by
  rcases Go.Deep.open_slice Tryz.underlying58 h with ⟨hv, hx⟩ | ⟨a, len, cap, m, n, D, Pl, hv, hb, hl, hm, hmm, hx, hc⟩
  · simp at hv
    exact ⟨none, [], 0, hv, Or.inl rfl, fun _ => rfl, by simp⟩
  · simp at hv
    simp at hmm
    rw [cells3] at hc
    have hx1 := congrArg Prod.fst hx
    simp only at hx1
    have hbytes : len ≤ 140737488355328 := by
      subst hmm
      have := hk (m * 8) (by rw [hx1]; simp [DataW.weights, Tryz.underlying58, bytes3]; left; omega)
      rw [reach_num] at this
      omega
    have key : ∀ i, i < len → ∃ s : Int, W.cell? (a.add i) = some (.int .i64 s) := by
      intro i hi
      obtain ⟨cs', h1, h2⟩ := hc i (by omega)
      obtain ⟨s, e1, e2, _⟩ := DataW.trod_int Tryz.underlying3 h2
      subst e1
      obtain ⟨_, _, hcell⟩ := World.cells?_some h1
      have h0 := hcell 0 (by omega)
      refine ⟨s, ?_⟩
      have e0 : ((a.add (i * 1)).add 0) = a.add i := by rw [Nat.mul_one]; unfold Addr.add; simp
      rw [e0] at h0
      simpa using h0
    obtain ⟨q, hq⟩ := Go.Deep.choose_lt key
    refine ⟨some a, (List.range len).map q, cap, by simpa using hv, ?_, (fun e => by cases e), by simpa using hbytes⟩
    by_cases h0 : len = 0
    · exact Or.inl (by simpa using h0)
    right
    obtain ⟨b, off, spot⟩ := a
    have k0 := hq 0 (by omega)
    have hspot : spot = none := by simpa [Addr.add] using World.cell?_spot k0
    subst hspot
    refine ⟨b, off, rfl, ?_, fun j hj => ?_⟩
    · rw [Go.WideShapes.add_plain] at k0
      exact block_lt k0
    · have hj' : j < len := by simpa using hj
      have := hq j hj'
      rw [Go.WideShapes.add_plain] at this
      rw [this]
      simp [List.getD_eq_getElem?_getD, List.getElem?_range hj']
set_option maxRecDepth 100000 in
set_option maxHeartbeats 1000000 in
theorem parts_open {H : Type} {enc : TypeId × Value → H} {W : World} {fuel : Nat} {v : Value} {y : DataW H × List MemPlace} (h : DataW.trod enc Tryz.prog W 0 (fun _ => true) true fuel 24 [v] = some y)
    (hsz : ∀ x ∈ y.1.weights Tryz.prog 24, x ≤ reachBytes) : ∃ (a : Option Addr) (T : List Pt) (cap : Nat), v = .slice a T.length cap ∧ PLs W a T ∧ GdT T := by
  rcases Go.Deep.open_slice Tryz.underlying24 h with ⟨hv, hx⟩ | ⟨a, len, cap, m, n, D, Pl, hv, hb, hl, hm, hmm, hx, hc⟩
  · simp at hv
    exact ⟨none, [], 0, hv, Or.inl rfl, by decide, fun j hj => absurd hj (Nat.not_lt_zero j)⟩
  · simp at hv
    simp at hmm
    rw [cellsPt] at hc
    have hx1 := congrArg Prod.fst hx
    simp only at hx1
    have hbytes : len ≤ 140737488355328 := by
      subst hmm
      have := hsz (m * 56) (by rw [hx1]; simp [DataW.weights, Tryz.underlying24, bytesPt]; left; omega)
      rw [reach_num] at this
      omega
    have hin : ∀ i, i < len → ∀ x ∈ (D i).weights Tryz.prog 60, x ≤ reachBytes := by
      intro i hi x hxx
      refine hsz x ?_
      rw [hx]
      have := mem_all (P := Tryz.prog) (e := 60) (ds := (List.range len).map D) (List.mem_map.2 ⟨i, List.mem_range.2 hi, rfl⟩) hxx
      simp only [DataW.weights, Tryz.underlying24]
      exact List.mem_cons_of_mem _ (List.mem_append_left _ this)
    have key : ∀ i, i < len → ∃ (q : Pt), ∃ (ka : Option Addr) (kc : Nat), W.cell? (a.add (i * 4)) = some (.int .i64 q.kind) ∧ W.cell? (a.add (i * 4 + 1)) = some (.string q.text) ∧ W.cell? (a.add (i * 4 + 2)) = some (.int .i64 q.num) ∧
        W.cell? (a.add (i * 4 + 3)) = some (.slice ka q.kids.length kc) ∧ RdI W ka q.kids ∧ (ka = none → kc = 0) ∧ q.kids.length ≤ 140737488355328 := by
      intro i hi
      obtain ⟨cs', h1, h2⟩ := hc i (by omega)
      obtain ⟨_, hlen, hcell⟩ := World.cells?_some h1
      obtain ⟨xs, k, hk, hxy, _, hxl, hf⟩ := DataW.trod_struct Tryz.underlying60 h2
      have hw := hin i hi
      match xs, hxl, cs', hlen with
      | [y0, y1, y2, y3], _, [v0, v1, v2, v3], _ =>
        have g0 := hf 0 _ rfl
        have g1 := hf 1 _ rfl
        have g2 := hf 2 _ rfl
        have g3 := hf 3 _ rfl
        simp [cells3, cells9, cellsK, cellsI] at g0 g1 g2 g3
        have hD : D i = .agg [y0.1, y1.1, y2.1, y3.1] := congrArg Prod.fst hxy
        rw [hD] at hw
        simp only [DataW.weights, Tryz.underlying60] at hw
        obtain ⟨p, e0, _, w0⟩ := DataW.trod_int Tryz.underlying55 g0
        obtain ⟨s, e1, _, w1⟩ := DataW.trod_string Tryz.underlying9 g1
        obtain ⟨q, e2, _, w2⟩ := DataW.trod_int Tryz.underlying3 g2
        simp at e0 e1 e2
        subst e0 e1 e2
        obtain ⟨ka, zs, kc, rfl, r1, r2, r3⟩ := kids_open (d := y3.1) (p := y3.2) g3 (fun x hx => hw x (by simp [DataW.weightsEach, hx]))
        have f0 := hcell 0 (by omega)
        have f1 := hcell 1 (by omega)
        have f2 := hcell 2 (by omega)
        have f3 := hcell 3 (by omega)
        rw [Go.Deep.add_add] at f0 f1 f2 f3
        exact ⟨⟨p, s, q, zs⟩, ka, kc, by simpa using f0, by simpa using f1, by simpa using f2, by simpa using f3, r1, r2, r3⟩
    haveI : Inhabited Pt := ⟨⟨0, ⟨#[]⟩, 0, []⟩⟩
    obtain ⟨q, hq⟩ := Go.Deep.choose_lt key
    have hlen : ((List.range len).map q).length = len := by simp
    have hget : ∀ j, j < len → pt ((List.range len).map q) j = q j := by
      intro j hj
      simp [pt, List.getD_eq_getElem?_getD, List.getElem?_range hj]
    refine ⟨some a, (List.range len).map q, cap, by rw [hlen]; exact hv, ?_, by rw [hlen]; exact hbytes, fun j hj => ?_⟩
    · by_cases h0 : len = 0
      · exact Or.inl (by rw [hlen]; exact h0)
      right
      obtain ⟨b, off, spot⟩ := a
      obtain ⟨_, _, k0, _⟩ := hq 0 (by omega)
      have hspot : spot = none := by simpa [Addr.add] using World.cell?_spot k0
      subst hspot
      refine ⟨b, off, rfl, ?_, fun j hj => ?_⟩
      · rw [Go.WideShapes.add_plain] at k0
        exact block_lt k0
      · rw [hlen] at hj
        obtain ⟨ka, kc, a0, a1, a2, a3, r1, r2, r3⟩ := hq j hj
        rw [Go.WideShapes.add_plain] at a0 a1 a2 a3
        rw [hget j hj]
        exact ⟨ka, kc, a0, by rw [Nat.add_assoc]; exact a1, by rw [Nat.add_assoc]; exact a2, by rw [Nat.add_assoc]; exact a3, r1, r2⟩
    · rw [hlen] at hj
      obtain ⟨ka, kc, a0, a1, a2, a3, r1, r2, r3⟩ := hq j hj
      rw [hget j hj]
      exact r3
set_option maxRecDepth 100000 in
theorem tree_arg {H : Type} {enc : TypeId × Value → H} {W : World} {base : Nat} {v : Value} {d : DataW H} {p : List MemPlace} (hv : Value.okWide Tryz.prog W .any base 26 v) (h : DataW.Trod enc Tryz.prog W 0 (fun _ => true) true 26 v d p)
    (hsz : ∀ x ∈ d.weights Tryz.prog 26, x ≤ reachBytes) : ∃ (a : Option Addr) (T : List Pt) (cap : Nat), v = .agg #[.slice a T.length cap] ∧ PLs W a T ∧ GdT T := by
  obtain ⟨cs, rfl, hcs⟩ := okWide_struct Tryz.underlying26 hv
  obtain ⟨fuel, hf⟩ := h
  have hf' : DataW.trod enc Tryz.prog W 0 (fun _ => true) true fuel 26 cs.toList = some (d, p) := by simpa [Value.cells] using hf
  obtain ⟨y0, n, hx, hl, hy⟩ := trod_struct1 Tryz.underlying26 hf'
  rw [cellsTr] at hl
  have hd : d = .agg [y0.1] := congrArg Prod.fst hx
  match hcl : cs.toList, hl with
  | [c0], _ =>
    rw [hcl] at hy
    simp [cellsL] at hy
    obtain ⟨a, T, cap, rfl, h1, h2⟩ := parts_open hy (fun x hxx => hsz x (by rw [hd]; simp [DataW.weights, DataW.weightsEach, Tryz.underlying26, hxx]))
    refine ⟨a, T, cap, ?_, h1, h2⟩
    congr 1
    apply Array.ext'
    rw [hcl]
end Go.Proofs.YtiddnjjaidiohaaGreatDoor.L
namespace Go.Proofs.YtiddnjjaidiohaaGreatDoor.L
open Go.ChangeShapes Go.WideShapes Go.ChangeAt Go.RowKit Go.Joins
set_option linter.unusedVariables false
theorem etN : Tryz.prog.globalNamed "errors.errorType" = some 0 := by kernel_rfl
theorem rtN : (Tryz.prog.cutTypes.find? (·.1 == "internal/reflectlite.rtype")).map (·.2) = some 115 := by kernel_rfl
theorem oneRow : ((List.range 201).filter fun t => Tryz.prog.rowNamed t [101, 114, 114, 111, 114]) = [37] := by kernel_rfl
theorem sizeN : Tryz.prog.types.size = 201 := by kernel_rfl
theorem gv_laid {W : World} {laid : List (String × DataW Unit)} (h : laidMetH Tryz.prog laid W) (e : (laid.filter fun x => x.2.handleName?.isSome) = [("errors.errorType", Rows.laid_errors_errorType)]) : Gv W := by
  unfold laidMetH at h
  rw [e] at h
  have h2 := h.2 _ (List.mem_singleton.2 rfl)
  have h3 : ∃ name u ty, (Rows.laid_errors_errorType : DataW Unit).handleName? = some name ∧ (Tryz.prog.cutTypes.find? (·.1 == "internal/reflectlite.rtype")).map (·.2) = some u ∧ ty < Tryz.prog.types.size ∧ Tryz.prog.rowNamed ty name = true ∧ W.var? Tryz.prog "errors.errorType" = some #[.iface u (.agg #[typeHandle Tryz.prog ty])] := h2
  obtain ⟨name, u, ty, e1, e2, e3, e4, e5⟩ := h3
  have en : name = [101, 114, 114, 111, 114] := (Option.some.inj e1).symm
  subst en
  obtain rfl := Option.some.inj (rtN.symm.trans e2)
  have hm : ty ∈ (List.range 201).filter fun t => Tryz.prog.rowNamed t [101, 114, 114, 111, 114] := List.mem_filter.2 ⟨List.mem_range.2 (by rw [← sizeN]; exact e3), e4⟩
  rw [oneRow] at hm
  obtain rfl := List.mem_singleton.1 hm
  have hh : typeHandle Tryz.prog 37 = .pointer (some ⟨4, 37, none⟩) := by kernel_rfl
  rw [hh] at e5
  simpa [Gv] using World.var?_cell etN e5 0
theorem laidMet_on {P : Program} {w0 : World} {laid : List (String × DataW Unit)} (args : Array Value) (hf : w0.layFits P laid [] = true) (hi : w0.layIfaces P laid (w0.layVars P laid) = true) :
    laidMet P laid ((w0.layVars P laid).forCall (fun _ _ => 0) ⟨#[], args, []⟩).memory := by
  have e1 : (laid.filter fun x => (laid.map (·.1)).contains x.1) = laid := List.filter_eq_self.2 fun x hx => List.contains_iff_mem.2 (List.mem_map.2 ⟨x, hx, rfl⟩)
  have e2 : (laid.filter fun x => !(laid.map (·.1)).contains x.1) = [] := List.filter_eq_nil_iff.2 fun x hx => by rw [List.contains_iff_mem.2 (List.mem_map.2 ⟨x, hx, rfl⟩)]; simp
  have h : laidMet P laid (w0.layVars P laid) := laidMet_layVars (w0 := w0) (laid.map (·.1)) [] (by rw [e1]) (by rw [e1]; exact hf) (by rw [e1]; exact hi) (by rw [e2]; exact LaidIn.none)
  exact h.of_heap (by simp [World.memory, World.forCall, Input.heap])
end Go.Proofs.YtiddnjjaidiohaaGreatDoor.L
