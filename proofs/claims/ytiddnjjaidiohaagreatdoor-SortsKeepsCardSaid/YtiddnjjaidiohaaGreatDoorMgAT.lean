import Derived.Test.YtiddnjjaidiohaaGreatDoorMgAQ
import Derived.Test.YtiddnjjaidiohaaGreatDoorMgAS
import Derived.Test.YtiddnjjaidiohaaGreatDoorMgAP
namespace Go.Proofs.YtiddnjjaidiohaaGreatDoor.L
open Go.RowKit
set_option linter.unusedVariables false
def cellsT2 : List (Int × Int) → List Value
  | [] => []
  | p :: r => .int .i64 p.1 :: .int .i64 p.2 :: cellsT2 r
theorem cT_len : ∀ l, (cellsT2 l).length = l.length * 2
  | [] => rfl
  | p :: r => by simp only [cellsT2, List.length_cons, cT_len r]; omega
theorem cT_app : ∀ (l : List (Int × Int)) (p : Int × Int), cellsT2 (l ++ [p]) = cellsT2 l ++ [.int .i64 p.1, .int .i64 p.2]
  | [], p => rfl
  | q :: r, p => by simp only [List.cons_append, cellsT2, cT_app r p]
theorem cT_at : ∀ (l : List (Int × Int)) (j : Nat), j < l.length → (cellsT2 l)[j * 2]? = some (.int .i64 (l.getD j (0, 0)).1) ∧ (cellsT2 l)[j * 2 + 1]? = some (.int .i64 (l.getD j (0, 0)).2)
  | [], j, h => absurd h (Nat.not_lt_zero j)
  | p :: r, 0, h => ⟨rfl, rfl⟩
  | p :: r, j + 1, h => by
    have := cT_at r j (by simpa using h)
    have e : (j + 1) * 2 = j * 2 + 1 + 1 := by omega
    rw [e]
    simpa [cellsT2] using this
/-- A row of types of one's own. -/
abbrev OwT (W : World) (base : Nat) (v : Value) (l : List (Int × Int)) : Prop := W.ownsRow base 47 2 v l.length (cellsT2 l)
theorem OwT.form {W : World} {base : Nat} {v : Value} {l : List (Int × Int)} (h : OwT W base v l) : ∃ a cap, v = .slice a l.length cap := by
  rcases h.2 with ⟨e, n0⟩ | ⟨g, cap, cur, e, _⟩
  · exact ⟨none, 0, by rw [e, n0]⟩
  · exact ⟨_, _, e⟩
theorem OwT.tyv {W : World} {base : Nat} {v : Value} {l : List (Int × Int)} (h : OwT W base v l) : TyV W v l := by
  rcases h.2 with ⟨e, n0⟩ | ⟨g, cap, cur, e, hb, hg, _⟩
  · exact ⟨none, 0, by rw [e, n0], .inl n0⟩
  · subst e
    refine ⟨_, _, rfl, .inr ⟨g, 0, rfl, lt_blk hg, fun j hj => ?_⟩⟩
    have hl := cT_len l
    obtain ⟨h1, h2⟩ := cT_at l j hj
    rw [Nat.zero_add]
    exact ⟨(World.ownsRow.cellAt h (j * 2) (by omega)).trans h1, (World.ownsRow.cellAt h (j * 2 + 1) (by omega)).trans h2⟩
theorem OwT.low {W W' : World} {base : Nat} {v : Value} {l : List (Int × Int)} (h : OwT W base v l) (hk : Below W.heap.size W W') : OwT W' base v l :=
  World.ownsRow.kept (row := none) h ⟨hk.os, hk.tape, hk.output, hk.size, fun k hkl _ => hk.block k hkl⟩ (by cases v.ownBlock <;> simp)
theorem owt_lit (w : World) (base : Nat) (hb : base ≤ w.heap.size) : OwT (w.alloc (.cells #[] 47)) base (.slice (some ⟨w.heap.size, 0, none⟩) 0 0) [] := by
  have h := World.ownsRow_lit (base := base) (e := 47) (size := 2) w #[] 0 hb (by decide) (by decide)
  exact h
theorem cell_two_newT (w : World) (a b : Value) (t : TypeId) : ∀ (j : Nat) (u : Value), [a, b][j]? = some u → (w.alloc (.cells #[a, b] t)).cell? ((⟨w.heap.size, 0, none⟩ : Addr).add j) = some u := by
  intro j u h
  rw [Go.WideShapes.add_plain]
  have e := cell_of_row _ _ (0 + j) _ _ _ (heap_alloc_new w (.cells #[a, b] t))
  rw [e, Nat.zero_add, ← h]
  simp
set_option maxHeartbeats 16000000 in
set_option maxRecDepth 100000 in
theorem typeof_pre (a : Option Addr) (T : List Pt) (cap t : Nat) (sc : Int) (tv : Value) (l : List (Int × Int)) (w : World) (hT : PL w a T) (ht : t < T.length) (hL : T.length ≤ 1000) (hin : ∀ x, x ∈ (pt T t).kids → 0 ≤ x ∧ x < (t : Int)) (hkl : (pt T t).kids.length ≤ 1000) (hv : TyV w tv l) (hl : l.length = t) (Q : Ending → World → Prop)
    (NX : ∀ (W : World) (rb qb tb pb b2 o2 : Nat) (ka : Option Addr) (kc : Nat) (ga : Option Addr) (n gc : Nat) {t0 t5 t6 t7 t12 t13 t14 t15 t16 t17 t18 t19 t20 t21 t22 t23 t24 t25 t26 t27 t28 t29 t30 t31 t32 t33 t34 t35 t36 t37 t38 t39 t40 t41 t42 t43 t44 t45 t46 t47 t48 t49 t50 t51 t52 t53 t54 t55 t56 t57 t58 t59 t60 t61 t62 t63 t64 t65 t66 t67 t68 t69 t70 t71 t72 t73 t74 t75 t76 t77 t78 t79 t80 t81 t82 t83 t84 t85 t86 t87 t88 t89 t90 t91 t92 t93 t94 t95 t96 t97 t98 t99 t100 t101 t102 t103 t104 t105 t106 t107 t108 t109 t110 t111 t112 t113 t114 t115 t116 t117 t118 t119 t120 t121 t122 t123 t124 t125 t126 t127 t128 t129 t130 t131 t132 t133 t134 t135 t136 t137 t138 t139 t140 t141 t142 t143 t144 t145 t146 t147 t148 t149 t150 t151 t152 t153 t154 t155 t156 t157 t158 t159 t160 t161 t162 t163 t164 t165 t166 t167 t168 t169 t170 t171 t172 t173 t174 t175 t176 t177 t178 t179 t180 t181 t182 t183 t184 t185 t186 t187 t188 : Value}, a = some ⟨b2, o2, none⟩ → Tys w W rb qb tb pb (.slice (some ⟨b2, o2, none⟩) T.length cap) #[.int .i64 (pt T t).kind, .string (pt T t).text, .int .i64 (pt T t).num, .slice ka (pt T t).kids.length kc] → TyV W (.slice ga n gc) ((pt T t).kids.map fun x => l.getD x.toNat (0, 0)) → n = (pt T t).kids.length → RdI w ka (pt T t).kids →
      Code.wp Tryz.prog (rtC (rtC (rtC (rtC (Option.getD Tryz.f24.body Code.skip))))) (bodyPost Tryz.prog Tryz.f24 Q) { tmps := #[t0, .int .i64 (t : Int), .int .i64 sc, tv, .pointer (some ⟨tb, 0, none⟩), t5, t6, t7, .pointer (some ⟨rb, 0, none⟩), .pointer (some ⟨qb, 0, none⟩), .pointer (some ⟨pb, 0, none⟩), .slice ga n gc, t12, t13, t14, t15, t16, t17, t18, t19, t20, t21, t22, t23, t24, t25, t26, t27, t28, t29, t30, t31, t32, t33, t34, t35, t36, t37, t38, t39, t40, t41, t42, t43, t44, t45, t46, t47, t48, t49, t50, t51, t52, t53, t54, t55, t56, t57, t58, t59, t60, t61, t62, t63, t64, t65, t66, t67, t68, t69, t70, t71, t72, t73, t74, t75, t76, t77, t78, t79, t80, t81, t82, t83, t84, t85, t86, t87, t88, t89, t90, t91, t92, t93, t94, t95, t96, t97, t98, t99, t100, t101, t102, t103, t104, t105, t106, t107, t108, t109, t110, t111, t112, t113, t114, t115, t116, t117, t118, t119, t120, t121, t122, t123, t124, t125, t126, t127, t128, t129, t130, t131, t132, t133, t134, t135, t136, t137, t138, t139, t140, t141, t142, t143, t144, t145, t146, t147, t148, t149, t150, t151, t152, t153, t154, t155, t156, t157, t158, t159, t160, t161, t162, t163, t164, t165, t166, t167, t168, t169, t170, t171, t172, t173, t174, t175, t176, t177, t178, t179, t180, t181, t182, t183, t184, t185, t186, t187, t188], defers := [] } W) :
    Calls Tryz.prog 24 #[.agg #[.slice a T.length cap], .int .i64 (t : Int), .int .i64 sc, tv] w Q := by
  rcases hT with h0 | ⟨b2, o2, rfl, hb2, hc2⟩
  · omega
  obtain ⟨ka, kc, q0, q1, q2, q3, rk⟩ := hc2 t ht
  have NX1 := hid (fun W rb qb tb pb ga n gc => @NX W rb qb tb pb b2 o2 ka kc ga n gc)
  clear NX
  generalize (pt T t).kind = kd at *
  generalize (pt T t).text = tx at *
  generalize (pt T t).num = nu at *
  generalize (pt T t).kids = ks at *
  obtain ⟨m, hm⟩ : ∃ m, m = ks.length := ⟨_, rfl⟩
  rw [← hm] at q3 hkl NX1
  obtain ⟨L, hLe⟩ : ∃ L, L = T.length := ⟨_, rfl⟩
  rw [← hLe] at hL ht NX1 ⊢
  obtain ⟨va, vc, rfl, hvc⟩ := hv
  rw [hl] at hvc NX1 ⊢
  have HL := hid hLe
  have HM := hid hm
  have HIN := hid hin
  have RK := hid rk
  have HVC := hid hvc
  have ⟨hx0, hx1, hx2, hbx⟩ := alloc3 w (.cells #[.slice (some ⟨b2, o2, none⟩) L cap] 26) (.cells #[.int .i64 0, .int .i64 0] 47) (.cells #[.int .i64 0, .int .i64 0, .int .i64 0] 33)
  have HX0 := hid hx0
  have HX1 := hid hx1
  have HX2 := hid hx2
  have HB1 := hid hbx
  have g5 : (t : Int) < (L : Int) := by omega
  have g6 : (0 : Int) ≤ (t : Int) := by omega
  have ht4 : ((t : Int) * 4).toNat = t * 4 := by omega
  clear hm hLe hin rk hc2 hvc hl hx0 hx1 hx2 hbx
  go_enter Tryz.func24, Tryz.ntmps24
  go_upto_region 1 with (fail)
  generalize ((w.alloc (.cells #[.slice (some ⟨b2, o2, none⟩) L cap] 26)).alloc (.cells #[.int .i64 0, .int .i64 0] 47)).alloc (.cells #[.int .i64 0, .int .i64 0, .int .i64 0] 33) = X at *
  have x0 := cell_of_one HX0.out
  replace q0 := (HB1.out.cell (p := ⟨b2, o2 + t * 4, none⟩) hb2).trans q0
  replace q1 := (HB1.out.cell (p := ⟨b2, o2 + t * 4 + 1, none⟩) hb2).trans q1
  replace q2 := (HB1.out.cell (p := ⟨b2, o2 + t * 4 + 2, none⟩) hb2).trans q2
  replace q3 := (HB1.out.cell (p := ⟨b2, o2 + t * 4 + 3, none⟩) hb2).trans q3
  have HBP := hid (belowA X (.cells #[.int .i64 kd, .string tx, .int .i64 nu, .slice ka m kc] 60))
  have HXP := hid (heap_alloc_new X (.cells #[.int .i64 kd, .string tx, .int .i64 nu, .slice ka m kc] 60))
  go_upto_region 2 with (fail)
  clear q0 q1 q2 q3 x0
  have S0 := hid (show Tys w (X.alloc (.cells #[.int .i64 kd, .string tx, .int .i64 nu, .slice ka m kc] 60)) (w.heap.size + 1) (w.heap.size + 1 + 1) w.heap.size X.heap.size (.slice (some ⟨b2, o2, none⟩) L cap) #[.int .i64 kd, .string tx, .int .i64 nu, .slice ka m kc] from
    ⟨⟨(HBP.out.block _ (lt_blk HX1.out)).trans HX1.out, (HBP.out.block _ (lt_blk HX2.out)).trans HX2.out, bchS HB1.out HBP.out, by omega, by omega, by omega⟩, (HBP.out.block _ (lt_blk HX0.out)).trans HX0.out, HXP.out, by omega, by omega, by have := lt_blk HX1.out; omega, by have := lt_blk HX2.out; omega⟩)
  generalize X.alloc (.cells #[.int .i64 kd, .string tx, .int .i64 nu, .slice ka m kc] 60) = Y at *
  have HR0 := hid (owt_lit Y Y.heap.size (Nat.le_refl _))
  have HA0 := hid (belowA Y (.cells #[] 47))
  generalize X.heap.size = pb at *
  generalize w.heap.size + 1 + 1 = qb at *
  generalize w.heap.size + 1 = rb at *
  go_upto_region 3 with (fail)
  have HLY := hid S0.out.C.low
  have HB0 := hid (show Below Y.heap.size Y _ from HA0.out)
  generalize Y.alloc (.cells #[] 47) = Z at *
  go_wp2_with fail
  rename_i KK aK
  have HKK := hid aK
  clear aK
  go_loopw [11, 12] (fun v i wr => ∃ k : Nat, k ≤ m ∧ i = .int .i64 (k : Int) ∧ Hid (Below Y.heap.size Y wr) ∧ Hid (OwT wr Y.heap.size v ((ks.take k).map fun x => l.getD x.toNat (0, 0)))) (fun _ i _ => m - (intOf i).toNat)
  case atStart => exact ⟨0, Nat.zero_le _, rfl, HB0, HR0⟩
  case round =>
    obtain ⟨k, hk, rfl, HB, HO⟩ := hrel
    have S1 := hid (S0.out.below HB.out)
    have HBW := hid (bchS HLY.out HB.out)
    have ⟨p0, p1, p2, p3⟩ := cells4 S1.out.prt
    by_cases hkm : k < m
    · have hkn : k < ks.length := by rw [← HM.out]; exact hkm
      rcases RK.out.low HBW.out (Nat.le_refl _) with h0 | ⟨b1, o1, e0, hb1, hc1⟩
      · have := HM.out; omega
      subst e0
      have k0 := hc1 k hkn
      have hmem : ks.getD k 0 ∈ ks := by rw [List.getD_eq_getElem?_getD, List.getElem?_eq_getElem hkn]; exact List.getElem_mem hkn
      have hx := HIN.out _ hmem
      obtain ⟨x, hxe⟩ : ∃ x : Nat, ks.getD k 0 = x := ⟨(ks.getD k 0).toNat, by omega⟩
      have HTK := hid (show (ks.take (k + 1)).map (fun x => l.getD x.toNat (0, 0)) = (ks.take k).map (fun x => l.getD x.toNat (0, 0)) ++ [l.getD x (0, 0)] by
        rw [List.take_add_one, List.getElem?_eq_getElem hkn]
        have hz2 := hxe
        rw [List.getD_eq_getElem?_getD, List.getElem?_eq_getElem hkn] at hz2
        simp only [Option.getD_some] at hz2
        simp [hz2])
      rw [hxe] at k0 hx
      rcases HVC.out with h0 | ⟨gb, go, e0, hgb, hcc⟩
      · omega
      subst e0
      have ⟨t0, t1⟩ := hcc x (by omega)
      replace t0 := (HBW.out.cell (p := ⟨gb, go + x * 2, none⟩) hgb).trans t0
      replace t1 := (HBW.out.cell (p := ⟨gb, go + x * 2 + 1, none⟩) hgb).trans t1
      obtain ⟨pr, hpr⟩ : ∃ pr, pr = l.getD x (0, 0) := ⟨_, rfl⟩
      rw [← hpr] at t0 t1 HTK
      obtain ⟨so, si⟩ := pr
      simp only at t0 t1
      have g1 : (k : Int) < (m : Int) := by omega
      have g2 : (0 : Int) ≤ (k : Int) := by omega
      have g3 : (x : Int) < (t : Int) := by omega
      have g4 : (0 : Int) ≤ (x : Int) := by omega
      have g7 : ((x : Int) * 2).toNat = x * 2 := by omega
      have hlen : ((ks.take k).map fun x => l.getD x.toNat (0, 0)).length = k := by rw [List.length_map, List.length_take]; omega
      obtain ⟨kl, hkle⟩ : ∃ kl, kl = (ks.take k).map fun x => l.getD x.toNat (0, 0) := ⟨_, rfl⟩
      rw [← hkle] at HO HTK hlen
      have hkl2 : kl.length ≤ 1000 := by omega
      have HLEN := hid hlen
      obtain ⟨i0, hi, hz0, hz1, hz2⟩ := info_parts infoTy
      have HRW := hid (World.ownsRow.alloc HO.out (.cells #[.int .i64 so, .int .i64 si] 47))
      have HFN := hid (cell_two_newT wr (.int .i64 so) (.int .i64 si) 47)
      have HA4 := hid (belowA wr (.cells #[.int .i64 so, .int .i64 si] 47))
      have HSZ := hid HB.out.size
      have HK1 := hid (show k + 1 ≤ m by omega)
      clear hc1 hmem hx hxe hkn hcc hpr hkle hlen
      go_wp2_with (at_builtin; refine wpList_append_own _ rfl _ _ 31 rfl Y.heap.size 47 i0 (.agg #[.int .i64 0, .int .i64 0]) 2 16 Tryz.underlying31 hi hz0 hz1 hz2 rfl (by decide) _ _ _ rfl HRW.out ⟨wr.heap.size, 0, none⟩ 1 1 [.int .i64 so, .int .i64 si] rfl rfl HFN.out (fun x hx => by simp at hx; rcases hx with rfl | rfl <;> rfl) (by unfold maxLen; omega) (by omega) (Nat.le_trans HSZ.out HA4.out.size) ?_)
      intro v5 w5 hr5 hg5 hn5
      have HN := hid (show OwT w5 Y.heap.size v5 (kl ++ [(so, si)]) by
        unfold OwT
        rw [cT_app, List.length_append]
        exact hr5)
      have HB5 := hid (show Below Y.heap.size Y w5 from (HB.out.trans (HA4.out.mono HSZ.out)).grown hg5 (Nat.le_trans HSZ.out HA4.out.size) (fun k hk => (World.ownsRow.lt HO.out k hk).1))
      rw [← HTK.out] at HN
      clear hr5 hg5 hn5 hi hz0 hz1 hz2 p0 p1 p2 p3 k0 t0 t1
      go_wp2_with fail
      refine ⟨⟨k + 1, HK1.out, by go_num, HB5, HN⟩, ?_⟩
      have h3 := HK1.out
      simp [intOf]
      omega
    · obtain rfl : k = m := by omega
      have HOK := hid (show OwT wr Y.heap.size u11 (ks.map fun x => l.getD x.toNat (0, 0)) by
        have h := HO.out
        rw [HM.out, List.take_length] at h
        exact h)
      obtain ⟨ga, gc, hu⟩ := HOK.out.form
      rw [List.length_map, ← HM.out] at hu
      subst hu
      go_wp2_with fail
      refine HKK.out _ _ ?_
      exact NX1.out wr _ _ _ _ ga k gc trivial S1.out HOK.out.tyv rfl RK.out
end Go.Proofs.YtiddnjjaidiohaaGreatDoor.L
namespace Go.Proofs.YtiddnjjaidiohaaGreatDoor.L
open Go.RowKit
set_option linter.unusedVariables false
set_option maxHeartbeats 8000000 in
set_option maxRecDepth 100000 in
theorem cmp_mov (w W : World) (t x y rb pb g8 g9 b1 o1 kc : Nat) (kd nu : Int) (tx : ByteArray) (u1 s1 u2 s2 : Int) (o : Option (Nat × Int)) {t0 t2 t3 t4 t5 t10 t11 t12 t13 t14 t15 t16 t17 t18 t19 t20 t21 t22 t23 t24 t25 t26 t27 t28 t29 t30 t31 t32 t33 t34 t35 t36 t37 t38 t39 t40 t41 t42 t43 t44 t45 t46 t47 t48 t49 t50 t51 t52 t53 t54 t55 t56 t57 t58 t59 t60 t61 t62 t63 t64 t65 t66 t67 t68 t69 t70 t71 t72 t73 t74 t75 t76 t77 t78 t79 t80 t81 t82 t83 t84 t85 t86 t87 t88 t89 t90 t91 t92 t93 t94 t95 t96 t97 t98 t99 t100 t101 t102 : Value}
    (hC : Cpd w W rb pb g8 g9 #[.int .i64 kd, .string tx, .int .i64 nu, .slice (some ⟨b1, o1, none⟩) 2 kc] u1 s1 u2 s2) (ho : o = if movB s1 && movB s2 then some (144, (t : Int)) else none) :
    Code.wp Tryz.prog (rtC (rtC (rtC (rtC (rtC (Option.getD Tryz.f33.body Code.skip)))))) (bodyPost Tryz.prog Tryz.f33 (fun e w' => e = .returned (fa o) ∧ Below w.heap.size w w')) { tmps := #[t0, .int .i64 (t : Int), t2, t3, t4, t5, .pointer (some ⟨rb, 0, none⟩), .pointer (some ⟨pb, 0, none⟩), .pointer (some ⟨g8, 0, none⟩), .pointer (some ⟨g9, 0, none⟩), t10, t11, t12, t13, t14, t15, t16, t17, t18, t19, t20, t21, t22, t23, t24, t25, t26, t27, t28, t29, t30, t31, t32, t33, t34, t35, t36, t37, t38, t39, t40, t41, t42, t43, t44, t45, t46, t47, t48, t49, t50, t51, t52, t53, t54, t55, t56, t57, t58, t59, t60, t61, t62, t63, t64, t65, t66, t67, t68, t69, t70, t71, t72, t73, t74, t75, t76, t77, t78, t79, t80, t81, t82, t83, t84, t85, t86, t87, t88, t89, t90, t91, t92, t93, t94, t95, t96, t97, t98, t99, t100, t101, t102], defers := [] } W := by
  have HMV := hid rmov_any
  have C := hid hC
  have ⟨⟨r0, r1, r2⟩, ⟨f0, f1, f2⟩⟩ := rc3 C.out.res
  have ⟨a0, a1⟩ := cellsW C.out.one
  clear hC
  simp only [rtC, Option.getD, Tryz.f33]
  cases m1 : movB s1
  · have HOE := hid (show o = none by rw [ho, m1]; rfl)
    clear ho
    go_wp2_with (first | (go_at_call 53; refine (HMV.out _ _ _).mono ?_; rintro e w2 ⟨rfl, l2⟩; have C2 := hid (C1.out.below l2); clear l2; have ⟨⟨r0, r1, r2⟩, ⟨f0, f1, f2⟩⟩ := rc3 C2.out.res) | (go_at_call 53; refine (HMV.out _ _ _).mono ?_; rintro e w1 ⟨rfl, l1⟩; have C1 := hid (C.out.below l1); clear l1; have ⟨⟨r0, r1, r2⟩, ⟨f0, f1, f2⟩⟩ := rc3 C1.out.res; have ⟨c0, c1⟩ := cellsW C1.out.two))
    (try simp only [Exit.inBlock, Exit.then])
    refine bodyPost_ret (res_fa rfl _ _ rb _ _ _ rfl (heap_set3 C1.out.res _ _ _)) rfl ⟨?_, C1.out.fin _ _ _⟩
    rw [HOE.out]
    rfl
  · cases m2 : movB s2
    · have HOE := hid (show o = none by rw [ho, m1, m2]; rfl)
      clear ho
      go_wp2_with (first | (go_at_call 53; refine (HMV.out _ _ _).mono ?_; rintro e w2 ⟨rfl, l2⟩; have C2 := hid (C1.out.below l2); clear l2; have ⟨⟨r0, r1, r2⟩, ⟨f0, f1, f2⟩⟩ := rc3 C2.out.res) | (go_at_call 53; refine (HMV.out _ _ _).mono ?_; rintro e w1 ⟨rfl, l1⟩; have C1 := hid (C.out.below l1); clear l1; have ⟨⟨r0, r1, r2⟩, ⟨f0, f1, f2⟩⟩ := rc3 C1.out.res; have ⟨c0, c1⟩ := cellsW C1.out.two))
      (try simp only [Exit.inBlock, Exit.then])
      refine bodyPost_ret (res_fa rfl _ _ rb _ _ _ rfl (heap_set3 C2.out.res _ _ _)) rfl ⟨?_, C2.out.fin _ _ _⟩
      rw [HOE.out]
      rfl
    · have HOE := hid (show o = some (144, (t : Int)) by rw [ho, m1, m2]; rfl)
      clear ho
      go_wp2_with (first | (go_at_call 53; refine (HMV.out _ _ _).mono ?_; rintro e w2 ⟨rfl, l2⟩; have C2 := hid (C1.out.below l2); clear l2; have ⟨⟨r0, r1, r2⟩, ⟨f0, f1, f2⟩⟩ := rc3 C2.out.res) | (go_at_call 53; refine (HMV.out _ _ _).mono ?_; rintro e w1 ⟨rfl, l1⟩; have C1 := hid (C.out.below l1); clear l1; have ⟨⟨r0, r1, r2⟩, ⟨f0, f1, f2⟩⟩ := rc3 C1.out.res; have ⟨c0, c1⟩ := cellsW C1.out.two))
      (try simp only [Exit.inBlock, Exit.then])
      refine bodyPost_ret (res_fa rfl _ _ rb _ _ _ rfl (heap_set3 C2.out.res _ _ _)) rfl ⟨?_, C2.out.fin _ _ _⟩
      rw [HOE.out]
      rfl
end Go.Proofs.YtiddnjjaidiohaaGreatDoor.L
namespace Go.Proofs.YtiddnjjaidiohaaGreatDoor.L
open Go.RowKit
set_option linter.unusedVariables false
set_option maxHeartbeats 8000000 in
set_option maxRecDepth 100000 in
theorem cmp_62 (w W : World) (t x y rb pb g8 g9 b1 o1 kc : Nat) (nu : Int) (tx : ByteArray) (s1 u2 s2 : Int) (o : Option (Nat × Int)) {t0 t2 t3 t4 t5 t10 t11 t12 t13 t14 t15 t16 t17 t18 t19 t20 t21 t22 t23 t24 t25 t26 t27 t28 t29 t30 t31 t32 t33 t34 t35 t36 t37 t38 t39 t40 t41 t42 t43 t44 t45 t46 t47 t48 t49 t50 t51 t52 t53 t54 t55 t56 t57 t58 t59 t60 t61 t62 t63 t64 t65 t66 t67 t68 t69 t70 t71 t72 t73 t74 t75 t76 t77 t78 t79 t80 t81 t82 t83 t84 t85 t86 t87 t88 t89 t90 t91 t92 t93 t94 t95 t96 t97 t98 t99 t100 t101 t102 : Value}
    (hC : Cpd w W rb pb g8 g9 #[.int .i64 6, .string tx, .int .i64 nu, .slice (some ⟨b1, o1, none⟩) 2 kc] 2 s1 u2 s2) (k0 : W.cell? ⟨b1, o1, none⟩ = some (.int .i64 (x : Int))) (k1 : W.cell? ⟨b1, o1 + 1, none⟩ = some (.int .i64 (y : Int))) (hn1 : 1 ≤ nu) (ho : o = if u2 ≠ 2 then some (141, (y : Int)) else if eqtB nu = false then some (141, (t : Int)) else if movB s1 && movB s2 then some (144, (t : Int)) else none) :
    Code.wp Tryz.prog (rtC (rtC (rtC (Option.getD Tryz.f33.body Code.skip)))) (bodyPost Tryz.prog Tryz.f33 (fun e w' => e = .returned (fa o) ∧ Below w.heap.size w w')) { tmps := #[t0, .int .i64 (t : Int), t2, t3, t4, t5, .pointer (some ⟨rb, 0, none⟩), .pointer (some ⟨pb, 0, none⟩), .pointer (some ⟨g8, 0, none⟩), .pointer (some ⟨g9, 0, none⟩), t10, t11, t12, t13, t14, t15, t16, t17, t18, t19, t20, t21, t22, t23, t24, t25, t26, t27, t28, t29, t30, t31, t32, t33, t34, t35, t36, t37, t38, t39, t40, t41, t42, t43, t44, t45, t46, t47, t48, t49, t50, t51, t52, t53, t54, t55, t56, t57, t58, t59, t60, t61, t62, t63, t64, t65, t66, t67, t68, t69, t70, t71, t72, t73, t74, t75, t76, t77, t78, t79, t80, t81, t82, t83, t84, t85, t86, t87, t88, t89, t90, t91, t92, t93, t94, t95, t96, t97, t98, t99, t100, t101, t102], defers := [] } W := by
  have C := hid hC
  have ⟨⟨r0, r1, r2⟩, ⟨f0, f1, f2⟩⟩ := rc3 C.out.res
  have ⟨p0, p1, p2, p3⟩ := cells4 C.out.prt
  have ⟨a0, a1⟩ := cellsW C.out.one
  have ⟨c0, c1⟩ := cellsW C.out.two
  clear hC
  have sf : (rtC (rtC (rtC (Option.getD Tryz.f33.body Code.skip)))) = .seq (hdC (rtC (rtC (rtC (Option.getD Tryz.f33.body Code.skip))))) (.seq (hdC (rtC (rtC (rtC (rtC (Option.getD Tryz.f33.body Code.skip)))))) (rtC (rtC (rtC (rtC (rtC (Option.getD Tryz.f33.body Code.skip))))))) := by kernel_rfl
  rw [sf]
  clear sf
  generalize hT : (rtC (rtC (rtC (rtC (rtC (Option.getD Tryz.f33.body Code.skip)))))) = T
  simp only [hdC, rtC, Option.getD, Tryz.f33]
  by_cases h3 : u2 = 2
  · subst h3
    rw [if_neg (show ¬ ((2 : Int) ≠ 2) by simp)] at ho
    by_cases h4 : eqtB nu = false
    · rw [if_pos h4] at ho
      have g : (2 : Int) < nu := by unfold eqtB at h4; simp at h4; omega
      clear h4
      have HOE := hid ho
      clear ho
      go_wp2_with fail
      (try simp only [Exit.inBlock, Exit.then])
      refine bodyPost_ret (res_fa rfl _ _ rb _ _ _ rfl (heap_set3 C.out.res _ _ _)) rfl ⟨?_, C.out.fin _ _ _⟩
      rw [HOE.out]
      rfl
    · rw [if_neg h4] at ho
      have g : ¬ ((2 : Int) < nu) := by unfold eqtB at h4; simp at h4; omega
      clear h4
      have HOE := hid ho
      clear ho
      go_wp2_with fail
      rw [← hT]
      exact cmp_mov w W t x y rb pb g8 g9 b1 o1 kc _ nu tx _ s1 _ s2 o C.out HOE.out
  · rw [if_pos h3] at ho
    have g : (u2 != 2) = true := by simpa using h3
    clear h3
    have HOE := hid ho
    clear ho
    go_wp2_with fail
    (try simp only [Exit.inBlock, Exit.then])
    refine bodyPost_ret (res_fa rfl _ _ rb _ _ _ rfl (heap_set3 C.out.res _ _ _)) rfl ⟨?_, C.out.fin _ _ _⟩
    rw [HOE.out]
    rfl
set_option maxHeartbeats 8000000 in
set_option maxRecDepth 100000 in
theorem cmp_63 (w W : World) (t x y rb pb g8 g9 b1 o1 kc : Nat) (nu : Int) (tx : ByteArray) (s1 u2 s2 : Int) (o : Option (Nat × Int)) {t0 t2 t3 t4 t5 t10 t11 t12 t13 t14 t15 t16 t17 t18 t19 t20 t21 t22 t23 t24 t25 t26 t27 t28 t29 t30 t31 t32 t33 t34 t35 t36 t37 t38 t39 t40 t41 t42 t43 t44 t45 t46 t47 t48 t49 t50 t51 t52 t53 t54 t55 t56 t57 t58 t59 t60 t61 t62 t63 t64 t65 t66 t67 t68 t69 t70 t71 t72 t73 t74 t75 t76 t77 t78 t79 t80 t81 t82 t83 t84 t85 t86 t87 t88 t89 t90 t91 t92 t93 t94 t95 t96 t97 t98 t99 t100 t101 t102 : Value}
    (hC : Cpd w W rb pb g8 g9 #[.int .i64 6, .string tx, .int .i64 nu, .slice (some ⟨b1, o1, none⟩) 2 kc] 3 s1 u2 s2) (k0 : W.cell? ⟨b1, o1, none⟩ = some (.int .i64 (x : Int))) (k1 : W.cell? ⟨b1, o1 + 1, none⟩ = some (.int .i64 (y : Int))) (ho : o = if u2 ≠ 3 then some (141, (y : Int)) else if movB s1 && movB s2 then some (144, (t : Int)) else none) :
    Code.wp Tryz.prog (rtC (rtC (rtC (Option.getD Tryz.f33.body Code.skip)))) (bodyPost Tryz.prog Tryz.f33 (fun e w' => e = .returned (fa o) ∧ Below w.heap.size w w')) { tmps := #[t0, .int .i64 (t : Int), t2, t3, t4, t5, .pointer (some ⟨rb, 0, none⟩), .pointer (some ⟨pb, 0, none⟩), .pointer (some ⟨g8, 0, none⟩), .pointer (some ⟨g9, 0, none⟩), t10, t11, t12, t13, t14, t15, t16, t17, t18, t19, t20, t21, t22, t23, t24, t25, t26, t27, t28, t29, t30, t31, t32, t33, t34, t35, t36, t37, t38, t39, t40, t41, t42, t43, t44, t45, t46, t47, t48, t49, t50, t51, t52, t53, t54, t55, t56, t57, t58, t59, t60, t61, t62, t63, t64, t65, t66, t67, t68, t69, t70, t71, t72, t73, t74, t75, t76, t77, t78, t79, t80, t81, t82, t83, t84, t85, t86, t87, t88, t89, t90, t91, t92, t93, t94, t95, t96, t97, t98, t99, t100, t101, t102], defers := [] } W := by
  have C := hid hC
  have ⟨⟨r0, r1, r2⟩, ⟨f0, f1, f2⟩⟩ := rc3 C.out.res
  have ⟨p0, p1, p2, p3⟩ := cells4 C.out.prt
  have ⟨a0, a1⟩ := cellsW C.out.one
  have ⟨c0, c1⟩ := cellsW C.out.two
  clear hC
  have sf : (rtC (rtC (rtC (Option.getD Tryz.f33.body Code.skip)))) = .seq (hdC (rtC (rtC (rtC (Option.getD Tryz.f33.body Code.skip))))) (.seq (hdC (rtC (rtC (rtC (rtC (Option.getD Tryz.f33.body Code.skip)))))) (rtC (rtC (rtC (rtC (rtC (Option.getD Tryz.f33.body Code.skip))))))) := by kernel_rfl
  rw [sf]
  clear sf
  generalize hT : (rtC (rtC (rtC (rtC (rtC (Option.getD Tryz.f33.body Code.skip)))))) = T
  simp only [hdC, rtC, Option.getD, Tryz.f33]
  by_cases h3 : u2 = 3
  · subst h3
    rw [if_neg (show ¬ ((3 : Int) ≠ 3) by simp)] at ho
    have HOE := hid ho
    clear ho
    go_wp2_with fail
    rw [← hT]
    exact cmp_mov w W t x y rb pb g8 g9 b1 o1 kc _ nu tx _ s1 _ s2 o C.out HOE.out
  · rw [if_pos h3] at ho
    have g : (u2 != 3) = true := by simpa using h3
    clear h3
    have HOE := hid ho
    clear ho
    go_wp2_with fail
    (try simp only [Exit.inBlock, Exit.then])
    refine bodyPost_ret (res_fa rfl _ _ rb _ _ _ rfl (heap_set3 C.out.res _ _ _)) rfl ⟨?_, C.out.fin _ _ _⟩
    rw [HOE.out]
    rfl
set_option maxHeartbeats 8000000 in
set_option maxRecDepth 100000 in
theorem cmp_el (w W : World) (t x y rb pb g8 g9 b1 o1 kc : Nat) (kd nu : Int) (tx : ByteArray) (u1 s1 u2 s2 : Int) (o : Option (Nat × Int)) {t0 t2 t3 t4 t5 t10 t11 t12 t13 t14 t15 t16 t17 t18 t19 t20 t21 t22 t23 t24 t25 t26 t27 t28 t29 t30 t31 t32 t33 t34 t35 t36 t37 t38 t39 t40 t41 t42 t43 t44 t45 t46 t47 t48 t49 t50 t51 t52 t53 t54 t55 t56 t57 t58 t59 t60 t61 t62 t63 t64 t65 t66 t67 t68 t69 t70 t71 t72 t73 t74 t75 t76 t77 t78 t79 t80 t81 t82 t83 t84 t85 t86 t87 t88 t89 t90 t91 t92 t93 t94 t95 t96 t97 t98 t99 t100 t101 t102 : Value}
    (hC : Cpd w W rb pb g8 g9 #[.int .i64 kd, .string tx, .int .i64 nu, .slice (some ⟨b1, o1, none⟩) 2 kc] u1 s1 u2 s2) (k0 : W.cell? ⟨b1, o1, none⟩ = some (.int .i64 (x : Int))) (k1 : W.cell? ⟨b1, o1 + 1, none⟩ = some (.int .i64 (y : Int))) (hu2 : u1 ≠ 2) (hu3 : u1 ≠ 3) (ho : o = some (141, (x : Int))) :
    Code.wp Tryz.prog (rtC (rtC (rtC (Option.getD Tryz.f33.body Code.skip)))) (bodyPost Tryz.prog Tryz.f33 (fun e w' => e = .returned (fa o) ∧ Below w.heap.size w w')) { tmps := #[t0, .int .i64 (t : Int), t2, t3, t4, t5, .pointer (some ⟨rb, 0, none⟩), .pointer (some ⟨pb, 0, none⟩), .pointer (some ⟨g8, 0, none⟩), .pointer (some ⟨g9, 0, none⟩), t10, t11, t12, t13, t14, t15, t16, t17, t18, t19, t20, t21, t22, t23, t24, t25, t26, t27, t28, t29, t30, t31, t32, t33, t34, t35, t36, t37, t38, t39, t40, t41, t42, t43, t44, t45, t46, t47, t48, t49, t50, t51, t52, t53, t54, t55, t56, t57, t58, t59, t60, t61, t62, t63, t64, t65, t66, t67, t68, t69, t70, t71, t72, t73, t74, t75, t76, t77, t78, t79, t80, t81, t82, t83, t84, t85, t86, t87, t88, t89, t90, t91, t92, t93, t94, t95, t96, t97, t98, t99, t100, t101, t102], defers := [] } W := by
  have C := hid hC
  have ⟨⟨r0, r1, r2⟩, ⟨f0, f1, f2⟩⟩ := rc3 C.out.res
  have ⟨p0, p1, p2, p3⟩ := cells4 C.out.prt
  have ⟨a0, a1⟩ := cellsW C.out.one
  have ⟨c0, c1⟩ := cellsW C.out.two
  clear hC
  have sf : (rtC (rtC (rtC (Option.getD Tryz.f33.body Code.skip)))) = .seq (hdC (rtC (rtC (rtC (Option.getD Tryz.f33.body Code.skip))))) (.seq (hdC (rtC (rtC (rtC (rtC (Option.getD Tryz.f33.body Code.skip)))))) (rtC (rtC (rtC (rtC (rtC (Option.getD Tryz.f33.body Code.skip))))))) := by kernel_rfl
  rw [sf]
  clear sf
  generalize hT : (rtC (rtC (rtC (rtC (rtC (Option.getD Tryz.f33.body Code.skip)))))) = T
  simp only [hdC, rtC, Option.getD, Tryz.f33]
  have ga : (u1 != 2) = true := by simpa using hu2
  have gb : (u1 != 3) = true := by simpa using hu3
  clear hu2 hu3
  have HOE := hid ho
  clear ho
  go_wp2_with fail
  (try simp only [Exit.inBlock, Exit.then])
  refine bodyPost_ret (res_fa rfl _ _ rb _ _ _ rfl (heap_set3 C.out.res _ _ _)) rfl ⟨?_, C.out.fin _ _ _⟩
  rw [HOE.out]
  rfl
end Go.Proofs.YtiddnjjaidiohaaGreatDoor.L
