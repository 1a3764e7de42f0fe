import Derived.Test.YtiddnjjaidiohaaGreatDoorMgAQ
import Derived.Test.YtiddnjjaidiohaaGreatDoorSg5b
import Derived.Test.YtiddnjjaidiohaaGreatDoorSg5c
import Derived.Test.YtiddnjjaidiohaaGreatDoorSg5d
import Derived.Test.YtiddnjjaidiohaaGreatDoorMgAR
import Derived.Test.YtiddnjjaidiohaaGreatDoorMgAT
import Derived.Test.YtiddnjjaidiohaaGreatDoorMgAU
import Derived.Test.YtiddnjjaidiohaaGreatDoorMgAV
namespace Go.Proofs.YtiddnjjaidiohaaGreatDoor.L
open Go.RowKit
set_option linter.unusedVariables false
/-- What is known of a kid's type. -/
structure KT (T : List Pt) (ty : Int × Int) (x : Nat) : Prop where
  bool : 1 ≤ (pt T x).kind → (pt T x).kind ≤ 10 → ty.1 = 1
  text : (pt T x).kind = 11 → ty = (2, 0)
  num : (pt T x).kind = 12 → ty = (3, 0)
  lab : (pt T x).kind = 14 → ty.2 = 1 ∨ ty.2 = 2 ∨ ty.2 = 3
/-- What TypeOf is asked with. -/
structure Tof (w : World) (a : Option Addr) (T : List Pt) (t : Nat) (sc : Int) (tv : Value) (l : List (Int × Int)) : Prop where
  hT : PL w a T
  ht : t < T.length
  G : GdS T
  tab : tabD T (pt T t)
  sc : sc = 2 ∨ sc = 3
  hv : TyV w tv l
  hl : l.length = t
  kt : ∀ x : Nat, x < t → KT T (l.getD x (0, 0)) x
theorem tof {a : Option Addr} {T : List Pt} {cap t : Nat} {sc : Int} {tv : Value} {l : List (Int × Int)} {w : World} (H : Tof w a T t sc tv l) {O : Option (Nat × Int)} {TY : Int × Int} (ho : O = brO T (fun j => (l.getD j (0, 0)).1) (fun j => (l.getD j (0, 0)).2) t sc) (hty : brO T (fun j => (l.getD j (0, 0)).1) (fun j => (l.getD j (0, 0)).2) t sc = none → TY = tyS T (fun j => l.getD j (0, 0)) t)
    (NX : ∀ (W : World) (rb qb tb pb b2 o2 : Nat) (ka : Option Addr) (kc : Nat) (ga : Option Addr) (n gc : Nat) {t0 t5 t6 t7 t12 t13 t14 t15 t16 t17 t18 t19 t20 t21 t22 t23 t24 t25 t26 t27 t28 t29 t30 t31 t32 t33 t34 t35 t36 t37 t38 t39 t40 t41 t42 t43 t44 t45 t46 t47 t48 t49 t50 t51 t52 t53 t54 t55 t56 t57 t58 t59 t60 t61 t62 t63 t64 t65 t66 t67 t68 t69 t70 t71 t72 t73 t74 t75 t76 t77 t78 t79 t80 t81 t82 t83 t84 t85 t86 t87 t88 t89 t90 t91 t92 t93 t94 t95 t96 t97 t98 t99 t100 t101 t102 t103 t104 t105 t106 t107 t108 t109 t110 t111 t112 t113 t114 t115 t116 t117 t118 t119 t120 t121 t122 t123 t124 t125 t126 t127 t128 t129 t130 t131 t132 t133 t134 t135 t136 t137 t138 t139 t140 t141 t142 t143 t144 t145 t146 t147 t148 t149 t150 t151 t152 t153 t154 t155 t156 t157 t158 t159 t160 t161 t162 t163 t164 t165 t166 t167 t168 t169 t170 t171 t172 t173 t174 t175 t176 t177 t178 t179 t180 t181 t182 t183 t184 t185 t186 t187 t188 : Value}, a = some ⟨b2, o2, none⟩ → Tys w W rb qb tb pb (.slice (some ⟨b2, o2, none⟩) T.length cap) #[.int .i64 (pt T t).kind, .string (pt T t).text, .int .i64 (pt T t).num, .slice ka (pt T t).kids.length kc] → TyV W (.slice ga n gc) ((pt T t).kids.map fun x => l.getD x.toNat (0, 0)) → n = (pt T t).kids.length → RdI w ka (pt T t).kids →
      Code.wp Tryz.prog (rtC (rtC (rtC (rtC (Option.getD Tryz.f24.body Code.skip))))) (bodyPost Tryz.prog Tryz.f24 (fun e w' => TyE O TY e ∧ Below w.heap.size w w')) { tmps := #[t0, .int .i64 (t : Int), .int .i64 sc, tv, .pointer (some ⟨tb, 0, none⟩), t5, t6, t7, .pointer (some ⟨rb, 0, none⟩), .pointer (some ⟨qb, 0, none⟩), .pointer (some ⟨pb, 0, none⟩), .slice ga n gc, t12, t13, t14, t15, t16, t17, t18, t19, t20, t21, t22, t23, t24, t25, t26, t27, t28, t29, t30, t31, t32, t33, t34, t35, t36, t37, t38, t39, t40, t41, t42, t43, t44, t45, t46, t47, t48, t49, t50, t51, t52, t53, t54, t55, t56, t57, t58, t59, t60, t61, t62, t63, t64, t65, t66, t67, t68, t69, t70, t71, t72, t73, t74, t75, t76, t77, t78, t79, t80, t81, t82, t83, t84, t85, t86, t87, t88, t89, t90, t91, t92, t93, t94, t95, t96, t97, t98, t99, t100, t101, t102, t103, t104, t105, t106, t107, t108, t109, t110, t111, t112, t113, t114, t115, t116, t117, t118, t119, t120, t121, t122, t123, t124, t125, t126, t127, t128, t129, t130, t131, t132, t133, t134, t135, t136, t137, t138, t139, t140, t141, t142, t143, t144, t145, t146, t147, t148, t149, t150, t151, t152, t153, t154, t155, t156, t157, t158, t159, t160, t161, t162, t163, t164, t165, t166, t167, t168, t169, t170, t171, t172, t173, t174, t175, t176, t177, t178, t179, t180, t181, t182, t183, t184, t185, t186, t187, t188], defers := [] } W) : Calls Tryz.prog 24 #[.agg #[.slice a T.length cap], .int .i64 (t : Int), .int .i64 sc, tv] w fun e w' => TyE (brO T (fun j => (l.getD j (0, 0)).1) (fun j => (l.getD j (0, 0)).2) t sc) (tyS T (fun j => l.getD j (0, 0)) t) e ∧ Below w.heap.size w w' :=
  (typeof_pre a T cap t sc tv l w H.hT H.ht H.G.len (H.G.kid t H.ht) (H.G.kl t H.ht) H.hv H.hl _ NX).mono fun e w' h => ⟨h.1.to ho hty, h.2⟩
theorem Tof.kid {w : World} {a : Option Addr} {T : List Pt} {t : Nat} {sc : Int} {tv : Value} {l : List (Int × Int)} (H : Tof w a T t sc tv l) {x : Int} (hx : x ∈ (pt T t).kids) : 0 ≤ x ∧ x.toNat < t ∧ KT T (l.getD x.toNat (0, 0)) x.toNat ∧ clsB (pt T t).kind (pt T x.toNat).kind = true := by
  have h1 := H.G.kid t H.ht x hx
  exact ⟨h1.1, by omega, H.kt _ (by omega), H.tab.2.2.2.2 x hx⟩
theorem br_as {T : List Pt} {so si : Nat → Int} {t : Nat} {sc : Int} (hk : (pt T t).kind ≠ 6 ∧ (pt T t).kind ≠ 7 ∧ (pt T t).kind ≠ 13 ∧ (pt T t).kind ≠ 19) : brO T so si t sc = asO (pt T t).kind (pt T t).num sc (pt T t).text t := by
  unfold brO
  rw [if_neg hk.1, if_neg hk.2.1, if_neg hk.2.2.1, if_neg hk.2.2.2]
theorem kids_nil {T : List Pt} {p : Pt} (h : tabD T p) (hk : kidsB p.kind p.kids.length = decide ((p.kids.length : Int) = 0)) : p.kids = [] := by
  have := h.1
  rw [hk] at this
  exact List.length_eq_zero_iff.1 (by simpa using this)
theorem one_kid {ks : List Int} (h : (ks.length : Int) = 1) : ∃ x, ks = [x] := by
  match ks, h with
  | [x], _ => exact ⟨x, rfl⟩
theorem two_kids {ks : List Int} (h : (ks.length : Int) = 2) : ∃ x y, ks = [x, y] := by
  match ks, h with
  | [x, y], _ => exact ⟨x, y, rfl⟩
theorem tyv_one {W : World} {ga : Option Addr} {n gc : Nat} {p : Int × Int} (h : TyV W (.slice ga n gc) [p]) : n = 1 ∧ ∃ gb go, ga = some ⟨gb, go, none⟩ ∧ gb < W.heap.size ∧ W.cell? ⟨gb, go, none⟩ = some (.int .i64 p.1) ∧ W.cell? ⟨gb, go + 1, none⟩ = some (.int .i64 p.2) := by
  obtain ⟨a, c, e, hc⟩ := h
  simp only [Value.slice.injEq] at e
  obtain ⟨rfl, hn, rfl⟩ := e
  refine ⟨hn, ?_⟩
  rcases hc with h0 | ⟨b, off, rfl, hb, hcc⟩
  · cases h0
  · obtain ⟨h1, h2⟩ := hcc 0 (by simp)
    exact ⟨b, off, rfl, hb, h1, h2⟩
theorem rcomp_any (a : Option Addr) (T : List Pt) (cap t x y : Nat) (tv : Value) (l : List (Int × Int)) (sc : Int) (w : World) (hT : PL w a T) (ht : t < T.length) (hL : T.length ≤ 1000) (hks : (pt T t).kids = [(x : Int), (y : Int)]) (hx : x < t) (hy : y < t) (hv : TyV w tv l) (hl : l.length = t) (hk : (pt T t).kind = 6 ∧ 1 ≤ (pt T t).num ∨ (pt T t).kind = 7) :
    Calls Tryz.prog 33 #[.agg #[.slice a T.length cap], .int .i64 (t : Int), tv] w fun e w' => e = .returned (fa (brO T (fun j => (l.getD j (0, 0)).1) (fun j => (l.getD j (0, 0)).2) t sc)) ∧ Below w.heap.size w w' := by
  rcases hT with h0 | ⟨b2, o2, rfl, hb2, hc2⟩
  · omega
  obtain ⟨ka, kc, q0, q1, q2, q3, rk⟩ := hc2 t ht
  rw [hks] at q3 rk
  rcases rk with h0 | ⟨b1, o1, rfl, hb1, hc1⟩
  · cases h0
  have k0 := hc1 0 (by simp)
  have k1 := hc1 1 (by simp)
  obtain ⟨va, vc, rfl, hvc⟩ := hv
  rcases hvc with h0 | ⟨gb, go, rfl, hgb, hcc⟩
  · omega
  obtain ⟨y0, y1⟩ := hcc x (by omega)
  obtain ⟨y2, y3⟩ := hcc y (by omega)
  refine rcomp_mem cap t x y b2 o2 kc b1 o1 gb go (pt T t).kind (pt T t).num (pt T t).text T.length l.length vc (l.getD x (0, 0)).1 (l.getD x (0, 0)).2 (l.getD y (0, 0)).1 (l.getD y (0, 0)).2 _ w ht (by omega) (by omega) hL (by omega) q0 q1 q2 q3 k0 k1 hb2 hb1 hgb y0 y1 y2 y3 ?_
  have est : ∀ si : Nat → Int, stO si [(x : Int), (y : Int)] t = if movB (si x) && movB (si y) then some (144, (t : Int)) else none := fun si => by
    unfold stO
    simp only [List.all_cons, List.all_nil, Int.toNat_natCast, Bool.and_true]
  rcases hk with ⟨h6, hn⟩ | h7
  · refine .inl ⟨h6, hn, ?_⟩
    unfold brO
    rw [if_pos h6, hks]
    simp only [List.getD_cons_zero, List.getD_cons_succ, Int.toNat_natCast]
    unfold cmO
    rw [est]
  · refine .inr ⟨h7, ?_⟩
    unfold brO
    rw [if_neg (by omega), if_pos h7, hks]
    simp only [List.getD_cons_zero, List.getD_cons_succ, Int.toNat_natCast]
    unfold mbO
    rw [est]
theorem tof_1 {a : Option Addr} {T : List Pt} {cap t : Nat} {sc : Int} {tv : Value} {l : List (Int × Int)} {w : World} (H : Tof w a T t sc tv l) (hk : (pt T t).kind = 1) : Calls Tryz.prog 24 #[.agg #[.slice a T.length cap], .int .i64 (t : Int), .int .i64 sc, tv] w fun e w' => TyE (brO T (fun j => (l.getD j (0, 0)).1) (fun j => (l.getD j (0, 0)).2) t sc) (tyS T (fun j => l.getD j (0, 0)) t) e ∧ Below w.heap.size w w' := by
  have hb : brO T (fun j => (l.getD j (0, 0)).1) (fun j => (l.getD j (0, 0)).2) t sc = none := by
    rw [br_as (by omega), hk]
    simp [asO, knB, nmB]
  have hn0 := kids_nil H.tab (by rw [hk]; rfl)
  refine tof H (O := none) (TY := (1, 0)) hb.symm (fun _ => by unfold tyS; rw [hk, hn0]; rfl) ?_
  intro W rb qb tb pb b2 o2 ka kc ga n gc
  intros
  rename_i ha hS hkv hn hrk
  rw [hk] at hS
  exact ty_1 w W t rb qb tb pb b2 o2 T.length cap sc tv (pt T t).text (pt T t).num ka (pt T t).kids.length kc ga n gc hS
theorem tof_2 {a : Option Addr} {T : List Pt} {cap t : Nat} {sc : Int} {tv : Value} {l : List (Int × Int)} {w : World} (H : Tof w a T t sc tv l) (hk : (pt T t).kind = 2) : Calls Tryz.prog 24 #[.agg #[.slice a T.length cap], .int .i64 (t : Int), .int .i64 sc, tv] w fun e w' => TyE (brO T (fun j => (l.getD j (0, 0)).1) (fun j => (l.getD j (0, 0)).2) t sc) (tyS T (fun j => l.getD j (0, 0)) t) e ∧ Below w.heap.size w w' := by
  have hb : brO T (fun j => (l.getD j (0, 0)).1) (fun j => (l.getD j (0, 0)).2) t sc = none := by
    rw [br_as (by omega), hk]
    simp [asO, knB, nmB]
  have hn0 := kids_nil H.tab (by rw [hk]; rfl)
  refine tof H (O := none) (TY := (1, 0)) hb.symm (fun _ => by unfold tyS; rw [hk, hn0]; rfl) ?_
  intro W rb qb tb pb b2 o2 ka kc ga n gc
  intros
  rename_i ha hS hkv hn hrk
  rw [hk] at hS
  exact ty_2 w W t rb qb tb pb b2 o2 T.length cap sc tv (pt T t).text (pt T t).num ka (pt T t).kids.length kc ga n gc hS
theorem tof_11 {a : Option Addr} {T : List Pt} {cap t : Nat} {sc : Int} {tv : Value} {l : List (Int × Int)} {w : World} (H : Tof w a T t sc tv l) (hk : (pt T t).kind = 11) : Calls Tryz.prog 24 #[.agg #[.slice a T.length cap], .int .i64 (t : Int), .int .i64 sc, tv] w fun e w' => TyE (brO T (fun j => (l.getD j (0, 0)).1) (fun j => (l.getD j (0, 0)).2) t sc) (tyS T (fun j => l.getD j (0, 0)) t) e ∧ Below w.heap.size w w' := by
  have hb : brO T (fun j => (l.getD j (0, 0)).1) (fun j => (l.getD j (0, 0)).2) t sc = none := by
    rw [br_as (by omega), hk]
    simp [asO, knB, nmB]
  have hn0 := kids_nil H.tab (by rw [hk]; rfl)
  refine tof H (O := none) (TY := (2, 0)) hb.symm (fun _ => by unfold tyS; rw [hk, hn0]; rfl) ?_
  intro W rb qb tb pb b2 o2 ka kc ga n gc
  intros
  rename_i ha hS hkv hn hrk
  rw [hk] at hS
  exact ty_11 w W t rb qb tb pb b2 o2 T.length cap sc tv (pt T t).text (pt T t).num ka (pt T t).kids.length kc ga n gc hS
theorem tof_12 {a : Option Addr} {T : List Pt} {cap t : Nat} {sc : Int} {tv : Value} {l : List (Int × Int)} {w : World} (H : Tof w a T t sc tv l) (hk : (pt T t).kind = 12) : Calls Tryz.prog 24 #[.agg #[.slice a T.length cap], .int .i64 (t : Int), .int .i64 sc, tv] w fun e w' => TyE (brO T (fun j => (l.getD j (0, 0)).1) (fun j => (l.getD j (0, 0)).2) t sc) (tyS T (fun j => l.getD j (0, 0)) t) e ∧ Below w.heap.size w w' := by
  have hb : brO T (fun j => (l.getD j (0, 0)).1) (fun j => (l.getD j (0, 0)).2) t sc = none := by
    rw [br_as (by omega), hk]
    simp [asO, knB, nmB]
  have hn0 := kids_nil H.tab (by rw [hk]; rfl)
  refine tof H (O := none) (TY := (3, 0)) hb.symm (fun _ => by unfold tyS; rw [hk, hn0]; rfl) ?_
  intro W rb qb tb pb b2 o2 ka kc ga n gc
  intros
  rename_i ha hS hkv hn hrk
  rw [hk] at hS
  exact ty_12 w W t rb qb tb pb b2 o2 T.length cap sc tv (pt T t).text (pt T t).num ka (pt T t).kids.length kc ga n gc hS
theorem tof_3 {a : Option Addr} {T : List Pt} {cap t : Nat} {sc : Int} {tv : Value} {l : List (Int × Int)} {w : World} (H : Tof w a T t sc tv l) (hk : (pt T t).kind = 3) : Calls Tryz.prog 24 #[.agg #[.slice a T.length cap], .int .i64 (t : Int), .int .i64 sc, tv] w fun e w' => TyE (brO T (fun j => (l.getD j (0, 0)).1) (fun j => (l.getD j (0, 0)).2) t sc) (tyS T (fun j => l.getD j (0, 0)) t) e ∧ Below w.heap.size w w' := by
  have hb : brO T (fun j => (l.getD j (0, 0)).1) (fun j => (l.getD j (0, 0)).2) t sc = none := by
    rw [br_as (by omega), hk]
    simp [asO, knB, nmB]
  have hty : tyS T (fun j => l.getD j (0, 0)) t = (1, jnL ((pt T t).kids.map fun x => l.getD x.toNat (0, 0)) 0) := by
    unfold tyS
    rw [jnL_is (fun j => l.getD j (0, 0)), hk]
    rfl
  have hkl := H.G.kl t H.ht
  refine tof H (O := none) (TY := (1, jnL ((pt T t).kids.map fun x => l.getD x.toNat (0, 0)) 0)) hb.symm (fun _ => hty.symm) ?_
  intro W rb qb tb pb b2 o2 ka kc ga n gc
  intros
  rename_i ha hS hkv hn hrk
  rw [hk] at hS
  refine ty_3 w W t rb qb tb pb b2 o2 T.length cap sc tv (pt T t).text (pt T t).num ka (pt T t).kids.length kc ga n gc hS _ hkv (by rw [hn, List.length_map]) (by omega) ?_
  intro j hj
  rw [List.length_map] at hj
  obtain ⟨_, _, h1, h2⟩ := H.kid (List.getElem_mem hj)
  rw [List.getD_eq_getElem?_getD, List.getElem?_map, List.getElem?_eq_getElem hj]
  rw [hk] at h2
  have h3 : 1 ≤ (pt T ((pt T t).kids[j]).toNat).kind ∧ (pt T ((pt T t).kids[j]).toNat).kind ≤ 10 := by simpa [clsB] using h2
  exact h1.bool h3.1 h3.2
theorem tof_4 {a : Option Addr} {T : List Pt} {cap t : Nat} {sc : Int} {tv : Value} {l : List (Int × Int)} {w : World} (H : Tof w a T t sc tv l) (hk : (pt T t).kind = 4) : Calls Tryz.prog 24 #[.agg #[.slice a T.length cap], .int .i64 (t : Int), .int .i64 sc, tv] w fun e w' => TyE (brO T (fun j => (l.getD j (0, 0)).1) (fun j => (l.getD j (0, 0)).2) t sc) (tyS T (fun j => l.getD j (0, 0)) t) e ∧ Below w.heap.size w w' := by
  have hb : brO T (fun j => (l.getD j (0, 0)).1) (fun j => (l.getD j (0, 0)).2) t sc = none := by
    rw [br_as (by omega), hk]
    simp [asO, knB, nmB]
  have hty : tyS T (fun j => l.getD j (0, 0)) t = (1, jnL ((pt T t).kids.map fun x => l.getD x.toNat (0, 0)) 0) := by
    unfold tyS
    rw [jnL_is (fun j => l.getD j (0, 0)), hk]
    rfl
  have hkl := H.G.kl t H.ht
  refine tof H (O := none) (TY := (1, jnL ((pt T t).kids.map fun x => l.getD x.toNat (0, 0)) 0)) hb.symm (fun _ => hty.symm) ?_
  intro W rb qb tb pb b2 o2 ka kc ga n gc
  intros
  rename_i ha hS hkv hn hrk
  rw [hk] at hS
  refine ty_4 w W t rb qb tb pb b2 o2 T.length cap sc tv (pt T t).text (pt T t).num ka (pt T t).kids.length kc ga n gc hS _ hkv (by rw [hn, List.length_map]) (by omega) ?_
  intro j hj
  rw [List.length_map] at hj
  obtain ⟨_, _, h1, h2⟩ := H.kid (List.getElem_mem hj)
  rw [List.getD_eq_getElem?_getD, List.getElem?_map, List.getElem?_eq_getElem hj]
  rw [hk] at h2
  have h3 : 1 ≤ (pt T ((pt T t).kids[j]).toNat).kind ∧ (pt T ((pt T t).kids[j]).toNat).kind ≤ 10 := by simpa [clsB] using h2
  exact h1.bool h3.1 h3.2
theorem tof_5 {a : Option Addr} {T : List Pt} {cap t : Nat} {sc : Int} {tv : Value} {l : List (Int × Int)} {w : World} (H : Tof w a T t sc tv l) (hk : (pt T t).kind = 5) : Calls Tryz.prog 24 #[.agg #[.slice a T.length cap], .int .i64 (t : Int), .int .i64 sc, tv] w fun e w' => TyE (brO T (fun j => (l.getD j (0, 0)).1) (fun j => (l.getD j (0, 0)).2) t sc) (tyS T (fun j => l.getD j (0, 0)) t) e ∧ Below w.heap.size w w' := by
  have hb : brO T (fun j => (l.getD j (0, 0)).1) (fun j => (l.getD j (0, 0)).2) t sc = none := by
    rw [br_as (by omega), hk]
    simp [asO, knB, nmB]
  have hty : tyS T (fun j => l.getD j (0, 0)) t = (1, jnL ((pt T t).kids.map fun x => l.getD x.toNat (0, 0)) 0) := by
    unfold tyS
    rw [jnL_is (fun j => l.getD j (0, 0)), hk]
    rfl
  have hkl := H.G.kl t H.ht
  refine tof H (O := none) (TY := (1, jnL ((pt T t).kids.map fun x => l.getD x.toNat (0, 0)) 0)) hb.symm (fun _ => hty.symm) ?_
  intro W rb qb tb pb b2 o2 ka kc ga n gc
  intros
  rename_i ha hS hkv hn hrk
  rw [hk] at hS
  refine ty_5 w W t rb qb tb pb b2 o2 T.length cap sc tv (pt T t).text (pt T t).num ka (pt T t).kids.length kc ga n gc hS _ hkv (by rw [hn, List.length_map]) (by omega) ?_
  intro j hj
  rw [List.length_map] at hj
  obtain ⟨_, _, h1, h2⟩ := H.kid (List.getElem_mem hj)
  rw [List.getD_eq_getElem?_getD, List.getElem?_map, List.getElem?_eq_getElem hj]
  rw [hk] at h2
  have h3 : 1 ≤ (pt T ((pt T t).kids[j]).toNat).kind ∧ (pt T ((pt T t).kids[j]).toNat).kind ≤ 10 := by simpa [clsB] using h2
  exact h1.bool h3.1 h3.2
theorem tof_6 {a : Option Addr} {T : List Pt} {cap t : Nat} {sc : Int} {tv : Value} {l : List (Int × Int)} {w : World} (H : Tof w a T t sc tv l) (hk : (pt T t).kind = 6) : Calls Tryz.prog 24 #[.agg #[.slice a T.length cap], .int .i64 (t : Int), .int .i64 sc, tv] w fun e w' => TyE (brO T (fun j => (l.getD j (0, 0)).1) (fun j => (l.getD j (0, 0)).2) t sc) (tyS T (fun j => l.getD j (0, 0)) t) e ∧ Below w.heap.size w w' := by
  have htb := H.tab.1
  rw [hk] at htb
  obtain ⟨x', y', hks⟩ := two_kids (ks := (pt T t).kids) (by simpa [kidsB] using htb)
  obtain ⟨hx0, hx1, _⟩ := H.kid (x := x') (by rw [hks]; simp)
  obtain ⟨hy0, hy1, _⟩ := H.kid (x := y') (by rw [hks]; simp)
  obtain ⟨x, rfl⟩ : ∃ x : Nat, x' = x := ⟨x'.toNat, by omega⟩
  obtain ⟨y, rfl⟩ : ∃ y : Nat, y' = y := ⟨y'.toNat, by omega⟩
  have hkk : (pt T t).kind = 6 ∧ 1 ≤ (pt T t).num ∨ (pt T t).kind = 7 := by
    have h := H.tab.2.2.2.1
    rw [hk] at h
    have h2 : 1 ≤ (pt T t).num := by simp [holdsB] at h; omega
    exact .inl ⟨hk, h2⟩
  have hty : tyS T (fun j => l.getD j (0, 0)) t = (1, jnL ((pt T t).kids.map fun x => l.getD x.toNat (0, 0)) 0) := by
    unfold tyS
    rw [jnL_is (fun j => l.getD j (0, 0)), hk]
    rfl
  have hkl := H.G.kl t H.ht
  refine tof H (O := brO T (fun j => (l.getD j (0, 0)).1) (fun j => (l.getD j (0, 0)).2) t sc) (TY := (1, jnL ((pt T t).kids.map fun x => l.getD x.toNat (0, 0)) 0)) rfl (fun _ => hty.symm) ?_
  intro W rb qb tb pb b2 o2 ka kc ga n gc
  intros
  rename_i ha hS hkv hn hrk
  rw [hk] at hS
  subst ha
  exact ty_6 w W t rb qb tb pb b2 o2 T.length cap sc tv (pt T t).text (pt T t).num ka (pt T t).kids.length kc ga n gc hS _ hkv (by rw [hn, List.length_map]) (by omega) _ (fun W' hb => rcomp_any _ T cap t x y tv l sc W' (H.hT.low (bchS hS.C.low hb)) H.ht H.G.len hks (by omega) (by omega) (H.hv.low (bchS hS.C.low hb)) H.hl hkk)
theorem tof_7 {a : Option Addr} {T : List Pt} {cap t : Nat} {sc : Int} {tv : Value} {l : List (Int × Int)} {w : World} (H : Tof w a T t sc tv l) (hk : (pt T t).kind = 7) : Calls Tryz.prog 24 #[.agg #[.slice a T.length cap], .int .i64 (t : Int), .int .i64 sc, tv] w fun e w' => TyE (brO T (fun j => (l.getD j (0, 0)).1) (fun j => (l.getD j (0, 0)).2) t sc) (tyS T (fun j => l.getD j (0, 0)) t) e ∧ Below w.heap.size w w' := by
  have htb := H.tab.1
  rw [hk] at htb
  obtain ⟨x', y', hks⟩ := two_kids (ks := (pt T t).kids) (by simpa [kidsB] using htb)
  obtain ⟨hx0, hx1, _⟩ := H.kid (x := x') (by rw [hks]; simp)
  obtain ⟨hy0, hy1, _⟩ := H.kid (x := y') (by rw [hks]; simp)
  obtain ⟨x, rfl⟩ : ∃ x : Nat, x' = x := ⟨x'.toNat, by omega⟩
  obtain ⟨y, rfl⟩ : ∃ y : Nat, y' = y := ⟨y'.toNat, by omega⟩
  have hkk : (pt T t).kind = 6 ∧ 1 ≤ (pt T t).num ∨ (pt T t).kind = 7 := by
    exact .inr hk
  have hty : tyS T (fun j => l.getD j (0, 0)) t = (1, jnL ((pt T t).kids.map fun x => l.getD x.toNat (0, 0)) 0) := by
    unfold tyS
    rw [jnL_is (fun j => l.getD j (0, 0)), hk]
    rfl
  have hkl := H.G.kl t H.ht
  refine tof H (O := brO T (fun j => (l.getD j (0, 0)).1) (fun j => (l.getD j (0, 0)).2) t sc) (TY := (1, jnL ((pt T t).kids.map fun x => l.getD x.toNat (0, 0)) 0)) rfl (fun _ => hty.symm) ?_
  intro W rb qb tb pb b2 o2 ka kc ga n gc
  intros
  rename_i ha hS hkv hn hrk
  rw [hk] at hS
  subst ha
  exact ty_7 w W t rb qb tb pb b2 o2 T.length cap sc tv (pt T t).text (pt T t).num ka (pt T t).kids.length kc ga n gc hS _ hkv (by rw [hn, List.length_map]) (by omega) _ (fun W' hb => rcomp_any _ T cap t x y tv l sc W' (H.hT.low (bchS hS.C.low hb)) H.ht H.G.len hks (by omega) (by omega) (H.hv.low (bchS hS.C.low hb)) H.hl hkk)
theorem tof_8 {a : Option Addr} {T : List Pt} {cap t : Nat} {sc : Int} {tv : Value} {l : List (Int × Int)} {w : World} (H : Tof w a T t sc tv l) (hk : (pt T t).kind = 8) : Calls Tryz.prog 24 #[.agg #[.slice a T.length cap], .int .i64 (t : Int), .int .i64 sc, tv] w fun e w' => TyE (brO T (fun j => (l.getD j (0, 0)).1) (fun j => (l.getD j (0, 0)).2) t sc) (tyS T (fun j => l.getD j (0, 0)) t) e ∧ Below w.heap.size w w' := by
  have htb := H.tab.1
  rw [hk] at htb
  obtain ⟨x, hks⟩ := one_kid (ks := (pt T t).kids) (by simpa [kidsB] using htb)
  obtain ⟨_, _, h1, h2⟩ := H.kid (x := x) (by rw [hks]; simp)
  rw [hk] at h2
  have h3 : 1 ≤ (pt T x.toNat).kind ∧ (pt T x.toNat).kind ≤ 10 := by simpa [clsB] using h2
  have h4 := h1.bool h3.1 h3.2
  have hs := H.G.txt t H.ht
  by_cases hc : sc = 2
  · subst hc
    cases hky : keyB (pt T t).text
    · have hb : brO T (fun j => (l.getD j (0, 0)).1) (fun j => (l.getD j (0, 0)).2) t 2 = some (147, (t : Int)) := by
        rw [br_as (by omega), hk]
        simp [asO, knB, nmB, hky]
      refine tof H (O := some (147, (t : Int))) (TY := (0, 0)) hb.symm (fun h => by rw [hb] at h; cases h) ?_
      intro W rb qb tb pb b2 o2 ka kc ga n gc
      intros
      rename_i ha hS hkv hn hrk
      rw [hk] at hS
      rw [hks] at hkv
      obtain ⟨hn1, gb, go, h5, h6, h7, _⟩ := tyv_one hkv
      rw [h4] at h7
      exact ty_8b w W t rb qb tb pb b2 o2 T.length cap 2 tv (pt T t).text (pt T t).num ka (pt T t).kids.length kc ga n gc hS rfl hs gb go h5 h6 (by omega) h7 hky
    · have hb : brO T (fun j => (l.getD j (0, 0)).1) (fun j => (l.getD j (0, 0)).2) t 2 = none := by
        rw [br_as (by omega), hk]
        simp [asO, knB, nmB, hky]
      refine tof H (O := none) (TY := (1, 2)) hb.symm (fun _ => by unfold tyS; rw [hk]; rfl) ?_
      intro W rb qb tb pb b2 o2 ka kc ga n gc
      intros
      rename_i ha hS hkv hn hrk
      rw [hk] at hS
      rw [hks] at hkv
      obtain ⟨hn1, gb, go, h5, h6, h7, _⟩ := tyv_one hkv
      rw [h4] at h7
      exact ty_8c w W t rb qb tb pb b2 o2 T.length cap 2 tv (pt T t).text (pt T t).num ka (pt T t).kids.length kc ga n gc hS rfl hs gb go h5 h6 (by omega) h7 hky
  · have hb : brO T (fun j => (l.getD j (0, 0)).1) (fun j => (l.getD j (0, 0)).2) t sc = some (143, (t : Int)) := by
      rw [br_as (by omega), hk]
      simp [asO, knB, selB, hc]
    refine tof H (O := some (143, (t : Int))) (TY := (0, 0)) hb.symm (fun h => by rw [hb] at h; cases h) ?_
    intro W rb qb tb pb b2 o2 ka kc ga n gc
    intros
    rename_i ha hS hkv hn hrk
    rw [hk] at hS
    exact ty_8a w W t rb qb tb pb b2 o2 T.length cap sc tv (pt T t).text (pt T t).num ka (pt T t).kids.length kc ga n gc hS hc
theorem tof_9 {a : Option Addr} {T : List Pt} {cap t : Nat} {sc : Int} {tv : Value} {l : List (Int × Int)} {w : World} (H : Tof w a T t sc tv l) (hk : (pt T t).kind = 9) : Calls Tryz.prog 24 #[.agg #[.slice a T.length cap], .int .i64 (t : Int), .int .i64 sc, tv] w fun e w' => TyE (brO T (fun j => (l.getD j (0, 0)).1) (fun j => (l.getD j (0, 0)).2) t sc) (tyS T (fun j => l.getD j (0, 0)) t) e ∧ Below w.heap.size w w' := by
  have htb := H.tab.1
  rw [hk] at htb
  obtain ⟨x, hks⟩ := one_kid (ks := (pt T t).kids) (by simpa [kidsB] using htb)
  obtain ⟨_, _, h1, h2⟩ := H.kid (x := x) (by rw [hks]; simp)
  rw [hk] at h2
  have h3 : 1 ≤ (pt T x.toNat).kind ∧ (pt T x.toNat).kind ≤ 10 := by simpa [clsB] using h2
  have h4 := h1.bool h3.1 h3.2
  have hs := H.G.txt t H.ht
  by_cases hc : sc = 2
  · subst hc
    cases hky : keyB (pt T t).text
    · have hb : brO T (fun j => (l.getD j (0, 0)).1) (fun j => (l.getD j (0, 0)).2) t 2 = some (147, (t : Int)) := by
        rw [br_as (by omega), hk]
        simp [asO, knB, nmB, hky]
      refine tof H (O := some (147, (t : Int))) (TY := (0, 0)) hb.symm (fun h => by rw [hb] at h; cases h) ?_
      intro W rb qb tb pb b2 o2 ka kc ga n gc
      intros
      rename_i ha hS hkv hn hrk
      rw [hk] at hS
      rw [hks] at hkv
      obtain ⟨hn1, gb, go, h5, h6, h7, _⟩ := tyv_one hkv
      rw [h4] at h7
      exact ty_9b w W t rb qb tb pb b2 o2 T.length cap 2 tv (pt T t).text (pt T t).num ka (pt T t).kids.length kc ga n gc hS rfl hs gb go h5 h6 (by omega) h7 hky
    · have hb : brO T (fun j => (l.getD j (0, 0)).1) (fun j => (l.getD j (0, 0)).2) t 2 = none := by
        rw [br_as (by omega), hk]
        simp [asO, knB, nmB, hky]
      refine tof H (O := none) (TY := (1, 2)) hb.symm (fun _ => by unfold tyS; rw [hk]; rfl) ?_
      intro W rb qb tb pb b2 o2 ka kc ga n gc
      intros
      rename_i ha hS hkv hn hrk
      rw [hk] at hS
      rw [hks] at hkv
      obtain ⟨hn1, gb, go, h5, h6, h7, _⟩ := tyv_one hkv
      rw [h4] at h7
      exact ty_9c w W t rb qb tb pb b2 o2 T.length cap 2 tv (pt T t).text (pt T t).num ka (pt T t).kids.length kc ga n gc hS rfl hs gb go h5 h6 (by omega) h7 hky
  · have hb : brO T (fun j => (l.getD j (0, 0)).1) (fun j => (l.getD j (0, 0)).2) t sc = some (143, (t : Int)) := by
      rw [br_as (by omega), hk]
      simp [asO, knB, selB, hc]
    refine tof H (O := some (143, (t : Int))) (TY := (0, 0)) hb.symm (fun h => by rw [hb] at h; cases h) ?_
    intro W rb qb tb pb b2 o2 ka kc ga n gc
    intros
    rename_i ha hS hkv hn hrk
    rw [hk] at hS
    exact ty_9a w W t rb qb tb pb b2 o2 T.length cap sc tv (pt T t).text (pt T t).num ka (pt T t).kids.length kc ga n gc hS hc
theorem tof_20 {a : Option Addr} {T : List Pt} {cap t : Nat} {sc : Int} {tv : Value} {l : List (Int × Int)} {w : World} (H : Tof w a T t sc tv l) (hk : (pt T t).kind = 20) : Calls Tryz.prog 24 #[.agg #[.slice a T.length cap], .int .i64 (t : Int), .int .i64 sc, tv] w fun e w' => TyE (brO T (fun j => (l.getD j (0, 0)).1) (fun j => (l.getD j (0, 0)).2) t sc) (tyS T (fun j => l.getD j (0, 0)) t) e ∧ Below w.heap.size w w' := by
  have htb := H.tab.1
  rw [hk] at htb
  obtain ⟨x, hks⟩ := one_kid (ks := (pt T t).kids) (by simpa [kidsB] using htb)
  obtain ⟨_, _, h1, h2⟩ := H.kid (x := x) (by rw [hks]; simp)
  rw [hk] at h2
  have h3 : 1 ≤ (pt T x.toNat).kind ∧ (pt T x.toNat).kind ≤ 10 := by simpa [clsB] using h2
  have h4 := h1.bool h3.1 h3.2
  have hs := H.G.txt t H.ht
  by_cases hc : sc = 2
  · subst hc
    cases hky : keyB (pt T t).text
    · have hb : brO T (fun j => (l.getD j (0, 0)).1) (fun j => (l.getD j (0, 0)).2) t 2 = some (147, (t : Int)) := by
        rw [br_as (by omega), hk]
        simp [asO, knB, nmB, hky]
      refine tof H (O := some (147, (t : Int))) (TY := (0, 0)) hb.symm (fun h => by rw [hb] at h; cases h) ?_
      intro W rb qb tb pb b2 o2 ka kc ga n gc
      intros
      rename_i ha hS hkv hn hrk
      rw [hk] at hS
      rw [hks] at hkv
      obtain ⟨hn1, gb, go, h5, h6, h7, _⟩ := tyv_one hkv
      rw [h4] at h7
      exact ty_20b w W t rb qb tb pb b2 o2 T.length cap 2 tv (pt T t).text (pt T t).num ka (pt T t).kids.length kc ga n gc hS rfl hs gb go h5 h6 (by omega) h7 hky
    · have hb : brO T (fun j => (l.getD j (0, 0)).1) (fun j => (l.getD j (0, 0)).2) t 2 = none := by
        rw [br_as (by omega), hk]
        simp [asO, knB, nmB, hky]
      refine tof H (O := none) (TY := (3, 2)) hb.symm (fun _ => by unfold tyS; rw [hk]; rfl) ?_
      intro W rb qb tb pb b2 o2 ka kc ga n gc
      intros
      rename_i ha hS hkv hn hrk
      rw [hk] at hS
      rw [hks] at hkv
      obtain ⟨hn1, gb, go, h5, h6, h7, _⟩ := tyv_one hkv
      rw [h4] at h7
      exact ty_20c w W t rb qb tb pb b2 o2 T.length cap 2 tv (pt T t).text (pt T t).num ka (pt T t).kids.length kc ga n gc hS rfl hs gb go h5 h6 (by omega) h7 hky
  · have hb : brO T (fun j => (l.getD j (0, 0)).1) (fun j => (l.getD j (0, 0)).2) t sc = some (143, (t : Int)) := by
      rw [br_as (by omega), hk]
      simp [asO, knB, selB, hc]
    refine tof H (O := some (143, (t : Int))) (TY := (0, 0)) hb.symm (fun h => by rw [hb] at h; cases h) ?_
    intro W rb qb tb pb b2 o2 ka kc ga n gc
    intros
    rename_i ha hS hkv hn hrk
    rw [hk] at hS
    exact ty_20a w W t rb qb tb pb b2 o2 T.length cap sc tv (pt T t).text (pt T t).num ka (pt T t).kids.length kc ga n gc hS hc
theorem tof_10 {a : Option Addr} {T : List Pt} {cap t : Nat} {sc : Int} {tv : Value} {l : List (Int × Int)} {w : World} (H : Tof w a T t sc tv l) (hk : (pt T t).kind = 10) : Calls Tryz.prog 24 #[.agg #[.slice a T.length cap], .int .i64 (t : Int), .int .i64 sc, tv] w fun e w' => TyE (brO T (fun j => (l.getD j (0, 0)).1) (fun j => (l.getD j (0, 0)).2) t sc) (tyS T (fun j => l.getD j (0, 0)) t) e ∧ Below w.heap.size w w' := by
  by_cases hc : sc = 2
  · subst hc
    cases hky : effB (pt T t).text
    · have hb : brO T (fun j => (l.getD j (0, 0)).1) (fun j => (l.getD j (0, 0)).2) t 2 = some (147, (t : Int)) := by
        rw [br_as (by omega), hk]
        simp [asO, knB, nmB, hky]
      refine tof H (O := some (147, (t : Int))) (TY := (0, 0)) hb.symm (fun h => by rw [hb] at h; cases h) ?_
      intro W rb qb tb pb b2 o2 ka kc ga n gc
      intros
      rename_i ha hS hkv hn hrk
      rw [hk] at hS
      exact ty_10b w W t rb qb tb pb b2 o2 T.length cap 2 tv (pt T t).text (pt T t).num ka (pt T t).kids.length kc ga n gc hS rfl hky
    · have hb : brO T (fun j => (l.getD j (0, 0)).1) (fun j => (l.getD j (0, 0)).2) t 2 = none := by
        rw [br_as (by omega), hk]
        simp [asO, knB, nmB, hky]
      refine tof H (O := none) (TY := (1, 2)) hb.symm (fun _ => by unfold tyS; rw [hk]; rfl) ?_
      intro W rb qb tb pb b2 o2 ka kc ga n gc
      intros
      rename_i ha hS hkv hn hrk
      rw [hk] at hS
      exact ty_10c w W t rb qb tb pb b2 o2 T.length cap 2 tv (pt T t).text (pt T t).num ka (pt T t).kids.length kc ga n gc hS rfl hky
  · have hb : brO T (fun j => (l.getD j (0, 0)).1) (fun j => (l.getD j (0, 0)).2) t sc = some (142, (t : Int)) := by
      rw [br_as (by omega), hk]
      simp [asO, knB, selB, hc]
    refine tof H (O := some (142, (t : Int))) (TY := (0, 0)) hb.symm (fun h => by rw [hb] at h; cases h) ?_
    intro W rb qb tb pb b2 o2 ka kc ga n gc
    intros
    rename_i ha hS hkv hn hrk
    rw [hk] at hS
    exact ty_10a w W t rb qb tb pb b2 o2 T.length cap sc tv (pt T t).text (pt T t).num ka (pt T t).kids.length kc ga n gc hS hc
theorem tof_14 {a : Option Addr} {T : List Pt} {cap t : Nat} {sc : Int} {tv : Value} {l : List (Int × Int)} {w : World} (H : Tof w a T t sc tv l) (hk : (pt T t).kind = 14) : Calls Tryz.prog 24 #[.agg #[.slice a T.length cap], .int .i64 (t : Int), .int .i64 sc, tv] w fun e w' => TyE (brO T (fun j => (l.getD j (0, 0)).1) (fun j => (l.getD j (0, 0)).2) t sc) (tyS T (fun j => l.getD j (0, 0)) t) e ∧ Below w.heap.size w w' := by
  have hb : brO T (fun j => (l.getD j (0, 0)).1) (fun j => (l.getD j (0, 0)).2) t sc = asO 14 (pt T t).num sc (pt T t).text t := by rw [br_as (by omega), hk]
  have hs := H.G.txt t H.ht
  refine tof H (O := asO 14 (pt T t).num sc (pt T t).text t) (TY := (srO 14 0 0, siO 14 (pt T t).num 0)) hb.symm (fun _ => by unfold tyS; rw [hk]; rfl) ?_
  intro W rb qb tb pb b2 o2 ka kc ga n gc
  intros
  rename_i ha hS hkv hn hrk
  rw [hk] at hS
  exact ty_14 w W t rb qb tb pb b2 o2 T.length cap sc tv (pt T t).text (pt T t).num ka (pt T t).kids.length kc ga n gc hS _ _ (fun W' => speak_any 14 (pt T t).text (pt T t).num t sc _ W' hs H.sc (by omega))
theorem tof_15 {a : Option Addr} {T : List Pt} {cap t : Nat} {sc : Int} {tv : Value} {l : List (Int × Int)} {w : World} (H : Tof w a T t sc tv l) (hk : (pt T t).kind = 15) : Calls Tryz.prog 24 #[.agg #[.slice a T.length cap], .int .i64 (t : Int), .int .i64 sc, tv] w fun e w' => TyE (brO T (fun j => (l.getD j (0, 0)).1) (fun j => (l.getD j (0, 0)).2) t sc) (tyS T (fun j => l.getD j (0, 0)) t) e ∧ Below w.heap.size w w' := by
  have hb : brO T (fun j => (l.getD j (0, 0)).1) (fun j => (l.getD j (0, 0)).2) t sc = asO 15 (pt T t).num sc (pt T t).text t := by rw [br_as (by omega), hk]
  have hs := H.G.txt t H.ht
  refine tof H (O := asO 15 (pt T t).num sc (pt T t).text t) (TY := (srO 15 0 0, siO 15 (pt T t).num 0)) hb.symm (fun _ => by unfold tyS; rw [hk]; rfl) ?_
  intro W rb qb tb pb b2 o2 ka kc ga n gc
  intros
  rename_i ha hS hkv hn hrk
  rw [hk] at hS
  exact ty_15 w W t rb qb tb pb b2 o2 T.length cap sc tv (pt T t).text (pt T t).num ka (pt T t).kids.length kc ga n gc hS _ _ (fun W' => speak_any 15 (pt T t).text (pt T t).num t sc _ W' hs H.sc (by omega))
theorem tof_16 {a : Option Addr} {T : List Pt} {cap t : Nat} {sc : Int} {tv : Value} {l : List (Int × Int)} {w : World} (H : Tof w a T t sc tv l) (hk : (pt T t).kind = 16) : Calls Tryz.prog 24 #[.agg #[.slice a T.length cap], .int .i64 (t : Int), .int .i64 sc, tv] w fun e w' => TyE (brO T (fun j => (l.getD j (0, 0)).1) (fun j => (l.getD j (0, 0)).2) t sc) (tyS T (fun j => l.getD j (0, 0)) t) e ∧ Below w.heap.size w w' := by
  have hb : brO T (fun j => (l.getD j (0, 0)).1) (fun j => (l.getD j (0, 0)).2) t sc = asO 16 (pt T t).num sc (pt T t).text t := by rw [br_as (by omega), hk]
  have hs := H.G.txt t H.ht
  refine tof H (O := asO 16 (pt T t).num sc (pt T t).text t) (TY := (srO 16 0 0, siO 16 (pt T t).num 0)) hb.symm (fun _ => by unfold tyS; rw [hk]; rfl) ?_
  intro W rb qb tb pb b2 o2 ka kc ga n gc
  intros
  rename_i ha hS hkv hn hrk
  rw [hk] at hS
  exact ty_16 w W t rb qb tb pb b2 o2 T.length cap sc tv (pt T t).text (pt T t).num ka (pt T t).kids.length kc ga n gc hS _ _ (fun W' => speak_any 16 (pt T t).text (pt T t).num t sc _ W' hs H.sc (by omega))
theorem tof_17 {a : Option Addr} {T : List Pt} {cap t : Nat} {sc : Int} {tv : Value} {l : List (Int × Int)} {w : World} (H : Tof w a T t sc tv l) (hk : (pt T t).kind = 17) : Calls Tryz.prog 24 #[.agg #[.slice a T.length cap], .int .i64 (t : Int), .int .i64 sc, tv] w fun e w' => TyE (brO T (fun j => (l.getD j (0, 0)).1) (fun j => (l.getD j (0, 0)).2) t sc) (tyS T (fun j => l.getD j (0, 0)) t) e ∧ Below w.heap.size w w' := by
  have hb : brO T (fun j => (l.getD j (0, 0)).1) (fun j => (l.getD j (0, 0)).2) t sc = asO 17 (pt T t).num sc (pt T t).text t := by rw [br_as (by omega), hk]
  have hs := H.G.txt t H.ht
  refine tof H (O := asO 17 (pt T t).num sc (pt T t).text t) (TY := (srO 17 0 0, siO 17 (pt T t).num 0)) hb.symm (fun _ => by unfold tyS; rw [hk]; rfl) ?_
  intro W rb qb tb pb b2 o2 ka kc ga n gc
  intros
  rename_i ha hS hkv hn hrk
  rw [hk] at hS
  exact ty_17 w W t rb qb tb pb b2 o2 T.length cap sc tv (pt T t).text (pt T t).num ka (pt T t).kids.length kc ga n gc hS _ _ (fun W' => speak_any 17 (pt T t).text (pt T t).num t sc _ W' hs H.sc (by omega))
theorem tof_18 {a : Option Addr} {T : List Pt} {cap t : Nat} {sc : Int} {tv : Value} {l : List (Int × Int)} {w : World} (H : Tof w a T t sc tv l) (hk : (pt T t).kind = 18) : Calls Tryz.prog 24 #[.agg #[.slice a T.length cap], .int .i64 (t : Int), .int .i64 sc, tv] w fun e w' => TyE (brO T (fun j => (l.getD j (0, 0)).1) (fun j => (l.getD j (0, 0)).2) t sc) (tyS T (fun j => l.getD j (0, 0)) t) e ∧ Below w.heap.size w w' := by
  have hb : brO T (fun j => (l.getD j (0, 0)).1) (fun j => (l.getD j (0, 0)).2) t sc = asO 18 (pt T t).num sc (pt T t).text t := by rw [br_as (by omega), hk]
  have hs := H.G.txt t H.ht
  refine tof H (O := asO 18 (pt T t).num sc (pt T t).text t) (TY := (srO 18 0 0, siO 18 (pt T t).num 0)) hb.symm (fun _ => by unfold tyS; rw [hk]; rfl) ?_
  intro W rb qb tb pb b2 o2 ka kc ga n gc
  intros
  rename_i ha hS hkv hn hrk
  rw [hk] at hS
  exact ty_18 w W t rb qb tb pb b2 o2 T.length cap sc tv (pt T t).text (pt T t).num ka (pt T t).kids.length kc ga n gc hS _ _ (fun W' => speak_any 18 (pt T t).text (pt T t).num t sc _ W' hs H.sc (by omega))
theorem al_kinds {T : List Pt} {so : Nat → Int} {k0 s0 : Int} (h0 : k0 = 11 ∧ s0 = 2 ∨ k0 = 12 ∧ s0 = 3) : ∀ {ks : List Int}, (∀ x ∈ ks, (pt T x.toNat).kind = 11 ∧ so x.toNat = 2 ∨ (pt T x.toNat).kind = 12 ∧ so x.toNat = 3) → alO (fun j => (pt T j).kind) k0 ks = alO so s0 ks
  | [], _ => rfl
  | x :: r, h => by
    have hx := h x (List.mem_cons_self ..)
    have ih := al_kinds h0 (fun y hy => h y (List.mem_cons_of_mem _ hy))
    simp only [alO]
    rw [ih]
    rcases h0 with ⟨rfl, rfl⟩ | ⟨rfl, rfl⟩ <;> rcases hx with ⟨h1, h2⟩ | ⟨h1, h2⟩ <;> simp [h1, h2]
theorem jn_zero {si : Nat → Int} : ∀ {ks : List Int}, (∀ x ∈ ks, si x.toNat = 0) → jnO si ks 0 = 0
  | [], _ => rfl
  | x :: r, h => by
    have hx := h x (List.mem_cons_self ..)
    simp only [jnO, hx]
    simpa [movB] using jn_zero (fun y hy => h y (List.mem_cons_of_mem _ hy))
theorem tof_13 {a : Option Addr} {T : List Pt} {cap t : Nat} {sc : Int} {tv : Value} {l : List (Int × Int)} {w : World} (H : Tof w a T t sc tv l) (hk : (pt T t).kind = 13) : Calls Tryz.prog 24 #[.agg #[.slice a T.length cap], .int .i64 (t : Int), .int .i64 sc, tv] w fun e w' => TyE (brO T (fun j => (l.getD j (0, 0)).1) (fun j => (l.getD j (0, 0)).2) t sc) (tyS T (fun j => l.getD j (0, 0)) t) e ∧ Below w.heap.size w w' := by
  have hkk : ∀ x ∈ (pt T t).kids, ((pt T x.toNat).kind = 11 ∧ l.getD x.toNat (0, 0) = (2, 0)) ∨ ((pt T x.toNat).kind = 12 ∧ l.getD x.toNat (0, 0) = (3, 0)) := fun x hx => by
    obtain ⟨_, _, h1, h2⟩ := H.kid hx
    rw [hk] at h2
    have h3 : (pt T x.toNat).kind = 11 ∨ (pt T x.toNat).kind = 12 := by simpa [clsB] using h2
    rcases h3 with h | h
    · exact .inl ⟨h, h1.text h⟩
    · exact .inr ⟨h, h1.num h⟩
  have hj : jnO (fun j => (l.getD j (0, 0)).2) (pt T t).kids 0 = 0 := jn_zero (fun x hx => by rcases hkk x hx with ⟨_, h⟩ | ⟨_, h⟩ <;> simp only [h])
  have hbr : brO T (fun j => (l.getD j (0, 0)).1) (fun j => (l.getD j (0, 0)).2) t sc = alO (fun j => (l.getD j (0, 0)).1) (l.getD ((pt T t).kids.getD 0 0).toNat (0, 0)).1 (pt T t).kids := by
    unfold brO
    rw [if_neg (by omega), if_neg (by omega), if_pos hk]
  have h0 : (pt T t).kids = [] ∨ ∃ x r, (pt T t).kids = x :: r := by cases (pt T t).kids with
    | nil => exact .inl rfl
    | cons x r => exact .inr ⟨x, r, rfl⟩
  have hal : alO (fun j => (pt T j).kind) (pt T ((pt T t).kids.getD 0 0).toNat).kind (pt T t).kids = brO T (fun j => (l.getD j (0, 0)).1) (fun j => (l.getD j (0, 0)).2) t sc := by
    rw [hbr]
    rcases h0 with h0 | ⟨x, r, h0⟩
    · rw [h0]; rfl
    · have hx := hkk x (by rw [h0]; simp)
      have e0 : (pt T t).kids.getD 0 0 = x := by rw [h0]; rfl
      rw [e0]
      refine al_kinds ?_ (fun y hy => ?_)
      · rcases hx with ⟨h1, h2⟩ | ⟨h1, h2⟩
        · exact .inl ⟨h1, by rw [h2]⟩
        · exact .inr ⟨h1, by rw [h2]⟩
      · rcases hkk y hy with ⟨h1, h2⟩ | ⟨h1, h2⟩
        · exact .inl ⟨h1, by simp only [h2]⟩
        · exact .inr ⟨h1, by simp only [h2]⟩
  have hkl := H.G.kl t H.ht
  refine tof H (O := brO T (fun j => (l.getD j (0, 0)).1) (fun j => (l.getD j (0, 0)).2) t sc) (TY := (stD T (pt T t).kids, 0)) rfl (fun hnn => by
    unfold tyS
    rw [hk, hj]
    rw [← hal] at hnn
    rcases h0 with h0 | ⟨x, r, h0⟩
    · rw [h0]; rfl
    · have hx := hkk x (by rw [h0]; simp)
      have e0 : (pt T t).kids.getD 0 0 = x := by rw [h0]; rfl
      have e1 : ¬ (pt T t).kids.length = 0 := by rw [h0]; simp
      unfold stD
      rw [if_neg e1, hnn, e0]
      simp only [srO, siO]
      rcases hx with ⟨h1, h2⟩ | ⟨h1, h2⟩ <;> (rw [h2]; simp [h1, e1, setO])) ?_
  intro W rb qb tb pb b2 o2 ka kc ga n gc
  intros
  rename_i ha hS hkv hn hrk
  rw [hk] at hS
  subst ha
  exact ty_13 w W t rb qb tb pb b2 o2 T.length cap sc tv (pt T t).text (pt T t).num ka (pt T t).kids.length kc ga n gc hS _ _ (fun W' hb => by rw [← hal]; exact rset_any _ T cap t W' (H.hT.low (bchS hS.C.low hb)) H.ht H.G.len (H.G.kid t H.ht) hkl)
theorem tof_19 {a : Option Addr} {T : List Pt} {cap t : Nat} {sc : Int} {tv : Value} {l : List (Int × Int)} {w : World} (H : Tof w a T t sc tv l) (hk : (pt T t).kind = 19) : Calls Tryz.prog 24 #[.agg #[.slice a T.length cap], .int .i64 (t : Int), .int .i64 sc, tv] w fun e w' => TyE (brO T (fun j => (l.getD j (0, 0)).1) (fun j => (l.getD j (0, 0)).2) t sc) (tyS T (fun j => l.getD j (0, 0)) t) e ∧ Below w.heap.size w w' := by
  have htb := H.tab.1
  rw [hk] at htb
  obtain ⟨x', hks⟩ := one_kid (ks := (pt T t).kids) (by simpa [kidsB] using htb)
  obtain ⟨hx0, hx1, hkt, _⟩ := H.kid (x := x') (by rw [hks]; simp)
  obtain ⟨x, rfl⟩ : ∃ x : Nat, x' = x := ⟨x'.toNat, by omega⟩
  rw [Int.toNat_natCast] at hkt hx1
  have hbr : brO T (fun j => (l.getD j (0, 0)).1) (fun j => (l.getD j (0, 0)).2) t sc = rdO (pt T x).kind (x : Int) := by
    unfold brO
    rw [if_neg (by omega), if_neg (by omega), if_neg (by omega), if_pos hk, hks]
    simp only [List.getD_cons_zero, Int.toNat_natCast]
  have hlt := H.ht
  have hcell : ∀ W b2 o2, a = some ⟨b2, o2, none⟩ → Below w.heap.size w W → W.cell? ⟨b2, o2 + x * 4, none⟩ = some (.int .i64 (pt T x).kind) := fun W b2 o2 ha hb => by
    rcases H.hT with h0 | ⟨c2, p2, h1, hb2, hc2⟩
    · omega
    · rw [ha] at h1
      cases h1
      obtain ⟨_, _, q0, _⟩ := hc2 x (by omega)
      exact (hb.cell (p := ⟨b2, o2 + x * 4, none⟩) hb2).trans q0
  have hkid : ∀ {W : World} {ka : Option Addr}, Below w.heap.size w W → RdI w ka (pt T t).kids → ∃ b1 o1, ka = some ⟨b1, o1, none⟩ ∧ b1 < w.heap.size ∧ W.cell? ⟨b1, o1, none⟩ = some (.int .i64 (x : Int)) := fun {W ka} hb hr => by
    rw [hks] at hr
    rcases hr with h0 | ⟨b1, o1, rfl, hb1, hc1⟩
    · cases h0
    · exact ⟨b1, o1, rfl, hb1, (hb.cell (p := ⟨b1, o1, none⟩) hb1).trans (hc1 0 (by simp))⟩
  have hjn : jnO (fun j => (l.getD j (0, 0)).2) (pt T t).kids 0 = if movB (l.getD x (0, 0)).2 then (l.getD x (0, 0)).2 else if (l.getD x (0, 0)).2 = 1 then 1 else 0 := by
    rw [hks]
    simp only [jnO, Int.toNat_natCast]
  by_cases h14 : (pt T x).kind = 14
  · have hb : brO T (fun j => (l.getD j (0, 0)).1) (fun j => (l.getD j (0, 0)).2) t sc = none := by rw [hbr]; unfold rdO; rw [if_pos (.inl h14)]
    have hs3 := hkt.lab h14
    have hty : tyS T (fun j => l.getD j (0, 0)) t = (3, (l.getD x (0, 0)).2) := by
      unfold tyS
      rw [hk, hjn]
      rcases hs3 with h | h | h <;> (rw [h]; rfl)
    refine tof H (O := none) (TY := (3, (l.getD x (0, 0)).2)) hb.symm (fun _ => hty.symm) ?_
    intro W rb qb tb pb b2 o2 ka kc ga n gc
    intros
    rename_i ha hS hkv hn hrk
    rw [hk] at hS
    obtain ⟨b1, o1, e1, e2, e3⟩ := hkid hS.C.low hrk
    have hkv2 : TyV W (.slice ga n gc) [l.getD x (0, 0)] := by
      rw [hks] at hkv
      exact hkv
    obtain ⟨hn1, gb, go, h5, h6, _, h8⟩ := tyv_one hkv2
    exact ty_19b w W t rb qb tb pb b2 o2 T.length cap sc tv (pt T t).text (pt T t).num ka (pt T t).kids.length kc ga n gc hS x b1 o1 _ (by omega) H.G.len (by rw [hks]; rfl) e1 e2 e3 (hcell W b2 o2 ha hS.C.low) h14 gb go _ h5 h6 (by omega) h8
  by_cases h11 : (pt T x).kind = 11
  · have hb : brO T (fun j => (l.getD j (0, 0)).1) (fun j => (l.getD j (0, 0)).2) t sc = none := by rw [hbr]; unfold rdO; rw [if_pos (.inr h11)]
    have hs3 := hkt.text h11
    have hty : tyS T (fun j => l.getD j (0, 0)) t = (3, (l.getD x (0, 0)).2) := by
      unfold tyS
      rw [hk, hjn, hs3]
      rfl
    refine tof H (O := none) (TY := (3, (l.getD x (0, 0)).2)) hb.symm (fun _ => hty.symm) ?_
    intro W rb qb tb pb b2 o2 ka kc ga n gc
    intros
    rename_i ha hS hkv hn hrk
    rw [hk] at hS
    obtain ⟨b1, o1, e1, e2, e3⟩ := hkid hS.C.low hrk
    have hkv2 : TyV W (.slice ga n gc) [l.getD x (0, 0)] := by
      rw [hks] at hkv
      exact hkv
    obtain ⟨hn1, gb, go, h5, h6, _, h8⟩ := tyv_one hkv2
    exact ty_19c w W t rb qb tb pb b2 o2 T.length cap sc tv (pt T t).text (pt T t).num ka (pt T t).kids.length kc ga n gc hS x b1 o1 _ (by omega) H.G.len (by rw [hks]; rfl) e1 e2 e3 (hcell W b2 o2 ha hS.C.low) h11 gb go _ h5 h6 (by omega) h8
  · have hb : brO T (fun j => (l.getD j (0, 0)).1) (fun j => (l.getD j (0, 0)).2) t sc = some (148, (x : Int)) := by rw [hbr]; unfold rdO; rw [if_neg (by omega)]
    refine tof H (O := some (148, (x : Int))) (TY := (0, 0)) hb.symm (fun h => by rw [hb] at h; cases h) ?_
    intro W rb qb tb pb b2 o2 ka kc ga n gc
    intros
    rename_i ha hS hkv hn hrk
    rw [hk] at hS
    obtain ⟨b1, o1, e1, e2, e3⟩ := hkid hS.C.low hrk
    exact ty_19a w W t rb qb tb pb b2 o2 T.length cap sc tv (pt T t).text (pt T t).num ka (pt T t).kids.length kc ga n gc hS x b1 o1 _ (by omega) H.G.len (by rw [hks]; rfl) e1 e2 e3 (hcell W b2 o2 ha hS.C.low) h14 h11
theorem rtypeof_any {a : Option Addr} {T : List Pt} {cap t : Nat} {sc : Int} {tv : Value} {l : List (Int × Int)} {w : World} (H : Tof w a T t sc tv l) : Calls Tryz.prog 24 #[.agg #[.slice a T.length cap], .int .i64 (t : Int), .int .i64 sc, tv] w fun e w' => TyE (brO T (fun j => (l.getD j (0, 0)).1) (fun j => (l.getD j (0, 0)).2) t sc) (tyS T (fun j => l.getD j (0, 0)) t) e ∧ Below w.heap.size w w' := by
  have h1 := H.tab.2.1
  have h2 := H.tab.2.2.1
  have hc : (pt T t).kind = 1 ∨ (pt T t).kind = 2 ∨ (pt T t).kind = 3 ∨ (pt T t).kind = 4 ∨ (pt T t).kind = 5 ∨ (pt T t).kind = 6 ∨ (pt T t).kind = 7 ∨ (pt T t).kind = 8 ∨ (pt T t).kind = 9 ∨ (pt T t).kind = 10 ∨ (pt T t).kind = 11 ∨ (pt T t).kind = 12 ∨ (pt T t).kind = 13 ∨ (pt T t).kind = 14 ∨ (pt T t).kind = 15 ∨ (pt T t).kind = 16 ∨ (pt T t).kind = 17 ∨ (pt T t).kind = 18 ∨ (pt T t).kind = 19 ∨ (pt T t).kind = 20 := by omega
  rcases hc with h | h | h | h | h | h | h | h | h | h | h | h | h | h | h | h | h | h | h | h
  · exact tof_1 H h
  · exact tof_2 H h
  · exact tof_3 H h
  · exact tof_4 H h
  · exact tof_5 H h
  · exact tof_6 H h
  · exact tof_7 H h
  · exact tof_8 H h
  · exact tof_9 H h
  · exact tof_10 H h
  · exact tof_11 H h
  · exact tof_12 H h
  · exact tof_13 H h
  · exact tof_14 H h
  · exact tof_15 H h
  · exact tof_16 H h
  · exact tof_17 H h
  · exact tof_18 H h
  · exact tof_19 H h
  · exact tof_20 H h
end Go.Proofs.YtiddnjjaidiohaaGreatDoor.L
