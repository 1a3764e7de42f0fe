import Derived.Test.YtdhjoimiejdgbaaDoorMgF
import Derived.Test.YtdhjoimiejdgbaaDoorWrn
namespace Go.Proofs.YtdhjoimiejdgbaaDoor.L
open Go.RowKit Bs Go.Maps Go.Shelf
set_option linter.unusedVariables false
/-- The law's boxes: the later script, the number, the World. -/
structure Kq (W : World) (b Bw B : Nat) (v2 : Value) (ne : Int) : Prop where
  ba : Boxed W b 22 v2
  be : Boxed W (b + 1) 3 (.int .i64 ne)
  bw : Boxed W Bw 24 (.pointer (some ⟨B, 0, none⟩))
  br : Boxed W (b + 1 + 1) 4 (.bool false)
theorem Kq.low {W W' : World} {b Bw B : Nat} {v2 : Value} {ne : Int} (h : Kq W b Bw B v2 ne) (hb : Below W.heap.size W W') : Kq W' b Bw B v2 ne :=
  ⟨(hb.block _ h.ba.lt).trans h.ba, (hb.block _ h.be.lt).trans h.be, (hb.block _ h.bw.lt).trans h.bw, (hb.block _ h.br.lt).trans h.br⟩
theorem Kq.step {s W W' : World} {b Bw B : Nat} {v2 : Value} {ne : Int} {st : Nat → St} (h : Kq W b Bw B v2 ne) (hW : Wh s W B [] st) (hx : Bx (gsB B st) W.heap.size W W') : Kq W' b Bw B v2 ne :=
  ⟨(hx.block _ h.ba.lt (hW.not_gs h.ba (by decide) (by decide))).trans h.ba, (hx.block _ h.be.lt (hW.not_gs h.be (by decide) (by decide))).trans h.be, (hx.block _ h.bw.lt (hW.not_gs h.bw (by decide) (by decide))).trans h.bw, (hx.block _ h.br.lt (hW.not_gs h.br (by decide) (by decide))).trans h.br⟩
set_option maxRecDepth 100000 in
theorem leave4 (Q : Ending → World → Prop) (tmps : Array Value) (w W : World) (D1 D2 D3 D4 rb : Nat) (h6 : tmps[6]?.getD undef = .pointer (some ⟨rb, 0, none⟩)) (xr : Boxed W rb 4 (.bool true))
    (q1 : W.heap[D1]? = some (.deferred (some []))) (q2 : W.heap[D2]? = some (.deferred (some []))) (q3 : W.heap[D3]? = some (.deferred (some []))) (q4 : W.heap[D4]? = some (.deferred (some [])))
    (hd : D1 < D2 ∧ D2 < D3 ∧ D3 < D4 ∧ w.heap.size ≤ D1) (hb : Below w.heap.size w W) (hQ : ∀ w', Below w.heap.size w w' → Q (.returned (.bool true)) w') :
    LeavesInM Fence.wide 3 Tryd.prog Tryd.f7 tmps Q [{ target := .collected D4, args := #[] }, { target := .collected D3, args := #[] }, { target := .collected D2, args := #[] }, { target := .collected D1, args := #[] }] .returning W := by
  have n : ∀ {k : Nat}, W.heap[k]? = some (.deferred (some [])) → k ≠ rb := fun {k} h e => by
    rw [e, show W.heap[rb]? = _ from xr] at h
    cases h
  have n1 := n q1
  have n2 := n q2
  have n3 := n q3
  have n4 := n q4
  refine ⟨by simp, .inl ⟨_, _, rfl, run_takeDeferred q4, ?_⟩⟩
  refine ⟨by simp, .inl ⟨_, _, rfl, run_takeDeferred ((World.putObj_heap_other (by omega)).trans q3), ?_⟩⟩
  refine ⟨by simp, .inl ⟨_, _, rfl, run_takeDeferred ((World.putObj_heap_other (by omega)).trans ((World.putObj_heap_other (by omega)).trans q2)), ?_⟩⟩
  refine ⟨by simp, .inl ⟨_, _, rfl, run_takeDeferred ((World.putObj_heap_other (by omega)).trans ((World.putObj_heap_other (by omega)).trans ((World.putObj_heap_other (by omega)).trans q1))), ?_⟩⟩
  have xe : Boxed ((((W.putObj D4 (.deferred none)).putObj D3 (.deferred none)).putObj D2 (.deferred none)).putObj D1 (.deferred none)) rb 4 (.bool true) :=
    (World.putObj_heap_other (by omega)).trans ((World.putObj_heap_other (by omega)).trans ((World.putObj_heap_other (by omega)).trans ((World.putObj_heap_other (by omega)).trans xr)))
  have hB : Below w.heap.size w ((((W.putObj D4 (.deferred none)).putObj D3 (.deferred none)).putObj D2 (.deferred none)).putObj D1 (.deferred none)) := by
    have p : ∀ (Z : World) (l : Nat), w.heap.size ≤ l → Below w.heap.size w Z → Below w.heap.size w (Z.putObj l (.deferred none)) := fun Z l hl h => h.trans ((bx_put Z l _).below h.size (fun k hk => by have := List.mem_singleton.1 hk; omega))
    exact p _ _ (by omega) (p _ _ (by omega) (p _ _ (by omega) (p _ _ (by omega) hb)))
  have xc := xe.cell
  generalize (((W.putObj D4 (.deferred none)).putObj D3 (.deferred none)).putObj D2 (.deferred none)).putObj D1 (.deferred none) = Z at *
  simp [LeavesInM, LeavesIn, results, Tryd.results7, go_sem, h6, xc]
  exact hQ Z hB
end Go.Proofs.YtdhjoimiejdgbaaDoor.L
namespace Go.Proofs.YtdhjoimiejdgbaaDoor.L
open Go.RowKit Bs Go.Maps Go.Shelf
set_option linter.unusedVariables false
attribute [local go_sem] Oper.semAt_some cell_alloc2 frozen_alloc2 run_store_fn
set_option maxHeartbeats 8000000 in
set_option maxRecDepth 100000 in
theorem seg_h (Q : Ending → World → Prop) (w s W : World) (b Bw bk bn B X bb n2 k2 wc N : Nat) (a2 wa : Option Addr) (ne : Int) (v3 : Value) (ss : List ByteArray) (D : List Dr) (C : List (Nat × Obj)) (B1 B2 B3 Ba Bk D1 D2 D3 D4 : Nat) (u0 u1 u2 u3 u8 u9 u10 u17 u18 u19 u20 u21 u22 u23 u24 u25 u27 u28 u29 u30 u31 u32 u33 u34 u35 u36 u37 u38 u39 u40 u41 u42 u43 u44 u45 u46 u47 u48 u49 u50 u51 u52 u53 u54 u55 u56 u57 u58 u59 u60 u61 u62 u63 u64 u65 u66 u67 u68 u69 u70 u71 u72 u73 u74 u75 u76 u77 u78 u79 u80 u81 u82 u83 u84 u85 u86 u87 u88 u89 u90 u91 u92 u93 u94 u95 u96 u97 u98 u99 u100 u101 u102 u103 u104 u105 u106 u107 u108 u109 u110 u111 u112 u113 u114 u115 u116 u117 u118 u119 u120 u121 u122 u123 u124 u125 u126 u127 u128 u129 u130 u131 u132 u133 u134 u135 u136 u137 u138 u139 u140 u141 u142 u143 u144 u145 u146 u147 u148 u149 u150 u151 u152 u153 u154 u155 u156 u157 u158 u159 u160 u161 u162 u163 u164 u165 u166 u167 u168 u169 u170 u171 u172 u173 u174 u175 u176 u177 u178 u179 u180 u181 u182 u183 u184 u185 u186 u187 u188 u189 u190 u191 u192 u193 u194 u195 u196 u197 u198 u199 u200 u201 u202 u203 u204 u205 u206 u207 u208 u209 u210 u211 u212 u213 u214 u215 u216 u217 u218 u219 u220 u221 u222 u223 u224 u225 u226 u227 u228 u229 u230 u231 u232 u233 u234 u235 u236 u237 u238 u239 u240 u241 u242 u243 u244 u245 u246 u247 u248 u249 u250 u251 u252 u253 u254 u255 u256 u257 u258 u259 u260 u261 u262 u263 u264 u265 u266 u267 u268 u269 u270 u271 u272 u273 u274 : Value)
    (g : Gm b Bw bk bn B X bb (.slice a2 n2 k2) ne v3 wa wc ss D N C) (ks : Ks W C) (wh : ∃ st, Wh s W B [] st ∧ Re st) (lo : Below w.heap.size w s) (hw : w.heap.size ≤ b)
    (t1 : Lc B1 (tk ss) C) (t2 : Lc B2 ((tk ss).take (max 1 ne).toNat) C) (t3 : Lc B3 (tk ss) C) (xk : Boxed W Bk 3 (.int .i64 (N : Int)))
    (hr : (b + 1 + 1, Obj.cells #[.bool false] 4 (0, 0)) ∈ C) (d1 : (D1, Obj.deferred (some [])) ∈ C) (d2 : (D2, Obj.deferred (some [])) ∈ C) (d3 : (D3, Obj.deferred (some [])) ∈ C) (d4 : (D4, Obj.deferred (some [])) ∈ C)
    (hd : D1 < D2 ∧ D2 < D3 ∧ D3 < D4 ∧ w.heap.size ≤ D1)
    (hQ : ∀ w', Below w.heap.size w w' → Q (.returned (.bool true)) w') :
    ((rtC (rtC (rtC (rtC (rtC (rtC (rtC (rtC (rtC (rtC (rtC (rtC (rtC (rtC (rtC (Option.getD Tryd.f7.body Code.skip))))))))))))))))).wpIn Fence.wide 3 Tryd.prog (bodyPostM Fence.wide 3 Tryd.prog Tryd.f7 Q) { tmps := #[u0, u1, u2, u3, .pointer (some ⟨b, 0, none⟩), .pointer (some ⟨b + 1, 0, none⟩), .pointer (some ⟨b + 1 + 1, 0, none⟩), .pointer (some ⟨Bw, 0, none⟩), u8, u9, u10, .pointer (some ⟨bk, 0, none⟩), .pointer (some ⟨bn, 0, none⟩), .pointer (some ⟨B1, 0, none⟩), .pointer (some ⟨B2, 0, none⟩), .pointer (some ⟨B3, 0, none⟩), .pointer (some ⟨Ba, 0, none⟩), u17, u18, u19, u20, u21, u22, u23, u24, u25, .pointer (some ⟨Bk, 0, none⟩), u27, u28, u29, u30, u31, u32, u33, u34, u35, u36, u37, u38, u39, u40, u41, u42, u43, u44, u45, u46, u47, u48, u49, u50, u51, u52, u53, u54, u55, u56, u57, u58, u59, u60, u61, u62, u63, u64, u65, u66, u67, u68, u69, u70, u71, u72, u73, u74, u75, u76, u77, u78, u79, u80, u81, u82, u83, u84, u85, u86, u87, u88, u89, u90, u91, u92, u93, u94, u95, u96, u97, u98, u99, u100, u101, u102, u103, u104, u105, u106, u107, u108, u109, u110, u111, u112, u113, u114, u115, u116, u117, u118, u119, u120, u121, u122, u123, u124, u125, u126, u127, u128, u129, u130, u131, u132, u133, u134, u135, u136, u137, u138, u139, u140, u141, u142, u143, u144, u145, u146, u147, u148, u149, u150, u151, u152, u153, u154, u155, u156, u157, u158, u159, u160, u161, u162, u163, u164, u165, u166, u167, u168, u169, u170, u171, u172, u173, u174, u175, u176, u177, u178, u179, u180, u181, u182, u183, u184, u185, u186, u187, u188, u189, u190, u191, u192, u193, u194, u195, u196, u197, u198, u199, u200, u201, u202, u203, u204, u205, u206, u207, u208, u209, u210, u211, u212, u213, u214, u215, u216, u217, u218, u219, u220, u221, u222, u223, u224, u225, u226, u227, u228, u229, u230, u231, u232, u233, u234, u235, u236, u237, u238, u239, u240, u241, u242, u243, u244, u245, u246, u247, u248, u249, u250, u251, u252, u253, u254, u255, u256, u257, u258, u259, u260, u261, u262, u263, u264, u265, u266, u267, u268, u269, u270, u271, u272, u273, u274], defers := [{ target := .collected D4, args := #[] }, { target := .collected D3, args := #[] }, { target := .collected D2, args := #[] }, { target := .collected D1, args := #[] }] } W := by
  rw [sf15]
  generalize hR : bodyPostM Fence.wide 3 Tryd.prog Tryd.f7 Q = R
  simp only [hdC, rtC, Option.getD, Tryd.f7]
  have HRR := hid hR
  clear hR
  have hTL := g.tlen
  obtain ⟨a1, c1, m1, i1⟩ := t1
  obtain ⟨a5, c5, m5, i5⟩ := t2
  obtain ⟨a6, c6, m6, i6⟩ := t3
  rw [hTL] at m1 m6
  obtain ⟨L5, hL5⟩ : ∃ n, n = ((tk ss).take (max 1 ne).toNat).length := ⟨_, rfl⟩
  rw [← hL5] at m5
  obtain ⟨st, hW, hRe⟩ := wh
  obtain ⟨bp, hb⟩ := (hW.tq 1 (by decide)).form
  obtain ⟨va, vc, hv⟩ := own_len (hW.od 1 (by decide))
  obtain ⟨e0, e1, e2⟩ := hW.cells (i := 1) (by decide)
  rw [hb] at e0
  rw [hv] at e2
  have hRel := (hRe 1 (by decide)).1
  have SD : Sd W (.pointer bp) (st 1).m (st 1).l (st 1).F (.slice va (st 1).d.length vc) (st 1).d := ⟨by rw [← hb]; exact hW.tq 1 (by decide), by rw [← hv]; exact hW.od 1 (by decide), hRel⟩
  have hBW : Below w.heap.size w W := lo.trans (hW.base.mono lo.size)
  have hBlt := hW.lt
  have hnB : b + 1 + 1 ≠ B := fun e => by
    obtain ⟨cur, hc, _⟩ := hW.bb
    rw [← e, ks.has _ hr] at hc
    cases hc
  generalize (st 1).m = mm at *
  generalize (st 1).l = ll at *
  generalize (st 1).F = FF at *
  generalize (st 1).mo = mo1 at *
  generalize (st 1).d = dd at *
  obtain ⟨dl, hdl⟩ : ∃ n, n = dd.length := ⟨_, rfl⟩
  rw [← hdl] at e2 SD
  have bK := xk.lt
  have xkn : Bk ≠ b + 1 + 1 := fun e => by
    have := ks.has _ hr
    rw [← e, show W.heap[Bk]? = _ from xk] at this
    cases this
  have hOne : ∀ {k : Nat} {t : TypeId} {v : Value}, (k, Obj.cells #[v] t (0, 0)) ∈ C → k ≠ b + 1 + 1 → ∀ Y, Bx [b + 1 + 1] W.heap.size W Y → Y.cell? ⟨k, 0, none⟩ = some v := fun {k t v} hm hn Y hY => (boxed_bx (show Boxed W k t v from ks.has _ hm) hY (by simpa using hn)).cell
  have hNe : ∀ {k : Nat} {t : TypeId} {v : Value}, (k, Obj.cells #[v] t (0, 0)) ∈ C → t ≠ 4 → k ≠ b + 1 + 1 := fun {k t v} hm ht e => by
    have h1 := ks.has _ hm
    have h2 := ks.has _ hr
    simp only at h1 h2
    rw [e, h2] at h1
    injection h1 with h1
    injection h1 with _ h1 _
    exact ht h1.symm
  have CC : Hid (∀ Y, Hid (Bx [b + 1 + 1] W.heap.size W Y) → Hid (Bx [b + 1 + 1] W.heap.size W Y) ∧ Y.cell? ⟨Bk, 0, none⟩ = some (.int .i64 (N : Int)) ∧ Y.cell? ⟨bn, 0, none⟩ = some (.slice wa N wc) ∧ Y.cell? ⟨B1, 0, none⟩ = some (.slice a1 N c1) ∧ Y.cell? ⟨B2, 0, none⟩ = some (.slice a5 L5 c5) ∧ Y.cell? ⟨B3, 0, none⟩ = some (.slice a6 N c6) ∧ Y.cell? ⟨b + 1, 0, none⟩ = some (.int .i64 ne) ∧ Y.cell? ⟨Bw, 0, none⟩ = some (.pointer (some ⟨B, 0, none⟩)) ∧ Y.cell? ⟨B, 1, none⟩ = some (.pointer bp) ∧ Y.cell? ⟨B, 6, none⟩ = some (.int .i64 mo1) ∧ Y.cell? ⟨B, 7, none⟩ = some (.slice va dl vc)) :=
    hid (fun Y hY => ⟨hY, (boxed_bx xk hY.out (by simpa using xkn)).cell, hOne g.cn (hNe g.cn (by decide)) Y hY.out, hOne m1 (hNe m1 (by decide)) Y hY.out, hOne m5 (hNe m5 (by decide)) Y hY.out, hOne m6 (hNe m6 (by decide)) Y hY.out, hOne g.ce (hNe g.ce (by decide)) Y hY.out, hOne g.cw (hNe g.cw (by decide)) Y hY.out,
      (hY.out.cell (p := ⟨B, 1, none⟩) hBlt (by simpa using fun e => hnB e.symm)).trans e0, (hY.out.cell (p := ⟨B, 6, none⟩) hBlt (by simpa using fun e => hnB e.symm)).trans e1, (hY.out.cell (p := ⟨B, 7, none⟩) hBlt (by simpa using fun e => hnB e.symm)).trans e2⟩)
  have RW : ∀ (a : Option Addr) (c L : Nat) (ps : List Sn) (n : Int), L = ps.length → ps = (prD D).take n.toNat → (∀ Y, Ks Y C → ItemsP Y a ps) → ∀ Y, Hid (Below W.heap.size W Y) → Calls Tryd.prog 43 #[.slice a L c, .slice wa N wc, .int .i64 n] Y fun e w' => e = .returned (.bool true) ∧ Below Y.heap.size Y w' := fun a c L ps n h1 h2 h3 Y hY =>
    (rowsare_all a wa c wc L N ps D n Y h1 g.ln.1 h2 g.ln.2.1 (h3 Y (ks.low hY.out)) (g.rw_ Y (ks.low hY.out))).mono (fun e w' ⟨q1, k, q2⟩ => ⟨q1, by rw [q2]; exact belowD _ _⟩)
  have hTk : tk ss = (prD D).take ((N : Int)).toNat := by rw [g.eq_, Int.toNat_natCast, List.take_of_length_le (by omega)]
  have R1 := hid (RW a1 c1 N (tk ss) N hTL.symm hTk i1)
  have R2 := hid (RW a5 c5 L5 _ (max 1 ne) hL5 (by rw [g.eq_]) i5)
  have R3 := hid (RW a6 c6 N (tk ss) N hTL.symm hTk i6)
  have SE : Hid (∀ Y, Hid (Below W.heap.size W Y) → Calls Tryd.prog 12 #[.pointer bp, .agg #[.int .i64 mo1, .slice va dl vc]] Y fun e w' => e = .returned (.bool true) ∧ Below Y.heap.size Y w') := hid (fun Y hY => seen_any (.pointer bp) mm ll FF mo1 va dl vc dd Y hdl (SD.low hY.out))
  have XR : Hid (Boxed W (b + 1 + 1) 4 (.bool false)) := hid (ks.has _ hr)
  have Q1 := hid (ks.has _ d1)
  have Q2 := hid (ks.has _ d2)
  have Q3 := hid (ks.has _ d3)
  have Q4 := hid (ks.has _ d4)
  have HBW := hid hBW
  have B0 : Hid (Below W.heap.size W W.drew) := hid (Below.refl _ W).drew
  have HHQ := hid hQ
  clear m1 m5 m6 i1 i5 i6 hTk RW e0 e1 e2 hOne hNe xk d1 d2 d3 d4 hr g hW hRe hb hv SD hRel hBW hQ ks hL5 hdl hTL
  gi_wp2_with fail
  refine wpIn_wide.2 ?_
  go_region_held3 (fun Y => Hid (Bx [b + 1 + 1] W.heap.size W Y) ∧ Y.cell? ⟨Bk, 0, none⟩ = some (.int .i64 (N : Int)) ∧ Y.cell? ⟨bn, 0, none⟩ = some (.slice wa N wc) ∧ Y.cell? ⟨B1, 0, none⟩ = some (.slice a1 N c1) ∧ Y.cell? ⟨B2, 0, none⟩ = some (.slice a5 L5 c5) ∧ Y.cell? ⟨B3, 0, none⟩ = some (.slice a6 N c6) ∧ Y.cell? ⟨b + 1, 0, none⟩ = some (.int .i64 ne) ∧ Y.cell? ⟨Bw, 0, none⟩ = some (.pointer (some ⟨B, 0, none⟩)) ∧ Y.cell? ⟨B, 1, none⟩ = some (.pointer bp) ∧ Y.cell? ⟨B, 6, none⟩ = some (.int .i64 mo1) ∧ Y.cell? ⟨B, 7, none⟩ = some (.slice va dl vc))
    (first | exact CC.out _ (hid (Bx.refl _ _ W)) | exact CC.out _ (hid (Bx.of B0.out)) | exact CC.out _ (hid (Bx.of S1.out)) | exact CC.out _ (hid (Bx.of S2.out)) | exact CC.out _ (hid (Bx.of S3.out)) | exact CC.out _ (hid (Bx.of S4.out)) | exact CC.out _ (hid ((Bx.of S4.out).setCell (Or.inl (by simp)) _)))
    (first
      | (go_at_call 43; with_reducible refine (R1.out _ B0).mono ?_; rintro e w1 ⟨rfl, hb1⟩; have S1 := keepT B0 hb1; clear hb1)
      | (go_at_call 43; with_reducible refine (R2.out _ S1).mono ?_; rintro e w2 ⟨rfl, hb2⟩; have S2 := keepT S1 hb2; clear hb2)
      | (go_at_call 43; with_reducible refine (R3.out _ S2).mono ?_; rintro e w3 ⟨rfl, hb3⟩; have S3 := keepT S2 hb3; clear hb3)
      | (go_at_call 12; with_reducible refine (SE.out _ S3).mono ?_; rintro e w4 ⟨rfl, hb4⟩; have S4 := keepT S3 hb4; have xr := boxed_below XR.out S4.out; have xrc := xr.cell; have xrf := xr.frozen; have XR4 := hid xr; clear hb4))
  gi_wp2_with fail
  rw [← HRR.out]
  have hx := bx_set w4 (b + 1 + 1) 0 (.bool true)
  have nn : ∀ {k : Nat}, W.heap[k]? = some (.deferred (some [])) → (w4.setCell ⟨b + 1 + 1, 0, none⟩ (.bool true)).heap[k]? = some (.deferred (some [])) := fun {k} h => by
    have h4 := (S4.out.block k (lt_of_block h)).trans h
    refine (hx.block k (lt_of_block h4) (fun c => ?_)).trans h4
    rw [List.mem_singleton.1 c, show w4.heap[b + 1 + 1]? = _ from XR4.out] at h4
    cases h4
  have hB4 := HBW.out.trans (S4.out.mono HBW.out.size)
  exact leave4 Q _ w _ D1 D2 D3 D4 (b + 1 + 1) rfl (XR4.out.set _) (nn Q1.out) (nn Q2.out) (nn Q3.out) (nn Q4.out) hd (below_set1 hB4 _ 0 _ (by omega)) HHQ.out
end Go.Proofs.YtdhjoimiejdgbaaDoor.L
