import Derived.Test.YtimmjikpcekffaaGreatDoorSb3
namespace Go.Proofs.YtimmjikpcekffaaGreatDoor.L
open Go.RowKit Go.Extern.Stop Go.Stop Go.Extern
set_option linter.unusedVariables false
theorem ErC.erN {W : World} {g c : Nat} {a : Int} {ev : Value} (h : ErC W g c a ev) : ∃ N, ErN N ev ∧ Flt W N c a := by
  induction h with
  | flt N h hn => exact ⟨N, .flt, h⟩
  | ins t ev _ ih =>
    obtain ⟨N, h1, h2⟩ := ih
    exact ⟨N, .ins t ev h1, h2⟩
theorem ErN.uni {N M : Nat} {ev : Value} (h : ErN N ev) (k : ErN M ev) : N = M := by
  induction h with
  | flt => exact (ErN.one (N := M) (M := N) k).symm
  | ins t ev _ ih =>
    cases k with
    | ins _ _ k => exact ih k
/-- The fault by which Check refuses a tree. -/
def FaA (T : List Pt) (sc : Int) (W : World) (M : Nat) : Prop :=
  ((sc ≠ 2 ∧ sc ≠ 3) ∧ Flt W M 149 (-1)) ∨
  ((sc = 2 ∨ sc = 3) ∧ ((∃ N c i : Nat, FltC W M i N ∧ Flt W N c i ∧ Res T c i ∧ c ≠ 0) ∨ (Res T 0 0 ∧ ∃ c a, (ovS T sc).2 = some (c, a) ∧ Flt W M c a)))
theorem FaA.lt {T : List Pt} {sc : Int} {W : World} {M : Nat} (h : FaA T sc W M) : M < W.heap.size := by
  rcases h with ⟨_, h⟩ | ⟨_, ⟨N, c, i, h, _⟩ | ⟨_, c, a, _, h⟩⟩ <;> exact lt_blk h
theorem FaA.low {T : List Pt} {sc : Int} {W W' : World} {M : Nat} (h : FaA T sc W M) (hb : Below W.heap.size W W') : FaA T sc W' M := by
  rcases h with ⟨h1, h⟩ | ⟨h1, ⟨N, c, i, h, h2, h3⟩ | ⟨h2, c, a, h3, h⟩⟩
  · exact .inl ⟨h1, h.low hb⟩
  · exact .inr ⟨h1, .inl ⟨N, c, i, h.low hb, h2.low hb, h3⟩⟩
  · exact .inr ⟨h1, .inr ⟨h2, c, a, h3, h.low hb⟩⟩
theorem TyA.erN {T : List Pt} {sc : Int} {B : Nat} {W : World} {v ev : Value} (h : TyA T sc B W v ev) :
    (ev = .nilIface ∧ (sc = 2 ∨ sc = 3) ∧ Res T 0 0 ∧ ∃ gt, v = .slice (some ⟨gt, 0, none⟩) T.length T.length ∧ (ovS T sc).2 = none ∧ TyO W B gt T.length (ovS T sc).1) ∨ (v = .slice none 0 0 ∧ ∃ N, ErN N ev ∧ FaA T sc W N) := by
  rcases h with ⟨h1, h2, M, rfl, h3⟩ | ⟨h1, ⟨h2, h3, h4⟩ | ⟨h2, ⟨gt, h3, h4, h5, h6⟩ | ⟨gt, c, a, h3, h4, h5⟩⟩⟩
  · exact .inr ⟨h2, M, .flt, .inl ⟨h1, h3⟩⟩
  · rcases h4 with ⟨rfl, _⟩ | ⟨M, N, c, i, rfl, h5, h6, h7⟩
    · exact absurd rfl h3
    · exact .inr ⟨h2, M, .flt, .inr ⟨h1, .inl ⟨N, c, i, h5, h6, h7⟩⟩⟩
  · exact .inl ⟨h4, h1, h2, gt, h3, h5, h6⟩
  · obtain ⟨N, h6, h7⟩ := h5.erN
    exact .inr ⟨h3, N, h6, .inr ⟨h1, .inr ⟨h2, c, a, h4, h7⟩⟩⟩
/-- What Check answers. -/
def CkR (T : List Pt) (sc : Int) (B : Nat) (W : World) (v ev : Value) : Prop :=
  (ev = .nilIface ∧ (sc = 2 ∨ sc = 3) ∧ Res T 0 0 ∧ ∃ gt, v = .slice (some ⟨gt, 0, none⟩) T.length T.length ∧ (ovS T sc).2 = none ∧ TyO W B gt T.length (ovS T sc).1) ∨ (v = .slice none 0 0 ∧ ∃ N, ev = fv N ∧ FaA T sc W N)
set_option maxHeartbeats 8000000 in
set_option maxRecDepth 100000 in
theorem check_any (a : Option Addr) (T : List Pt) (cap : Nat) (sc : Int) (w : World) (hT : PL w a T) (hG : GdT T) (hg : Gv w) :
    Calls Tryz.prog 25 #[.agg #[.slice a T.length cap], .int .i64 sc] w fun e w' => ∃ v ev, e = .returned (.tuple #[v, ev]) ∧ Below w.heap.size w w' ∧ CkR T sc w.heap.size w' v ev := by
  have HB0 := hid (belowA w (.cells #[.slice a T.length cap] 35))
  have HX0 := hid (heap_alloc_new w (.cells #[.slice a T.length cap] 35))
  have HTY := hid (typesof_any a T cap sc _ (hT.low HB0.out) hG (hg.low HB0.out))
  have HG := hid (hg.low HB0.out)
  generalize T.length = L at HB0 HX0 HTY HG ⊢
  clear hT hg
  go_enter Tryz.func25, Tryz.ntmps25
  go_upto_region 1 with (fail)
  generalize w.alloc (.cells #[.slice a L cap] 35) = X at *
  have x0 := cell_of_one HX0.out
  go_upto_region 2 with (go_at_call 36; refine HTY.out.mono ?_; rintro e w1 ⟨v, ev, rfl, l1, hr⟩; have L1 := hid l1; have HR := hid hr.erN; clear l1 hr)
  have HB1 := hid (HB0.out.trans (L1.out.mono HB0.out.size))
  have HB2 := hid (belowA w1 (.cells #[.pointer none] 86))
  have HX2 := hid (heap_alloc_new w1 (.cells #[.pointer none] 86))
  have HBC := hid (HB1.out.trans (HB2.out.mono HB1.out.size))
  clear x0
  rcases HR.out with ⟨rfl, hsc, hrs, gt, rfl, hn, hty⟩ | ⟨rfl, N, hn, hf⟩
  · have HRR := hid (And.intro hsc (And.intro hrs (And.intro hn (hty.low HB2.out))))
    clear hsc hrs hn hty
    have HNI := hid as_nil
    go_upto_region 3 with (fail)
    generalize w1.alloc (.cells #[.pointer none] 86) = Y at *
    go_wp2_with (go_at_call 34; refine (HNI.out _ _).mono ?_; rintro e w2 ⟨rfl, rfl⟩)
    (try simp only [Exit.inBlock, Exit.then])
    refine bodyPost_ret (results_tmp2 rfl _ _ _) rfl ⟨_, _, rfl, HBC.out, ?_⟩
    obtain ⟨h1, h2, h3, h4⟩ := HRR.out
    exact .inl ⟨rfl, h1, h2, gt, rfl, h3, h4.mono HB0.out.size⟩
  · have HLT := hid hf.lt
    have HF := hid hf
    have HN := hid hn
    have HAS := hid (as_any ev N w1.heap.size (.pointer none) (w1.alloc (.cells #[.pointer none] 86)) hn (HG.out.low (L1.out.trans (HB2.out.mono L1.out.size))) HX2.out)
    obtain ⟨u, xv, rfl⟩ := hn.ne
    clear hf hn
    go_upto_region 3 with (fail)
    generalize w1.alloc (.cells #[.pointer none] 86) = Y at *
    go_upto_region 4 with (go_at_call 34; refine HAS.out.mono ?_; rintro e w2 ⟨rfl, hc, hb⟩; have HBB := hid hb; clear hb)
    go_region
    clear hc
    go_wp2_with fail
    (try simp only [Exit.inBlock, Exit.then])
    refine bodyPost_ret (results_tmp2 rfl _ _ _) rfl ⟨_, _, rfl, (but_new HBC.out HBB.out HB1.out.size).drew, ?_⟩
    refine .inr ⟨rfl, N, rfl, ?_⟩
    exact HF.out.low (but_new HB2.out HBB.out (Nat.le_refl _)).drew
end Go.Proofs.YtimmjikpcekffaaGreatDoor.L
namespace Go.Proofs.YtimmjikpcekffaaGreatDoor.L
open Go.RowKit Go.Shelf
set_option linter.unusedVariables false
/-- The fixed tree of awake. -/
abbrev T9 : List Pt := [⟨14, ⟨#[122, 111, 110, 101]⟩, 2, []⟩, ⟨11, ⟨#[97]⟩, 0, []⟩, ⟨6, ⟨#[]⟩, 1, [0, 1]⟩, ⟨3, ⟨#[]⟩, 0, [2]⟩]
theorem okT9 : Ok0 T9 := by
  intro j hj
  match j, hj with
  | 0, _ => exact ⟨by decide, rfl, rfl, by decide, by decide, by kernel_rfl, fun x hx => by cases hx⟩
  | 1, _ => exact ⟨by decide, rfl, rfl, by decide, by decide, by kernel_rfl, fun x hx => by cases hx⟩
  | 2, _ => exact ⟨by decide, rfl, rfl, by decide, by decide, by kernel_rfl, fun x hx => by simp [T9, pt] at hx; rcases hx with rfl | rfl <;> kernel_rfl⟩
  | 3, _ => exact ⟨by decide, rfl, rfl, by decide, by decide, by kernel_rfl, fun x hx => by simp [T9, pt] at hx; subst hx; kernel_rfl⟩
theorem nestsT9 : ∀ j, j < 4 → (nests T9).getD j 0 ≤ 32 := by
  intro j hj
  match j, hj with
  | 0, _ => exact of_decide_eq_true (by kernel_rfl)
  | 1, _ => exact of_decide_eq_true (by kernel_rfl)
  | 2, _ => exact of_decide_eq_true (by kernel_rfl)
  | 3, _ => exact of_decide_eq_true (by kernel_rfl)
theorem resT9 : Res T9 0 0 := by
  refine Or.inr (Or.inr ⟨by decide, by decide, Or.inr (Or.inr ⟨okT9, ?_, Or.inr ⟨nestsT9, rfl, rfl⟩⟩)⟩)
  rintro (h | h)
  · exact h (by decide)
  · exact absurd h (by decide)
theorem gdT9 : GdT T9 := ⟨by decide, fun j hj => by
  match j, hj with
  | 0, _ => decide
  | 1, _ => decide
  | 2, _ => decide
  | 3, _ => decide⟩
theorem ovT9n : (ovS T9 2).2 = none := by kernel_rfl
abbrev rowT9 (k1 k2 : Nat) : Array Value := #[.int .i64 14, .string ⟨#[122, 111, 110, 101]⟩, .int .i64 2, .slice none 0 0, .int .i64 11, .string ⟨#[97]⟩, .int .i64 0, .slice none 0 0, .int .i64 6, .string ⟨#[]⟩, .int .i64 1, .slice (some ⟨k1, 0, none⟩) 2 2, .int .i64 3, .string ⟨#[]⟩, .int .i64 0, .slice (some ⟨k2, 0, none⟩) 1 1]
/-- The fixed tree in memory. -/
structure Fy (W : World) (gp k1 k2 : Nat) : Prop where
  kid : W.heap[k1]? = some (.cells #[.int .i64 0, .int .i64 1] 3 (0, 0))
  one : W.heap[k2]? = some (.cells #[.int .i64 2] 3 (0, 0))
  row : W.heap[gp]? = some (.cells (rowT9 k1 k2) 31 (0, 0))
theorem Fy.low {w w' : World} {gp k1 k2 : Nat} (h : Fy w gp k1 k2) (k : Below w.heap.size w w') : Fy w' gp k1 k2 := ⟨(k.block _ (lt_blk h.kid)).trans h.kid, (k.block _ (lt_blk h.one)).trans h.one, (k.block _ (lt_blk h.row)).trans h.row⟩
theorem plT9 {W : World} {k1 k2 gp : Nat} (h : Fy W gp k1 k2) : PL W (some ⟨gp, 0, none⟩) T9 := by
  obtain ⟨h1, h2, h3⟩ := h
  have hc := fun j => cell_of_row W gp j _ _ _ h3
  refine Or.inr ⟨gp, 0, rfl, lt_blk h3, fun j hj => ?_⟩
  match j, hj with
  | 0, _ => exact ⟨none, 0, hc 0, hc 1, hc 2, hc 3, Or.inl rfl⟩
  | 1, _ => exact ⟨none, 0, hc 4, hc 5, hc 6, hc 7, Or.inl rfl⟩
  | 2, _ =>
    refine ⟨some ⟨k1, 0, none⟩, 2, hc 8, hc 9, hc 10, hc 11, Or.inr ⟨k1, 0, rfl, lt_blk h1, fun i hi => ?_⟩⟩
    match i, hi with
    | 0, _ => exact cell_of_row _ _ 0 _ _ _ h1
    | 1, _ => exact cell_of_row _ _ 1 _ _ _ h1
  | 3, _ =>
    refine ⟨some ⟨k2, 0, none⟩, 1, hc 12, hc 13, hc 14, hc 15, Or.inr ⟨k2, 0, rfl, lt_blk h2, fun i hi => ?_⟩⟩
    match i, hi with
    | 0, _ => exact cell_of_row _ _ 0 _ _ _ h2
theorem valid9 (gp k1 k2 : Nat) (w : World) (h : Fy w gp k1 k2) : Calls Tryz.prog 24 #[.agg #[.slice (some ⟨gp, 0, none⟩) 4 4]] w fun e w' => e = .returned .nilIface ∧ Below w.heap.size w w' := by
  refine (valid_any _ T9 4 w (plT9 h) gdT9).mono ?_
  rintro e w' ⟨ev, rfl, l, he⟩
  rcases he with he | ⟨N, c, i, _, _, _, h, h0⟩
  · rw [he.1]; exact ⟨rfl, l⟩
  · exact absurd (res_one h resT9).1 h0
theorem check9 (gp k1 k2 : Nat) (w : World) (hT : Fy w gp k1 k2) (hg : Gv w) :
    Calls Tryz.prog 25 #[.agg #[.slice (some ⟨gp, 0, none⟩) 4 4], .int .i64 2] w fun e w' => ∃ gt, e = .returned (.tuple #[.slice (some ⟨gt, 0, none⟩) 4 4, .nilIface]) ∧ Below w.heap.size w w' := by
  refine (check_any (some ⟨gp, 0, none⟩) T9 4 2 w (plT9 hT) gdT9 hg).mono ?_
  rintro e w' ⟨v, ev, rfl, hb, ⟨rfl, _, _, gt, rfl, _, hy⟩ | ⟨_, N, _, hf⟩⟩
  · exact ⟨gt, rfl, hb⟩
  · rcases hf with ⟨⟨h, _⟩, _⟩ | ⟨_, ⟨M, c, i, _, _, hr, h0⟩ | ⟨_, c, a, h, _⟩⟩
    · exact absurd rfl h
    · exact absurd (res_one hr resT9).1 h0
    · rw [ovT9n] at h; cases h
set_option maxHeartbeats 4000000 in
set_option maxRecDepth 100000 in
theorem codeof_nil (w : World) (hg : Gv w) : Calls Tryz.prog 23 #[.nilIface] w fun e w' => e = .returned (.int .i64 0) ∧ Below w.heap.size w w' := by
  have HB0 := hid (belowA w (.cells #[.pointer none] 86))
  have HX0 := hid (heap_alloc_new w (.cells #[.pointer none] 86))
  have HG := hid (hg.low HB0.out)
  clear hg
  go_enter Tryz.func23, Tryz.ntmps23
  go_upto_region 2 with (fail)
  generalize w.alloc (.cells #[.pointer none] 86) = X at *
  go_wp2_with (go_at_call 34; refine (as_e _ _ (.pointer none) _ (Or.inl rfl) HG.out HX0.out).mono ?_; rintro e w2 ⟨b, rfl, hb, hr⟩; obtain ⟨rfl, rfl⟩ : b = false ∧ w2 = X := (by rcases hr with ⟨h1, _, h2⟩ | ⟨_, N, hn, _⟩; exact ⟨h1, h2⟩; cases hn); clear hb hr)
  go_ret
  exact ⟨rfl, HB0.out⟩
set_option maxHeartbeats 4000000 in
set_option maxRecDepth 100000 in
theorem refused9 (gp k1 k2 : Nat) (w : World) (h : Fy w gp k1 k2) (hg : Gv w) :
    Calls Tryz.prog 14 #[.agg #[.slice (some ⟨gp, 0, none⟩) 4 4], .int .i64 2] w fun e w' => e = .returned (.int .i64 0) ∧ Below w.heap.size w w' := by
  have HB0 := hid (belowA w (.cells #[.slice (some ⟨gp, 0, none⟩) 4 4] 35))
  have HX0 := hid (heap_alloc_new w (.cells #[.slice (some ⟨gp, 0, none⟩) 4 4] 35))
  have HG := hid (hg.low HB0.out)
  have HF := hid (h.low HB0.out)
  have HV := hid (fun W (hb : Below w.heap.size w W) => valid9 gp k1 k2 W (h.low hb))
  have HC := hid (fun W (hb : Below w.heap.size w W) => check9 gp k1 k2 W (h.low hb) (hg.low hb))
  have HN := hid (fun W (hb : Below w.heap.size w W) => codeof_nil W (hg.low hb))
  clear hg h
  go_enter Tryz.func14, Tryz.ntmps14
  go_upto_region 1 with (fail)
  generalize w.alloc (.cells #[.slice (some ⟨gp, 0, none⟩) 4 4] 35) = X at *
  have x0 := cell_of_one HX0.out
  have HZ := hid (lt_blk HX0.out)
  go_upto_region 2 with (first
    | (go_at_call 24; refine (HV.out X HB0.out).mono ?_; rintro e w1 ⟨rfl, l1⟩; have L1 := hid (HB0.out.trans (l1.mono HB0.out.size)); have X1 := hid ((l1.block _ HZ.out).trans HX0.out); clear l1)
    | (go_at_call 23; refine (HN.out w1 L1.out).mono ?_; rintro e w2 ⟨rfl, l2⟩; have L2 := hid (L1.out.trans (l2.mono L1.out.size)); have X2 := hid ((l2.block _ (lt_blk X1.out)).trans X1.out); clear l2))
  clear x0
  have x0 := cell_of_one X2.out
  go_wp2_with (first
    | (go_at_call 25; refine (HC.out w2 L2.out).mono ?_; rintro e w3 ⟨gt, rfl, l3⟩; have L3 := hid (L2.out.trans (l3.mono L2.out.size)); clear l3)
    | (go_at_call 23; refine (HN.out w3 L3.out).mono ?_; rintro e w4 ⟨rfl, l4⟩; have L4 := hid (L3.out.trans (l4.mono L3.out.size)); clear l4))
  go_ret
  exact ⟨rfl, L4.out⟩
end Go.Proofs.YtimmjikpcekffaaGreatDoor.L
namespace Go.Proofs.YtimmjikpcekffaaGreatDoor.L
open Go.RowKit Go.Shelf
set_option linter.unusedVariables false
theorem makeS (w : World) : (Instr.makeSlice 76 (.int .i64 4) (.int .i64 4)).run Tryz.prog w = .ok (.slice (some ⟨w.heap.size, 0, none⟩) 4 4) (w.alloc (.cells #[.int .i64 0, .int .i64 0, .int .i64 0, .int .i64 0] 81)) := by
  obtain ⟨i, hi, hz, hs, hb⟩ := info_parts (show (Tryz.prog.info? 81).map (fun i => (i.zero, i.size, i.bytes)) = some (some (.int .i64 0), 1, 8) by kernel_rfl)
  have h := run_makeSlice (P := Tryz.prog) w 76 81 i (.int .i64 0) Tryz.underlying76 hi hz .i64 .i64 4 4 (by omega) (by omega) (by rw [hs]; omega) (by rw [hb]; omega) (by omega)
  rw [hs] at h
  simp only [Value.cells] at h
  rw [show madeCells #[Value.int .i64 0] (Int.toNat 4 * 1) = #[.int .i64 0, .int .i64 0, .int .i64 0, .int .i64 0] from by kernel_rfl] at h
  exact h
/-- A row of four signs. -/
def Sg (W : World) (g : Nat) (a b c d : Int) : Prop := W.heap[g]? = some (.cells #[.int .i64 a, .int .i64 b, .int .i64 c, .int .i64 d] 81 (0, 0))
theorem Sg.low {W W' : World} {g : Nat} {a b c d : Int} (h : Sg W g a b c d) (k : Below W.heap.size W W') : Sg W' g a b c d := (k.block _ (lt_blk h)).trans h
theorem Sg.cells {W : World} {g : Nat} {a b c d : Int} (h : Sg W g a b c d) : W.cell? ⟨g, 0, none⟩ = some (.int .i64 a) ∧ W.cell? ⟨g, 1, none⟩ = some (.int .i64 b) ∧ W.cell? ⟨g, 2, none⟩ = some (.int .i64 c) ∧ W.cell? ⟨g, 3, none⟩ = some (.int .i64 d) :=
  ⟨cell_of_row _ _ 0 _ _ _ h, cell_of_row _ _ 1 _ _ _ h, cell_of_row _ _ 2 _ _ _ h, cell_of_row _ _ 3 _ _ _ h⟩
theorem Sg.frz {W : World} {g : Nat} {a b c d : Int} (h : Sg W g a b c d) (j : Nat) : W.frozen? ⟨g, j, none⟩ = false := by
  unfold Sg at h
  simp [World.frozen?, h]
theorem Sg.set0 {W : World} {g : Nat} {a b c d : Int} (h : Sg W g a b c d) (v : Int) : Sg (W.setCell ⟨g, 0, none⟩ (.int .i64 v)) g v b c d := by
  unfold Sg at *
  rw [setCell_eq_setRow _ _ _ _ _ _ _ h, setRow_heap _ _ _ _ _ _ h]; rfl
theorem Sg.set1 {W : World} {g : Nat} {a b c d : Int} (h : Sg W g a b c d) (v : Int) : Sg (W.setCell ⟨g, 1, none⟩ (.int .i64 v)) g a v c d := by
  unfold Sg at *
  rw [setCell_eq_setRow _ _ _ _ _ _ _ h, setRow_heap _ _ _ _ _ _ h]; rfl
theorem Sg.set2 {W : World} {g : Nat} {a b c d : Int} (h : Sg W g a b c d) (v : Int) : Sg (W.setCell ⟨g, 2, none⟩ (.int .i64 v)) g a b v d := by
  unfold Sg at *
  rw [setCell_eq_setRow _ _ _ _ _ _ _ h, setRow_heap _ _ _ _ _ _ h]; rfl
theorem step_14 (w : World) : Calls Tryz.prog 38 #[.int .i64 14] w fun e w' => e = .returned (.int .i64 0) ∧ w' = w := by
  go_enter Tryz.func38, Tryz.ntmps38
  go_wp2_with fail
  go_ret
  exact ⟨rfl, rfl⟩
theorem step_11 (w : World) : Calls Tryz.prog 38 #[.int .i64 11] w fun e w' => e = .returned (.int .i64 0) ∧ w' = w := by
  go_enter Tryz.func38, Tryz.ntmps38
  go_wp2_with fail
  go_ret
  exact ⟨rfl, rfl⟩
theorem step_6 (w : World) : Calls Tryz.prog 38 #[.int .i64 6] w fun e w' => e = .returned (.int .i64 0) ∧ w' = w := by
  go_enter Tryz.func38, Tryz.ntmps38
  go_wp2_with fail
  go_ret
  exact ⟨rfl, rfl⟩
theorem step_3 (w : World) : Calls Tryz.prog 38 #[.int .i64 3] w fun e w' => e = .returned (.int .i64 1) ∧ w' = w := by
  go_enter Tryz.func38, Tryz.ntmps38
  go_wp2_with fail
  go_ret
  exact ⟨rfl, rfl⟩
theorem other_0 (w : World) : Calls Tryz.prog 69 #[.int .i64 0] w fun e w' => e = .returned (.int .i64 1) ∧ w' = w := by
  go_enter Tryz.func69, Tryz.ntmps69
  go_wp2_with fail
  go_ret
  exact ⟨rfl, rfl⟩
theorem after_1 (w : World) : Calls Tryz.prog 39 #[.int .i64 1, .int .i64 0] w fun e w' => e = .returned (.int .i64 1) ∧ w' = w := by
  go_enter Tryz.func39, Tryz.ntmps39
  go_wp2_with (go_at_call 69; refine (other_0 _).mono ?_; rintro e w1 ⟨rfl, rfl⟩)
  go_ret
  exact ⟨rfl, rfl⟩
theorem after_0 (s : Int) (w : World) : Calls Tryz.prog 39 #[.int .i64 0, .int .i64 s] w fun e w' => e = .returned (.int .i64 s) ∧ w' = w := by
  go_enter Tryz.func39, Tryz.ntmps39
  go_wp2_with fail
  go_ret
  exact ⟨rfl, rfl⟩
theorem Fy.cells {w : World} {gp k1 k2 : Nat} (h : Fy w gp k1 k2) : (w.cell? ⟨gp, 0, none⟩ = some (.int .i64 14) ∧ w.cell? ⟨gp, 1, none⟩ = some (.string ⟨#[122, 111, 110, 101]⟩) ∧ w.cell? ⟨gp, 2, none⟩ = some (.int .i64 2) ∧ w.cell? ⟨gp, 3, none⟩ = some (.slice none 0 0)) ∧ (w.cell? ⟨gp, 4, none⟩ = some (.int .i64 11) ∧ w.cell? ⟨gp, 5, none⟩ = some (.string ⟨#[97]⟩) ∧ w.cell? ⟨gp, 6, none⟩ = some (.int .i64 0) ∧ w.cell? ⟨gp, 7, none⟩ = some (.slice none 0 0)) ∧ (w.cell? ⟨gp, 8, none⟩ = some (.int .i64 6) ∧ w.cell? ⟨gp, 9, none⟩ = some (.string ⟨#[]⟩) ∧ w.cell? ⟨gp, 10, none⟩ = some (.int .i64 1) ∧ w.cell? ⟨gp, 11, none⟩ = some (.slice (some ⟨k1, 0, none⟩) 2 2)) ∧ (w.cell? ⟨gp, 12, none⟩ = some (.int .i64 3) ∧ w.cell? ⟨gp, 13, none⟩ = some (.string ⟨#[]⟩) ∧ w.cell? ⟨gp, 14, none⟩ = some (.int .i64 0) ∧ w.cell? ⟨gp, 15, none⟩ = some (.slice (some ⟨k2, 0, none⟩) 1 1)) ∧ w.cell? ⟨k1, 0, none⟩ = some (.int .i64 0) ∧ w.cell? ⟨k1, 1, none⟩ = some (.int .i64 1) ∧ w.cell? ⟨k2, 0, none⟩ = some (.int .i64 2) :=
  ⟨⟨cell_of_row _ _ 0 _ _ _ h.row, cell_of_row _ _ 1 _ _ _ h.row, cell_of_row _ _ 2 _ _ _ h.row, cell_of_row _ _ 3 _ _ _ h.row⟩, ⟨cell_of_row _ _ 4 _ _ _ h.row, cell_of_row _ _ 5 _ _ _ h.row, cell_of_row _ _ 6 _ _ _ h.row, cell_of_row _ _ 7 _ _ _ h.row⟩, ⟨cell_of_row _ _ 8 _ _ _ h.row, cell_of_row _ _ 9 _ _ _ h.row, cell_of_row _ _ 10 _ _ _ h.row, cell_of_row _ _ 11 _ _ _ h.row⟩, ⟨cell_of_row _ _ 12 _ _ _ h.row, cell_of_row _ _ 13 _ _ _ h.row, cell_of_row _ _ 14 _ _ _ h.row, cell_of_row _ _ 15 _ _ _ h.row⟩, cell_of_row _ _ 0 _ _ _ h.kid, cell_of_row _ _ 1 _ _ _ h.kid, cell_of_row _ _ 0 _ _ _ h.one⟩
set_option maxHeartbeats 4000000 in
set_option maxRecDepth 100000 in
theorem signs9 (gp k1 k2 : Nat) (w : World) (h : Fy w gp k1 k2) :
    Calls Tryz.prog 27 #[.slice (some ⟨gp, 0, none⟩) 4 4] w fun e w' => e = .returned (.slice (some ⟨w.heap.size, 0, none⟩) 4 4) ∧ Sg w' w.heap.size 1 1 1 0 ∧ Below w.heap.size w w' := by
  have MK := makeS
  have HF := hid h
  have HB1 := hid (belowA w (.cells #[.int .i64 0, .int .i64 0, .int .i64 0, .int .i64 0] 81))
  have HT1 := hid (show Sg (w.alloc (.cells #[.int .i64 0, .int .i64 0, .int .i64 0, .int .i64 0] 81)) w.heap.size 0 0 0 0 from heap_alloc_new w _)
  clear h
  go_enter Tryz.func27, Tryz.ntmps27
  go_upto_region 2 with (fail)
  generalize w.alloc (.cells #[.int .i64 0, .int .i64 0, .int .i64 0, .int .i64 0] 81) = X at *
  clear MK
  go_wp2_with fail
  refine wp_loop_rounds 5 ?_
  rw [rounds_succ]
  have ⟨⟨p0, p1, p2, p3⟩, ⟨p4, p5, p6, p7⟩, ⟨p8, p9, p10, p11⟩, ⟨p12, p13, p14, p15⟩, q0, q1, q2⟩ := (HF.out.low HB1.out).cells
  have ⟨s0, s1, s2, s3⟩ := HT1.out.cells
  have f2 := HT1.out.frz 2
  go_wp2_with (go_at_call 38; refine (step_3 _).mono ?_; rintro e w1 ⟨rfl, hw⟩; have hw2 := hw.symm; clear hw; subst hw2)
  refine wp_loop_rounds 2 ?_
  rw [rounds_succ]
  go_wp2_with (go_at_call 39; refine (after_1 _).mono ?_; rintro e w1 ⟨rfl, hw⟩; have hw2 := hw.symm; clear hw; subst hw2)
  have HT2 := hid (HT1.out.set2 1)
  have HB2 := hid (HB1.out.setCell (p := ⟨w.heap.size, 2, none⟩) (Nat.le_refl _) (.int .i64 1))
  clear p0 p1 p2 p3 p4 p5 p6 p7 p8 p9 p10 p11 p12 p13 p14 p15 q0 q1 q2 s0 s1 s2 s3 f2
  generalize X.setCell ⟨w.heap.size, 2, none⟩ (.int .i64 1) = Y at *
  rw [rounds_succ]
  go_wp2_with fail
  rw [rounds_succ]
  have ⟨⟨p0, p1, p2, p3⟩, ⟨p4, p5, p6, p7⟩, ⟨p8, p9, p10, p11⟩, ⟨p12, p13, p14, p15⟩, q0, q1, q2⟩ := (HF.out.low HB2.out).cells
  have ⟨s0, s1, s2, s3⟩ := HT2.out.cells
  have f0 := HT2.out.frz 0
  go_wp2_with (go_at_call 38; refine (step_6 _).mono ?_; rintro e w1 ⟨rfl, hw⟩; have hw2 := hw.symm; clear hw; subst hw2)
  refine wp_loop_rounds 3 ?_
  rw [rounds_succ]
  go_wp2_with (go_at_call 39; refine (after_0 1 _).mono ?_; rintro e w1 ⟨rfl, hw⟩; have hw2 := hw.symm; clear hw; subst hw2)
  have HT3 := hid (HT2.out.set0 1)
  have HB3 := hid (HB2.out.setCell (p := ⟨w.heap.size, 0, none⟩) (Nat.le_refl _) (.int .i64 1))
  clear p0 p1 p2 p3 p4 p5 p6 p7 p8 p9 p10 p11 p12 p13 p14 p15 q0 q1 q2 s0 s1 s2 s3 f0
  generalize Y.setCell ⟨w.heap.size, 0, none⟩ (.int .i64 1) = Z at *
  have ⟨⟨p0, p1, p2, p3⟩, ⟨p4, p5, p6, p7⟩, ⟨p8, p9, p10, p11⟩, ⟨p12, p13, p14, p15⟩, q0, q1, q2⟩ := (HF.out.low HB3.out).cells
  have ⟨s0, s1, s2, s3⟩ := HT3.out.cells
  have f1 := HT3.out.frz 1
  rw [rounds_succ]
  go_wp2_with (go_at_call 39; refine (after_0 1 _).mono ?_; rintro e w1 ⟨rfl, hw⟩; have hw2 := hw.symm; clear hw; subst hw2)
  have HT4 := hid (HT3.out.set1 1)
  have HB4 := hid (HB3.out.setCell (p := ⟨w.heap.size, 1, none⟩) (Nat.le_refl _) (.int .i64 1))
  clear p0 p1 p2 p3 p4 p5 p6 p7 p8 p9 p10 p11 p12 p13 p14 p15 q0 q1 q2 s0 s1 s2 s3 f1
  generalize Z.setCell ⟨w.heap.size, 1, none⟩ (.int .i64 1) = V at *
  have ⟨⟨p0, p1, p2, p3⟩, ⟨p4, p5, p6, p7⟩, ⟨p8, p9, p10, p11⟩, ⟨p12, p13, p14, p15⟩, q0, q1, q2⟩ := (HF.out.low HB4.out).cells
  rw [rounds_succ]
  go_wp2_with fail
  rw [rounds_succ]
  go_wp2_with (go_at_call 38; refine (step_11 _).mono ?_; rintro e w1 ⟨rfl, hw⟩; have hw2 := hw.symm; clear hw; subst hw2)
  refine wp_loop_rounds 1 ?_
  rw [rounds_succ]
  go_wp2_with fail
  rw [rounds_succ]
  go_wp2_with (go_at_call 38; refine (step_14 _).mono ?_; rintro e w1 ⟨rfl, hw⟩; have hw2 := hw.symm; clear hw; subst hw2)
  refine wp_loop_rounds 1 ?_
  rw [rounds_succ]
  go_wp2_with fail
  rw [rounds_succ]
  go_wp2_with fail
  go_ret
  exact ⟨rfl, HT4.out, HB4.out⟩
end Go.Proofs.YtimmjikpcekffaaGreatDoor.L
