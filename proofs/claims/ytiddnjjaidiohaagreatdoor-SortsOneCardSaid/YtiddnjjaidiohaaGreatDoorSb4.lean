import Derived.Test.YtiddnjjaidiohaaGreatDoorSb3
namespace Go.Proofs.YtiddnjjaidiohaaGreatDoor.L
open Go.RowKit Go.Extern.Stop Go.Stop Go.Extern
set_option linter.unusedVariables false
theorem ErC.erN {W : World} {g c : Nat} {a : Int} {ev : Value} (h : ErC W g c a ev) : ∃ N, ErN N ev ∧ Flt W N c a := by
  induction h with
  | flt N h hn => exact ⟨N, .flt, h⟩
  | ins t ev _ ih =>
    obtain ⟨N, h1, h2⟩ := ih
    exact ⟨N, .ins t ev h1, h2⟩
theorem ErN.uni {N M : Nat} {ev : Value} (h : ErN N ev) (k : ErN M ev) : N = M := by
  induction h with
  | flt => exact (ErN.one (N := M) (M := N) k).symm
  | ins t ev _ ih =>
    cases k with
    | ins _ _ k => exact ih k
/-- The fault by which Check refuses a tree. -/
def FaA (T : List Pt) (sc : Int) (W : World) (M : Nat) : Prop :=
  ((sc ≠ 2 ∧ sc ≠ 3) ∧ Flt W M 149 (-1)) ∨
  ((sc = 2 ∨ sc = 3) ∧ ((∃ N c i : Nat, FltC W M i N ∧ Flt W N c i ∧ Res T c i ∧ c ≠ 0) ∨ (Res T 0 0 ∧ ∃ c a, (ovS T sc).2 = some (c, a) ∧ Flt W M c a)))
theorem FaA.lt {T : List Pt} {sc : Int} {W : World} {M : Nat} (h : FaA T sc W M) : M < W.heap.size := by
  rcases h with ⟨_, h⟩ | ⟨_, ⟨N, c, i, h, _⟩ | ⟨_, c, a, _, h⟩⟩ <;> exact lt_blk h
theorem FaA.low {T : List Pt} {sc : Int} {W W' : World} {M : Nat} (h : FaA T sc W M) (hb : Below W.heap.size W W') : FaA T sc W' M := by
  rcases h with ⟨h1, h⟩ | ⟨h1, ⟨N, c, i, h, h2, h3⟩ | ⟨h2, c, a, h3, h⟩⟩
  · exact .inl ⟨h1, h.low hb⟩
  · exact .inr ⟨h1, .inl ⟨N, c, i, h.low hb, h2.low hb, h3⟩⟩
  · exact .inr ⟨h1, .inr ⟨h2, c, a, h3, h.low hb⟩⟩
theorem TyA.erN {T : List Pt} {sc : Int} {B : Nat} {W : World} {v ev : Value} (h : TyA T sc B W v ev) :
    (ev = .nilIface ∧ (sc = 2 ∨ sc = 3) ∧ Res T 0 0 ∧ ∃ gt, v = .slice (some ⟨gt, 0, none⟩) T.length T.length ∧ (ovS T sc).2 = none ∧ TyO W B gt T.length (ovS T sc).1) ∨ (v = .slice none 0 0 ∧ ∃ N, ErN N ev ∧ FaA T sc W N) := by
  rcases h with ⟨h1, h2, M, rfl, h3⟩ | ⟨h1, ⟨h2, h3, h4⟩ | ⟨h2, ⟨gt, h3, h4, h5, h6⟩ | ⟨gt, c, a, h3, h4, h5⟩⟩⟩
  · exact .inr ⟨h2, M, .flt, .inl ⟨h1, h3⟩⟩
  · rcases h4 with ⟨rfl, _⟩ | ⟨M, N, c, i, rfl, h5, h6, h7⟩
    · exact absurd rfl h3
    · exact .inr ⟨h2, M, .flt, .inr ⟨h1, .inl ⟨N, c, i, h5, h6, h7⟩⟩⟩
  · exact .inl ⟨h4, h1, h2, gt, h3, h5, h6⟩
  · obtain ⟨N, h6, h7⟩ := h5.erN
    exact .inr ⟨h3, N, h6, .inr ⟨h1, .inr ⟨h2, c, a, h4, h7⟩⟩⟩
/-- What Check answers. -/
def CkR (T : List Pt) (sc : Int) (B : Nat) (W : World) (v ev : Value) : Prop :=
  (ev = .nilIface ∧ (sc = 2 ∨ sc = 3) ∧ Res T 0 0 ∧ ∃ gt, v = .slice (some ⟨gt, 0, none⟩) T.length T.length ∧ (ovS T sc).2 = none ∧ TyO W B gt T.length (ovS T sc).1) ∨ (v = .slice none 0 0 ∧ ∃ N, ev = fv N ∧ FaA T sc W N)
set_option maxHeartbeats 8000000 in
set_option maxRecDepth 100000 in
theorem check_any (a : Option Addr) (T : List Pt) (cap : Nat) (sc : Int) (w : World) (hT : PL w a T) (hG : GdT T) (hg : Gv w) :
    Calls Tryz.prog 12 #[.agg #[.slice a T.length cap], .int .i64 sc] w fun e w' => ∃ v ev, e = .returned (.tuple #[v, ev]) ∧ Below w.heap.size w w' ∧ CkR T sc w.heap.size w' v ev := by
  have HB0 := hid (belowA w (.cells #[.slice a T.length cap] 26))
  have HX0 := hid (heap_alloc_new w (.cells #[.slice a T.length cap] 26))
  have HTY := hid (typesof_any a T cap sc _ (hT.low HB0.out) hG (hg.low HB0.out))
  have HG := hid (hg.low HB0.out)
  generalize T.length = L at HB0 HX0 HTY HG ⊢
  clear hT hg
  go_enter Tryz.func12, Tryz.ntmps12
  go_upto_region 1 with (fail)
  generalize w.alloc (.cells #[.slice a L cap] 26) = X at *
  have x0 := cell_of_one HX0.out
  go_upto_region 2 with (go_at_call 25; refine HTY.out.mono ?_; rintro e w1 ⟨v, ev, rfl, l1, hr⟩; have L1 := hid l1; have HR := hid hr.erN; clear l1 hr)
  have HB1 := hid (HB0.out.trans (L1.out.mono HB0.out.size))
  have HB2 := hid (belowA w1 (.cells #[.pointer none] 48))
  have HX2 := hid (heap_alloc_new w1 (.cells #[.pointer none] 48))
  have HBC := hid (HB1.out.trans (HB2.out.mono HB1.out.size))
  clear x0
  rcases HR.out with ⟨rfl, hsc, hrs, gt, rfl, hn, hty⟩ | ⟨rfl, N, hn, hf⟩
  · have HRR := hid (And.intro hsc (And.intro hrs (And.intro hn (hty.low HB2.out))))
    clear hsc hrs hn hty
    have HNI := hid as_nil
    go_upto_region 3 with (fail)
    generalize w1.alloc (.cells #[.pointer none] 48) = Y at *
    go_wp2_with (go_at_call 26; refine (HNI.out _ _).mono ?_; rintro e w2 ⟨rfl, rfl⟩)
    (try simp only [Exit.inBlock, Exit.then])
    refine bodyPost_ret (results_tmp2 rfl _ _ _) rfl ⟨_, _, rfl, HBC.out, ?_⟩
    obtain ⟨h1, h2, h3, h4⟩ := HRR.out
    exact .inl ⟨rfl, h1, h2, gt, rfl, h3, h4.mono HB0.out.size⟩
  · have HLT := hid hf.lt
    have HF := hid hf
    have HN := hid hn
    have HAS := hid (as_any ev N w1.heap.size (.pointer none) (w1.alloc (.cells #[.pointer none] 48)) hn (HG.out.low (L1.out.trans (HB2.out.mono L1.out.size))) HX2.out)
    obtain ⟨u, xv, rfl⟩ := hn.ne
    clear hf hn
    go_upto_region 3 with (fail)
    generalize w1.alloc (.cells #[.pointer none] 48) = Y at *
    go_upto_region 4 with (go_at_call 26; refine HAS.out.mono ?_; rintro e w2 ⟨rfl, hc, hb⟩; have HBB := hid hb; clear hb)
    go_region
    clear hc
    go_wp2_with fail
    (try simp only [Exit.inBlock, Exit.then])
    refine bodyPost_ret (results_tmp2 rfl _ _ _) rfl ⟨_, _, rfl, (but_new HBC.out HBB.out HB1.out.size).drew, ?_⟩
    refine .inr ⟨rfl, N, rfl, ?_⟩
    exact HF.out.low (but_new HB2.out HBB.out (Nat.le_refl _)).drew
end Go.Proofs.YtiddnjjaidiohaaGreatDoor.L
