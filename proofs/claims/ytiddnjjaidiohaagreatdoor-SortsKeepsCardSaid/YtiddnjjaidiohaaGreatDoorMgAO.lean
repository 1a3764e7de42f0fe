import Derived.Test.YtiddnjjaidiohaaGreatDoorSb3
import Derived.Test.YtiddnjjaidiohaaGreatDoorMgAL
namespace Go.Proofs.YtiddnjjaidiohaaGreatDoor.L
open Go.RowKit Go.Extern.Stop Go.Stop Go.Extern
set_option linter.unusedVariables false
theorem ErC.erN {W : World} {g c : Nat} {a : Int} {ev : Value} (h : ErC W g c a ev) : ∃ N, ErN N ev ∧ Flt W N c a := by
  induction h with
  | flt N h hn => exact ⟨N, .flt, h⟩
  | ins t ev _ ih =>
    obtain ⟨N, h1, h2⟩ := ih
    exact ⟨N, .ins t ev h1, h2⟩
theorem ErN.uni {N M : Nat} {ev : Value} (h : ErN N ev) (k : ErN M ev) : N = M := by
  induction h with
  | flt => exact (ErN.one (N := M) (M := N) k).symm
  | ins t ev _ ih =>
    cases k with
    | ins _ _ k => exact ih k
/-- The fault by which Check refuses a tree. -/
def FaA (T : List Pt) (sc : Int) (W : World) (M : Nat) : Prop :=
  ((sc ≠ 2 ∧ sc ≠ 3) ∧ Flt W M 149 (-1)) ∨
  ((sc = 2 ∨ sc = 3) ∧ ((∃ N c i : Nat, FltC W M i N ∧ Flt W N c i ∧ Res T c i ∧ c ≠ 0) ∨ (Res T 0 0 ∧ ∃ c a, (ovS T sc).2 = some (c, a) ∧ Flt W M c a)))
theorem FaA.lt {T : List Pt} {sc : Int} {W : World} {M : Nat} (h : FaA T sc W M) : M < W.heap.size := by
  rcases h with ⟨_, h⟩ | ⟨_, ⟨N, c, i, h, _⟩ | ⟨_, c, a, _, h⟩⟩ <;> exact lt_blk h
theorem FaA.low {T : List Pt} {sc : Int} {W W' : World} {M : Nat} (h : FaA T sc W M) (hb : Below W.heap.size W W') : FaA T sc W' M := by
  rcases h with ⟨h1, h⟩ | ⟨h1, ⟨N, c, i, h, h2, h3⟩ | ⟨h2, c, a, h3, h⟩⟩
  · exact .inl ⟨h1, h.low hb⟩
  · exact .inr ⟨h1, .inl ⟨N, c, i, h.low hb, h2.low hb, h3⟩⟩
  · exact .inr ⟨h1, .inr ⟨h2, c, a, h3, h.low hb⟩⟩
theorem TyA.erN {T : List Pt} {sc : Int} {B : Nat} {W : World} {v ev : Value} (h : TyA T sc B W v ev) :
    (ev = .nilIface ∧ (sc = 2 ∨ sc = 3) ∧ Res T 0 0 ∧ ∃ gt, v = .slice (some ⟨gt, 0, none⟩) T.length T.length ∧ (ovS T sc).2 = none ∧ TyO W B gt T.length (ovS T sc).1) ∨ (v = .slice none 0 0 ∧ ∃ N, ErN N ev ∧ FaA T sc W N) := by
  rcases h with ⟨h1, h2, M, rfl, h3⟩ | ⟨h1, ⟨h2, h3, h4⟩ | ⟨h2, ⟨gt, h3, h4, h5, h6⟩ | ⟨gt, c, a, h3, h4, h5⟩⟩⟩
  · exact .inr ⟨h2, M, .flt, .inl ⟨h1, h3⟩⟩
  · rcases h4 with ⟨rfl, _⟩ | ⟨M, N, c, i, rfl, h5, h6, h7⟩
    · exact absurd rfl h3
    · exact .inr ⟨h2, M, .flt, .inr ⟨h1, .inl ⟨N, c, i, h5, h6, h7⟩⟩⟩
  · exact .inl ⟨h4, h1, h2, gt, h3, h5, h6⟩
  · obtain ⟨N, h6, h7⟩ := h5.erN
    exact .inr ⟨h3, N, h6, .inr ⟨h1, .inr ⟨h2, c, a, h4, h7⟩⟩⟩
/-- What Check answers. -/
def CkR (T : List Pt) (sc : Int) (B : Nat) (W : World) (v ev : Value) : Prop :=
  (ev = .nilIface ∧ (sc = 2 ∨ sc = 3) ∧ Res T 0 0 ∧ ∃ gt, v = .slice (some ⟨gt, 0, none⟩) T.length T.length ∧ (ovS T sc).2 = none ∧ TyO W B gt T.length (ovS T sc).1) ∨ (v = .slice none 0 0 ∧ ∃ N, ev = fv N ∧ FaA T sc W N)
set_option maxHeartbeats 8000000 in
set_option maxRecDepth 100000 in
theorem check_any (a : Option Addr) (T : List Pt) (cap : Nat) (sc : Int) (w : World) (hT : PL w a T) (hG : GdT T) (hg : Gv w) :
    Calls Tryz.prog 12 #[.agg #[.slice a T.length cap], .int .i64 sc] w fun e w' => ∃ v ev, e = .returned (.tuple #[v, ev]) ∧ Below w.heap.size w w' ∧ CkR T sc w.heap.size w' v ev := by
  have HB0 := hid (belowA w (.cells #[.slice a T.length cap] 26))
  have HX0 := hid (heap_alloc_new w (.cells #[.slice a T.length cap] 26))
  have HTY := hid (typesof_any a T cap sc _ (hT.low HB0.out) hG (hg.low HB0.out))
  have HG := hid (hg.low HB0.out)
  generalize T.length = L at HB0 HX0 HTY HG ⊢
  clear hT hg
  go_enter Tryz.func12, Tryz.ntmps12
  go_upto_region 1 with (fail)
  generalize w.alloc (.cells #[.slice a L cap] 26) = X at *
  have x0 := cell_of_one HX0.out
  go_upto_region 2 with (go_at_call 25; refine HTY.out.mono ?_; rintro e w1 ⟨v, ev, rfl, l1, hr⟩; have L1 := hid l1; have HR := hid hr.erN; clear l1 hr)
  have HB1 := hid (HB0.out.trans (L1.out.mono HB0.out.size))
  have HB2 := hid (belowA w1 (.cells #[.pointer none] 48))
  have HX2 := hid (heap_alloc_new w1 (.cells #[.pointer none] 48))
  have HBC := hid (HB1.out.trans (HB2.out.mono HB1.out.size))
  clear x0
  rcases HR.out with ⟨rfl, hsc, hrs, gt, rfl, hn, hty⟩ | ⟨rfl, N, hn, hf⟩
  · have HRR := hid (And.intro hsc (And.intro hrs (And.intro hn (hty.low HB2.out))))
    clear hsc hrs hn hty
    have HNI := hid as_nil
    go_upto_region 3 with (fail)
    generalize w1.alloc (.cells #[.pointer none] 48) = Y at *
    go_wp2_with (go_at_call 26; refine (HNI.out _ _).mono ?_; rintro e w2 ⟨rfl, rfl⟩)
    (try simp only [Exit.inBlock, Exit.then])
    refine bodyPost_ret (results_tmp2 rfl _ _ _) rfl ⟨_, _, rfl, HBC.out, ?_⟩
    obtain ⟨h1, h2, h3, h4⟩ := HRR.out
    exact .inl ⟨rfl, h1, h2, gt, rfl, h3, h4.mono HB0.out.size⟩
  · have HLT := hid hf.lt
    have HF := hid hf
    have HN := hid hn
    have HAS := hid (as_any ev N w1.heap.size (.pointer none) (w1.alloc (.cells #[.pointer none] 48)) hn (HG.out.low (L1.out.trans (HB2.out.mono L1.out.size))) HX2.out)
    obtain ⟨u, xv, rfl⟩ := hn.ne
    clear hf hn
    go_upto_region 3 with (fail)
    generalize w1.alloc (.cells #[.pointer none] 48) = Y at *
    go_upto_region 4 with (go_at_call 26; refine HAS.out.mono ?_; rintro e w2 ⟨rfl, hc, hb⟩; have HBB := hid hb; clear hb)
    go_region
    clear hc
    go_wp2_with fail
    (try simp only [Exit.inBlock, Exit.then])
    refine bodyPost_ret (results_tmp2 rfl _ _ _) rfl ⟨_, _, rfl, (but_new HBC.out HBB.out HB1.out.size).drew, ?_⟩
    refine .inr ⟨rfl, N, rfl, ?_⟩
    exact HF.out.low (but_new HB2.out HBB.out (Nat.le_refl _)).drew
end Go.Proofs.YtiddnjjaidiohaaGreatDoor.L
namespace Go.Proofs.YtiddnjjaidiohaaGreatDoor.L
open Go.RowKit
set_option linter.unusedVariables false
/-- A list of types to be read. -/
def TyL (w : World) (v : Value) (n : Nat) (ty : Nat → Int × Int) : Prop := ∃ a cap, v = .slice a n cap ∧ (n = 0 ∨ ∃ b off, a = some ⟨b, off, none⟩ ∧ b < w.heap.size ∧ ∀ j, j < n → w.cell? ⟨b, off + j * 2, none⟩ = some (.int .i64 (ty j).1) ∧ w.cell? ⟨b, off + j * 2 + 1, none⟩ = some (.int .i64 (ty j).2))
theorem TyL.low {w w' : World} {v : Value} {n : Nat} {ty : Nat → Int × Int} (h : TyL w v n ty) (hb : Below w.heap.size w w') : TyL w' v n ty := by
  obtain ⟨a, cap, rfl, h⟩ := h
  refine ⟨a, cap, rfl, ?_⟩
  rcases h with h | ⟨b, off, rfl, hl, hc⟩
  · exact .inl h
  · exact .inr ⟨b, off, rfl, Nat.lt_of_lt_of_le hl hb.size, fun j hj => ⟨(hb.cell (p := ⟨b, off + j * 2, none⟩) hl).trans (hc j hj).1, (hb.cell (p := ⟨b, off + j * 2 + 1, none⟩) hl).trans (hc j hj).2⟩⟩
theorem tyl_nil (w : World) (ty : Nat → Int × Int) : TyL w (.slice none 0 0) 0 ty := ⟨none, 0, rfl, .inl rfl⟩
theorem TyO.tyl {W : World} {base gt n : Nat} {ty : Nat → Int × Int} (h : TyO W base gt n ty) : TyL W (.slice (some ⟨gt, 0, none⟩) n n) n ty := by
  have h1 := h.ty
  refine ⟨_, _, rfl, .inr ⟨gt, 0, rfl, h1.1, fun j hj => ?_⟩⟩
  rw [Nat.zero_add]
  exact h1.2 j hj
theorem TyL.congr {w : World} {v : Value} {n : Nat} {ty ty' : Nat → Int × Int} (h : TyL w v n ty) (e : ∀ j, j < n → ty j = ty' j) : TyL w v n ty' := by
  obtain ⟨a, cap, rfl, h⟩ := h
  refine ⟨a, cap, rfl, ?_⟩
  rcases h with h | ⟨b, off, rfl, hl, hc⟩
  · exact .inl h
  · exact .inr ⟨b, off, rfl, hl, fun j hj => by rw [← e j hj]; exact hc j hj⟩
set_option maxHeartbeats 8000000 in
set_option maxRecDepth 100000 in
theorem same_types (v1 v2 : Value) (n : Nat) (ty : Nat → Int × Int) (w : World) (i1 : TyL w v1 n ty) (i2 : TyL w v2 n ty) (hl : n ≤ 100000) :
    Calls Tryz.prog 13 #[v1, v2] w fun e w' => e = .returned (.bool true) ∧ Below w.heap.size w w' := by
  obtain ⟨a1, c1, rfl, h1⟩ := i1
  obtain ⟨a2, c2, rfl, h2⟩ := i2
  go_enter Tryz.func13, Tryz.ntmps13
  go_wp2
  go_loopw [13] (fun i wr => ∃ k : Nat, k ≤ n ∧ i = .int .i64 k ∧ Hid (Below w.heap.size w wr)) (fun i _ => n - (intOf i).toNat)
  case atStart => exact ⟨0, Nat.zero_le _, rfl, hid (Below.refl _ _)⟩
  case round =>
    obtain ⟨k, hk, rfl, HB⟩ := hrel
    by_cases hlt : k < n
    · rcases h1 with h0 | ⟨b1, o1, rfl, hb1, hc1⟩
      · omega
      rcases h2 with h0 | ⟨b2, o2, rfl, hb2, hc2⟩
      · omega
      obtain ⟨p0, p1⟩ := hc1 k hlt
      obtain ⟨q0, q1⟩ := hc2 k hlt
      rw [← HB.out.cell (p := ⟨b1, o1 + k * 2, none⟩) hb1] at p0
      rw [← HB.out.cell (p := ⟨b1, o1 + k * 2 + 1, none⟩) hb1] at p1
      rw [← HB.out.cell (p := ⟨b2, o2 + k * 2, none⟩) hb2] at q0
      rw [← HB.out.cell (p := ⟨b2, o2 + k * 2 + 1, none⟩) hb2] at q1
      generalize (ty k).1 = s1 at *
      generalize (ty k).2 = s2 at *
      clear hc1 hc2
      have g1 : (k : Int) < (n : Int) := by omega
      have g2 : (0 : Int) ≤ (k : Int) := by omega
      have g3 : ((k : Int) * 2).toNat = k * 2 := by omega
      go_wp2_with fail
      go_quiet (fail)
      go_wp2_with fail
      refine ⟨⟨k + 1, by omega, by go_num, hid (below_drewN HB.out nq)⟩, ?_⟩
      simp [intOf]
      omega
    · have g1 : ¬ (k : Int) < (n : Int) := by omega
      go_wp2_with fail
      go_ret
      exact ⟨rfl, HB.out⟩
theorem run_assert (x : Value) (w : World) : (Instr.typeAssert (.iface 48 x) 37 48 true).run Tryz.prog w = .ok (.tuple #[x, .bool true]) w := by
  simp [Instr.typeAssert, run_underlying Tryz.underlying48, go_sem, Result.andThen]
set_option maxHeartbeats 4000000 in
theorem isf_nil (a c : Int) (w : World) : Calls Tryz.prog 14 #[.nilIface, .agg #[.int .i64 0, .int .i64 a, .int .i64 c]] w fun e w' => e = .returned (.bool true) ∧ Below w.heap.size w w' := by
  have HB := hid (belowA w (.cells #[.int .i64 0, .int .i64 a, .int .i64 c] 33))
  go_enter Tryz.func14, Tryz.ntmps14
  go_wp2_with fail
  go_ret
  exact ⟨rfl, HB.out⟩
set_option maxHeartbeats 16000000 in
set_option maxRecDepth 100000 in
theorem isf_flt (N c : Nat) (a : Int) (w : World) (h : Flt w N c a) (h0 : c ≠ 0) : Calls Tryz.prog 14 #[fv N, .agg #[.int .i64 (c : Int), .int .i64 a, .int .i64 0]] w fun e w' => e = .returned (.bool true) ∧ Below w.heap.size w w' := by
  unfold fv
  have ra := run_assert
  have HB := hid (belowA w (.cells #[.int .i64 (c : Int), .int .i64 a, .int .i64 0] 33))
  have HX := hid (heap_alloc_new w (.cells #[.int .i64 (c : Int), .int .i64 a, .int .i64 0] 33))
  have HF := hid h
  have h0' : ¬ (c : Int) = 0 := by omega
  have h0'' : ((c : Int) == 0) = false := by simpa using h0
  clear h
  go_enter Tryz.func14, Tryz.ntmps14
  go_upto_region 1 with (fail)
  have HF2 := hid (HF.out.low HB.out)
  generalize w.alloc (.cells #[.int .i64 (c : Int), .int .i64 a, .int .i64 0] 33) = X at *
  have x0 : X.cell? ⟨w.heap.size, 0, none⟩ = some (.int .i64 (c : Int)) := cell_of_row _ _ 0 _ _ _ HX.out
  have x1 : X.cell? ⟨w.heap.size, 1, none⟩ = some (.int .i64 a) := cell_of_row _ _ 1 _ _ _ HX.out
  have x2 : X.cell? ⟨w.heap.size, 2, none⟩ = some (.int .i64 0) := cell_of_row _ _ 2 _ _ _ HX.out
  have ⟨c0, c1, c2, c3⟩ := cells4 HF2.out
  go_wp2_with fail
  go_quiet (fail)
  go_wp2_with fail
  go_ret
  exact ⟨rfl, below_drewN HB.out nq⟩
set_option maxHeartbeats 16000000 in
set_option maxRecDepth 100000 in
theorem isf_tree (M N c : Nat) (a : Int) (w : World) (g : FltC w M a N) (h : Flt w N c a) (h0 : c ≠ 0) : Calls Tryz.prog 14 #[fv M, .agg #[.int .i64 140, .int .i64 a, .int .i64 (c : Int)]] w fun e w' => e = .returned (.bool true) ∧ Below w.heap.size w w' := by
  unfold fv
  have ra := run_assert
  have HB := hid (belowA w (.cells #[.int .i64 140, .int .i64 a, .int .i64 (c : Int)] 33))
  have HX := hid (heap_alloc_new w (.cells #[.int .i64 140, .int .i64 a, .int .i64 (c : Int)] 33))
  have HF := hid h
  have HM := hid g
  have h0' : ¬ (c : Int) = 0 := by omega
  have h0'' : ((c : Int) == 0) = false := by simpa using h0
  clear h g
  go_enter Tryz.func14, Tryz.ntmps14
  go_upto_region 1 with (fail)
  have HF2 := hid (HF.out.low HB.out)
  have HM2 := hid (HM.out.low HB.out)
  generalize w.alloc (.cells #[.int .i64 140, .int .i64 a, .int .i64 (c : Int)] 33) = X at *
  have x0 : X.cell? ⟨w.heap.size, 0, none⟩ = some (.int .i64 140) := cell_of_row _ _ 0 _ _ _ HX.out
  have x1 : X.cell? ⟨w.heap.size, 1, none⟩ = some (.int .i64 a) := cell_of_row _ _ 1 _ _ _ HX.out
  have x2 : X.cell? ⟨w.heap.size, 2, none⟩ = some (.int .i64 (c : Int)) := cell_of_row _ _ 2 _ _ _ HX.out
  have ⟨c0, c1, c2, c3⟩ := cells4 HF2.out
  have ⟨d0, d1, d2, d3⟩ := cells4 HM2.out
  unfold fv at d3
  go_wp2_with fail
  go_quiet (fail)
  go_wp2_with fail
  go_quiet (fail)
  go_wp2_with fail
  go_ret
  exact ⟨rfl, below_drewN (below_drewN HB.out _) _⟩
end Go.Proofs.YtiddnjjaidiohaaGreatDoor.L
namespace Go.Proofs.YtiddnjjaidiohaaGreatDoor.L
open Go.RowKit
set_option linter.unusedVariables false
set_option maxHeartbeats 4000000
set_option maxRecDepth 100000
theorem rsel_any (s : Int) (w : World) : Calls Tryz.prog 30 #[.int .i64 s] w fun e w' => e = .returned (.bool (selB s)) ∧ w' = w := by
  unfold selB
  cases a : (s == 8)
  · cases b : (s == 9)
    · cases c : (s == 20) <;>
      · go_enter Tryz.func30, Tryz.ntmps30
        go_wp2_with fail
        go_ret
        exact ⟨rfl, rfl⟩
    · go_enter Tryz.func30, Tryz.ntmps30
      go_wp2_with fail
      go_ret
      exact ⟨rfl, rfl⟩
  · go_enter Tryz.func30, Tryz.ntmps30
    go_wp2_with fail
    go_ret
    exact ⟨rfl, rfl⟩
theorem rmov_any (u s : Int) (w : World) : Calls Tryz.prog 53 #[.agg #[.int .i64 u, .int .i64 s]] w fun e w' => e = .returned (.bool (movB s)) ∧ Below w.heap.size w w' := by
  have HB := hid (belowA w (.cells #[.int .i64 u, .int .i64 s] 47))
  have HX := hid (heap_alloc_new w (.cells #[.int .i64 u, .int .i64 s] 47))
  unfold movB
  cases a : (s == 2)
  · cases b : (s == 3) <;>
    · go_enter Tryz.func53, Tryz.ntmps53
      go_upto_region 1 with (fail)
      generalize w.alloc (.cells #[.int .i64 u, .int .i64 s] 47) = X at *
      have ⟨x0, x1⟩ := cellsW HX.out
      go_wp2_with fail
      go_ret
      exact ⟨rfl, HB.out⟩
  · go_enter Tryz.func53, Tryz.ntmps53
    go_upto_region 1 with (fail)
    generalize w.alloc (.cells #[.int .i64 u, .int .i64 s] 47) = X at *
    have ⟨x0, x1⟩ := cellsW HX.out
    go_wp2_with fail
    go_ret
    exact ⟨rfl, HB.out⟩
/-- Is a side known, as the document asks it? -/
def rknB (s c : Int) : Bool := s == 1 || (s == c && !(s == 0))
theorem rkn_any (s c : Int) (w : World) : Calls Tryz.prog 57 #[.int .i64 s, .int .i64 c] w fun e w' => e = .returned (.bool (rknB s c)) ∧ w' = w := by
  unfold rknB
  cases a : (s == 1)
  · cases b : (s == c)
    · go_enter Tryz.func57, Tryz.ntmps57
      go_wp2_with fail
      go_ret
      exact ⟨rfl, rfl⟩
    · cases d : (s == 0)
      · have d2 : (s != 0) = true := by simpa using d
        go_enter Tryz.func57, Tryz.ntmps57
        go_wp2_with fail
        go_ret
        exact ⟨rfl, rfl⟩
      · have d2 : (s != 0) = false := by simpa using d
        go_enter Tryz.func57, Tryz.ntmps57
        go_wp2_with fail
        go_ret
        exact ⟨rfl, rfl⟩
  · go_enter Tryz.func57, Tryz.ntmps57
    go_wp2_with fail
    go_ret
    exact ⟨rfl, rfl⟩
theorem loadTy (W : World) (N : Nat) (a b : Value) (h : W.heap[N]? = some (.cells #[a, b] 47 (0, 0))) : (loadVar 47 ⟨N, 0, none⟩).run Tryz.prog W = .ok (.agg #[a, b]) W := by
  have h0 : W.cell? ⟨N, 0, none⟩ = some a := by unfold World.cell?; rw [h]; rfl
  have h1 : W.cell? ⟨N, 1, none⟩ = some b := by unfold World.cell?; rw [h]; rfl
  go_simp
theorem loadFa (W : World) (N : Nat) (a b c : Value) (h : W.heap[N]? = some (.cells #[a, b, c] 33 (0, 0))) : (loadVar 33 ⟨N, 0, none⟩).run Tryz.prog W = .ok (.agg #[a, b, c]) W := by
  have h0 : W.cell? ⟨N, 0, none⟩ = some a := by unfold World.cell?; rw [h]; rfl
  have h1 : W.cell? ⟨N, 1, none⟩ = some b := by unfold World.cell?; rw [h]; rfl
  have h2 : W.cell? ⟨N, 2, none⟩ = some c := by unfold World.cell?; rw [h]; rfl
  go_simp
theorem res_ty {fn : Func} {p : Tmp} (hr : fn.results = #[.cell p 47]) (tmps : Array Value) (W : World) (N : Nat) (a b : Value) (hp : tmps.getD p undef = .pointer (some ⟨N, 0, none⟩)) (h : W.heap[N]? = some (.cells #[a, b] 47 (0, 0))) :
    (results fn tmps).run Tryz.prog W = .ok (.agg #[a, b]) W := by
  rw [results_cell1 hr, hp]
  have := loadTy W N a b h
  simp [asAddr, this, Result.andThen]
theorem res_fa {fn : Func} {p : Tmp} (hr : fn.results = #[.cell p 33]) (tmps : Array Value) (W : World) (N : Nat) (a b c : Value) (hp : tmps.getD p undef = .pointer (some ⟨N, 0, none⟩)) (h : W.heap[N]? = some (.cells #[a, b, c] 33 (0, 0))) :
    (results fn tmps).run Tryz.prog W = .ok (.agg #[a, b, c]) W := by
  rw [results_cell1 hr, hp]
  have := loadFa W N a b c h
  simp [asAddr, this, Result.andThen]
theorem results_cellsG {fn : Func} {p u : Tmp} {t1 t2 : TypeId} (h : fn.results = #[.cell p t1, .cell u t2]) (tmps : Array Value) (P : Program) (w : World) :
    (results fn tmps).run P w = ((asAddr (tmps.getD p undef)).run P w).andThen fun a w₁ => ((loadVar t1 a).run P w₁).andThen fun v w₂ => ((asAddr (tmps.getD u undef)).run P w₂).andThen fun b w₃ => ((loadVar t2 b).run P w₃).andThen fun x w₄ => .ok (.tuple #[v, x]) w₄ := by
  simp only [results, h]
  simp [Sem.run_bind, Result.andThen]
theorem results_tmp_cell {fn : Func} {p u : Tmp} {ty : TypeId} (h : fn.results = #[.tmp u, .cell p ty]) (tmps : Array Value) (P : Program) (w : World) :
    (results fn tmps).run P w = ((asAddr (tmps.getD p undef)).run P w).andThen fun a w₁ => ((loadVar ty a).run P w₁).andThen fun v w₂ => .ok (.tuple #[tmps.getD u undef, v]) w₂ := by
  simp only [results, h]
  simp [Sem.run_bind, Result.andThen]
theorem res_tf {fn : Func} {p u : Tmp} (hr : fn.results = #[.cell p 47, .cell u 33]) (tmps : Array Value) (W : World) (N M : Nat) (a b c d e : Value) (hp : tmps.getD p undef = .pointer (some ⟨N, 0, none⟩)) (hu : tmps.getD u undef = .pointer (some ⟨M, 0, none⟩))
    (h : W.heap[N]? = some (.cells #[a, b] 47 (0, 0))) (h' : W.heap[M]? = some (.cells #[c, d, e] 33 (0, 0))) :
    (results fn tmps).run Tryz.prog W = .ok (.tuple #[.agg #[a, b], .agg #[c, d, e]]) W := by
  rw [results_cellsG hr, hp, hu]
  have h1 := loadTy W N a b h
  have h2 := loadFa W M c d e h'
  simp [asAddr, h1, h2, Result.andThen]
theorem res_xf {fn : Func} {p u : Tmp} (hr : fn.results = #[.tmp u, .cell p 33]) (tmps : Array Value) (W : World) (M : Nat) (v c d e : Value) (hp : tmps.getD p undef = .pointer (some ⟨M, 0, none⟩)) (hu : tmps.getD u undef = v)
    (h' : W.heap[M]? = some (.cells #[c, d, e] 33 (0, 0))) :
    (results fn tmps).run Tryz.prog W = .ok (.tuple #[v, .agg #[c, d, e]]) W := by
  rw [results_tmp_cell hr, hp, hu]
  have h2 := loadFa W M c d e h'
  simp [asAddr, h2, Result.andThen]
theorem rtyp_any (a b : Int) (w : World) : Calls Tryz.prog 31 #[.int .i64 a, .int .i64 b] w fun e w' => e = .returned (.agg #[.int .i64 a, .int .i64 b]) ∧ Below w.heap.size w w' := by
  go_enter Tryz.func31, Tryz.ntmps31
  go_wp2_with fail
  (try simp only [Exit.inBlock, Exit.then])
  refine bodyPost_ret (res_ty rfl _ _ w.heap.size _ _ rfl (heap_alloc_new w _)) rfl ⟨rfl, belowA w _⟩
theorem heap_set2 {W : World} {N : Nat} {a b : Value} {t : TypeId} (h : W.heap[N]? = some (.cells #[a, b] t (0, 0))) (x y : Value) : ((W.setCell ⟨N, 0, none⟩ x).setCell ⟨N, 1, none⟩ y).heap[N]? = some (.cells #[x, y] t (0, 0)) := by
  have h1 : (W.setCell ⟨N, 0, none⟩ x).heap[N]? = some (.cells #[x, b] t (0, 0)) := by
    rw [setCell_eq_setRow _ _ _ _ _ _ _ h, setRow_heap _ _ _ _ _ _ h]
    rfl
  rw [setCell_eq_setRow _ _ _ _ _ _ _ h1, setRow_heap _ _ _ _ _ _ h1]
  rfl
theorem heap_set3 {W : World} {N : Nat} {a b c : Value} {t : TypeId} (h : W.heap[N]? = some (.cells #[a, b, c] t (0, 0))) (x y z : Value) : (((W.setCell ⟨N, 0, none⟩ x).setCell ⟨N, 1, none⟩ y).setCell ⟨N, 2, none⟩ z).heap[N]? = some (.cells #[x, y, z] t (0, 0)) := by
  have h1 : (W.setCell ⟨N, 0, none⟩ x).heap[N]? = some (.cells #[x, b, c] t (0, 0)) := by
    rw [setCell_eq_setRow _ _ _ _ _ _ _ h, setRow_heap _ _ _ _ _ _ h]
    rfl
  have h2 : ((W.setCell ⟨N, 0, none⟩ x).setCell ⟨N, 1, none⟩ y).heap[N]? = some (.cells #[x, y, c] t (0, 0)) := by
    rw [setCell_eq_setRow _ _ _ _ _ _ _ h1, setRow_heap _ _ _ _ _ _ h1]
    rfl
  rw [setCell_eq_setRow _ _ _ _ _ _ _ h2, setRow_heap _ _ _ _ _ _ h2]
  rfl
/-- The joined side of kids, by their sides. -/
def jnL : List (Int × Int) → Int → Int
  | [], a => a
  | p :: r, a => if movB p.2 then p.2 else jnL r (if p.2 = 1 then 1 else a)
theorem jnL_is (ty : Nat → Int × Int) : ∀ (ks : List Int) (a : Int), jnO (fun j => (ty j).2) ks a = jnL (ks.map fun x => ty x.toNat) a
  | [], a => rfl
  | x :: r, a => by
    simp only [jnO, List.map_cons, jnL]
    rw [jnL_is ty r]
/-- A list of types to be read, by its elements. -/
def TyV (w : World) (v : Value) (l : List (Int × Int)) : Prop := TyL w v l.length (fun j => l.getD j (0, 0))
theorem TyV.low {w w' : World} {v : Value} {l : List (Int × Int)} (h : TyV w v l) (hb : Below w.heap.size w w') : TyV w' v l := TyL.low h hb
set_option maxHeartbeats 8000000 in
theorem rjoined_any (v : Value) (l : List (Int × Int)) (w : World) (h : TyV w v l) (hl : l.length ≤ 1000) :
    Calls Tryz.prog 32 #[v] w fun e w' => e = .returned (.int .i64 (jnL l 0)) ∧ Below w.heap.size w w' := by
  obtain ⟨a, cap, rfl, hc⟩ := h
  obtain ⟨n, hn⟩ : ∃ n, n = l.length := ⟨_, rfl⟩
  rw [← hn] at hl hc ⊢
  have HN := hid hn
  have HC := hid hc
  have HMV := hid rmov_any
  clear hn hc
  go_enter Tryz.func32, Tryz.ntmps32
  go_wp2_with fail
  go_loopw [3, 4] (fun s i wr => ∃ (k : Nat) (a : Int), k ≤ n ∧ s = .int .i64 a ∧ i = .int .i64 (k : Int) ∧ Hid (Below w.heap.size w wr) ∧ Hid (jnL (l.drop k) a = jnL l 0)) (fun _ i _ => n - (intOf i).toNat)
  case atStart => exact ⟨0, 0, Nat.zero_le _, rfl, rfl, hid (Below.refl _ _), hid rfl⟩
  case round =>
    obtain ⟨k, b, hk, rfl, rfl, HB, HJ⟩ := hrel
    by_cases hlt : k < n
    · rcases HC.out with h0 | ⟨g, o, rfl, hg, hcc⟩
      · omega
      have hkn : k < l.length := by rw [← HN.out]; exact hlt
      have HD := hid (show l.drop k = l.getD k (0, 0) :: l.drop (k + 1) by
        rw [List.drop_eq_getElem_cons hkn, List.getD_eq_getElem?_getD, List.getElem?_eq_getElem hkn]
        rfl)
      have HG := hid hg
      have ⟨p0, p1⟩ := hcc k hlt
      have q0 := (HB.out.cell (p := ⟨g, o + k * 2, none⟩) hg).trans p0
      have q1 := (HB.out.cell (p := ⟨g, o + k * 2 + 1, none⟩) hg).trans p1
      have HP1 := hid p1
      obtain ⟨pr, hpr⟩ : ∃ pr, pr = l.getD k (0, 0) := ⟨_, rfl⟩
      rw [← hpr] at q0 q1 HD HP1
      obtain ⟨u, s⟩ := pr
      simp only at q0 q1 HP1
      have HJS := hid (show jnL (l.drop k) b = if movB s then s else jnL (l.drop (k + 1)) (if s = 1 then 1 else b) by rw [HD.out]; rfl)
      have HK1 := hid (show k + 1 ≤ n by omega)
      have g1 : (k : Int) < (n : Int) := by omega
      have g2 : (0 : Int) ≤ (k : Int) := by omega
      have g3 : ((k : Int) * 2).toNat = k * 2 := by omega
      clear hcc hkn p0 p1 hpr
      cases hmv : movB s
      · have HMVE := hid hmv
        rw [hmv] at HJS
        clear hmv
        by_cases h1 : s = 1
        · subst h1
          go_wp2_with (go_at_call 53; refine (HMV.out _ _ _).mono ?_; rw [HMVE.out]; rintro e w1 ⟨rfl, l1⟩; have L1 := hid l1; clear l1; have r1 := (bchS HB.out L1.out |>.cell (p := ⟨g, o + k * 2 + 1, none⟩) HG.out).trans HP1.out)
          refine ⟨⟨k + 1, 1, HK1.out, rfl, by go_num, hid (bchS HB.out L1.out), hid (by rw [← HJ.out, HJS.out]; rfl)⟩, ?_⟩
          have h3 := HK1.out
          simp [intOf]
          omega
        · have h1' : (s == 1) = false := by simp [h1]
          have HJ2 := hid (show jnL (l.drop k) b = jnL (l.drop (k + 1)) b by rw [HJS.out]; simp [h1])
          clear h1
          go_wp2_with (go_at_call 53; refine (HMV.out _ _ _).mono ?_; rw [HMVE.out]; rintro e w1 ⟨rfl, l1⟩; have L1 := hid l1; clear l1; have r1 := (bchS HB.out L1.out |>.cell (p := ⟨g, o + k * 2 + 1, none⟩) HG.out).trans HP1.out)
          refine ⟨⟨k + 1, b, HK1.out, rfl, by go_num, hid (bchS HB.out L1.out), hid (by rw [← HJ.out, HJ2.out])⟩, ?_⟩
          have h3 := HK1.out
          simp [intOf]
          omega
      · have HMVE := hid hmv
        rw [hmv] at HJS
        clear hmv
        go_wp2_with (go_at_call 53; refine (HMV.out _ _ _).mono ?_; rw [HMVE.out]; rintro e w1 ⟨rfl, l1⟩; have L1 := hid l1; clear l1; have r1 := (bchS HB.out L1.out |>.cell (p := ⟨g, o + k * 2 + 1, none⟩) HG.out).trans HP1.out)
        go_ret
        refine ⟨?_, bchS HB.out L1.out⟩
        rw [← HJ.out, HJS.out]
        rfl
    · obtain rfl : k = n := by omega
      have HE := hid (show b = jnL l 0 by rw [← HJ.out, HN.out, List.drop_length]; rfl)
      go_wp2_with fail
      go_ret
      exact ⟨by rw [← HE.out]; rfl, HB.out⟩
end Go.Proofs.YtiddnjjaidiohaaGreatDoor.L
