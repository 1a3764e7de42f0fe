import Derived.Test.YtiddnjjaidiohaaGreatDoorSb3
import Derived.Test.YtiddnjjaidiohaaGreatDoorHE
namespace Go.Proofs.YtiddnjjaidiohaaGreatDoor.L
open Go.RowKit Go.Extern.Stop Go.Stop Go.Extern
set_option linter.unusedVariables false
theorem ErC.erN {W : World} {g c : Nat} {a : Int} {ev : Value} (h : ErC W g c a ev) : ∃ N, ErN N ev ∧ Flt W N c a := by
  induction h with
  | flt N h hn => exact ⟨N, .flt, h⟩
  | ins t ev _ ih =>
    obtain ⟨N, h1, h2⟩ := ih
    exact ⟨N, .ins t ev h1, h2⟩
theorem ErN.uni {N M : Nat} {ev : Value} (h : ErN N ev) (k : ErN M ev) : N = M := by
  induction h with
  | flt => exact (ErN.one (N := M) (M := N) k).symm
  | ins t ev _ ih =>
    cases k with
    | ins _ _ k => exact ih k
/-- The fault by which Check refuses a tree. -/
def FaA (T : List Pt) (sc : Int) (W : World) (M : Nat) : Prop :=
  ((sc ≠ 2 ∧ sc ≠ 3) ∧ Flt W M 149 (-1)) ∨
  ((sc = 2 ∨ sc = 3) ∧ ((∃ N c i : Nat, FltC W M i N ∧ Flt W N c i ∧ Res T c i ∧ c ≠ 0) ∨ (Res T 0 0 ∧ ∃ c a, (ovS T sc).2 = some (c, a) ∧ Flt W M c a)))
theorem FaA.lt {T : List Pt} {sc : Int} {W : World} {M : Nat} (h : FaA T sc W M) : M < W.heap.size := by
  rcases h with ⟨_, h⟩ | ⟨_, ⟨N, c, i, h, _⟩ | ⟨_, c, a, _, h⟩⟩ <;> exact lt_blk h
theorem FaA.low {T : List Pt} {sc : Int} {W W' : World} {M : Nat} (h : FaA T sc W M) (hb : Below W.heap.size W W') : FaA T sc W' M := by
  rcases h with ⟨h1, h⟩ | ⟨h1, ⟨N, c, i, h, h2, h3⟩ | ⟨h2, c, a, h3, h⟩⟩
  · exact .inl ⟨h1, h.low hb⟩
  · exact .inr ⟨h1, .inl ⟨N, c, i, h.low hb, h2.low hb, h3⟩⟩
  · exact .inr ⟨h1, .inr ⟨h2, c, a, h3, h.low hb⟩⟩
theorem TyA.erN {T : List Pt} {sc : Int} {B : Nat} {W : World} {v ev : Value} (h : TyA T sc B W v ev) :
    (ev = .nilIface ∧ (sc = 2 ∨ sc = 3) ∧ Res T 0 0 ∧ ∃ gt, v = .slice (some ⟨gt, 0, none⟩) T.length T.length ∧ (ovS T sc).2 = none ∧ TyO W B gt T.length (ovS T sc).1) ∨ (v = .slice none 0 0 ∧ ∃ N, ErN N ev ∧ FaA T sc W N) := by
  rcases h with ⟨h1, h2, M, rfl, h3⟩ | ⟨h1, ⟨h2, h3, h4⟩ | ⟨h2, ⟨gt, h3, h4, h5, h6⟩ | ⟨gt, c, a, h3, h4, h5⟩⟩⟩
  · exact .inr ⟨h2, M, .flt, .inl ⟨h1, h3⟩⟩
  · rcases h4 with ⟨rfl, _⟩ | ⟨M, N, c, i, rfl, h5, h6, h7⟩
    · exact absurd rfl h3
    · exact .inr ⟨h2, M, .flt, .inr ⟨h1, .inl ⟨N, c, i, h5, h6, h7⟩⟩⟩
  · exact .inl ⟨h4, h1, h2, gt, h3, h5, h6⟩
  · obtain ⟨N, h6, h7⟩ := h5.erN
    exact .inr ⟨h3, N, h6, .inr ⟨h1, .inr ⟨h2, c, a, h4, h7⟩⟩⟩
/-- What Check answers. -/
def CkR (T : List Pt) (sc : Int) (B : Nat) (W : World) (v ev : Value) : Prop :=
  (ev = .nilIface ∧ (sc = 2 ∨ sc = 3) ∧ Res T 0 0 ∧ ∃ gt, v = .slice (some ⟨gt, 0, none⟩) T.length T.length ∧ (ovS T sc).2 = none ∧ TyO W B gt T.length (ovS T sc).1) ∨ (v = .slice none 0 0 ∧ ∃ N, ev = fv N ∧ FaA T sc W N)
set_option maxHeartbeats 8000000 in
set_option maxRecDepth 100000 in
theorem check_any (a : Option Addr) (T : List Pt) (cap : Nat) (sc : Int) (w : World) (hT : PL w a T) (hG : GdT T) (hg : Gv w) :
    Calls Tryz.prog 12 #[.agg #[.slice a T.length cap], .int .i64 sc] w fun e w' => ∃ v ev, e = .returned (.tuple #[v, ev]) ∧ Below w.heap.size w w' ∧ CkR T sc w.heap.size w' v ev := by
  have HB0 := hid (belowA w (.cells #[.slice a T.length cap] 26))
  have HX0 := hid (heap_alloc_new w (.cells #[.slice a T.length cap] 26))
  have HTY := hid (typesof_any a T cap sc _ (hT.low HB0.out) hG (hg.low HB0.out))
  have HG := hid (hg.low HB0.out)
  generalize T.length = L at HB0 HX0 HTY HG ⊢
  clear hT hg
  go_enter Tryz.func12, Tryz.ntmps12
  go_upto_region 1 with (fail)
  generalize w.alloc (.cells #[.slice a L cap] 26) = X at *
  have x0 := cell_of_one HX0.out
  go_upto_region 2 with (go_at_call 25; refine HTY.out.mono ?_; rintro e w1 ⟨v, ev, rfl, l1, hr⟩; have L1 := hid l1; have HR := hid hr.erN; clear l1 hr)
  have HB1 := hid (HB0.out.trans (L1.out.mono HB0.out.size))
  have HB2 := hid (belowA w1 (.cells #[.pointer none] 48))
  have HX2 := hid (heap_alloc_new w1 (.cells #[.pointer none] 48))
  have HBC := hid (HB1.out.trans (HB2.out.mono HB1.out.size))
  clear x0
  rcases HR.out with ⟨rfl, hsc, hrs, gt, rfl, hn, hty⟩ | ⟨rfl, N, hn, hf⟩
  · have HRR := hid (And.intro hsc (And.intro hrs (And.intro hn (hty.low HB2.out))))
    clear hsc hrs hn hty
    have HNI := hid as_nil
    go_upto_region 3 with (fail)
    generalize w1.alloc (.cells #[.pointer none] 48) = Y at *
    go_wp2_with (go_at_call 26; refine (HNI.out _ _).mono ?_; rintro e w2 ⟨rfl, rfl⟩)
    (try simp only [Exit.inBlock, Exit.then])
    refine bodyPost_ret (results_tmp2 rfl _ _ _) rfl ⟨_, _, rfl, HBC.out, ?_⟩
    obtain ⟨h1, h2, h3, h4⟩ := HRR.out
    exact .inl ⟨rfl, h1, h2, gt, rfl, h3, h4.mono HB0.out.size⟩
  · have HLT := hid hf.lt
    have HF := hid hf
    have HN := hid hn
    have HAS := hid (as_any ev N w1.heap.size (.pointer none) (w1.alloc (.cells #[.pointer none] 48)) hn (HG.out.low (L1.out.trans (HB2.out.mono L1.out.size))) HX2.out)
    obtain ⟨u, xv, rfl⟩ := hn.ne
    clear hf hn
    go_upto_region 3 with (fail)
    generalize w1.alloc (.cells #[.pointer none] 48) = Y at *
    go_upto_region 4 with (go_at_call 26; refine HAS.out.mono ?_; rintro e w2 ⟨rfl, hc, hb⟩; have HBB := hid hb; clear hb)
    go_region
    clear hc
    go_wp2_with fail
    (try simp only [Exit.inBlock, Exit.then])
    refine bodyPost_ret (results_tmp2 rfl _ _ _) rfl ⟨_, _, rfl, (but_new HBC.out HBB.out HB1.out.size).drew, ?_⟩
    refine .inr ⟨rfl, N, rfl, ?_⟩
    exact HF.out.low (but_new HB2.out HBB.out (Nat.le_refl _)).drew
end Go.Proofs.YtiddnjjaidiohaaGreatDoor.L
namespace Go.Proofs.YtiddnjjaidiohaaGreatDoor.L
open Go.RowKit Go.Shelf
set_option linter.unusedVariables false
/-- The parts and the kids of the first k parts. -/
def sumK (T : List Pt) : Nat → Nat
  | 0 => T.length
  | k + 1 => sumK T k + (pt T k).kids.length
theorem sumK_mono (T : List Pt) : ∀ {i j : Nat}, i ≤ j → sumK T i ≤ sumK T j := by
  intro i j h
  induction h with
  | refl => exact Nat.le_refl _
  | step _ ih => exact Nat.le_trans ih (Nat.le_add_right _ _)
theorem sumK_kid (T : List Pt) {j k : Nat} (h : j < k) : (pt T j).kids.length ≤ sumK T k :=
  Nat.le_trans (Nat.le_add_left _ _) (sumK_mono T (i := j + 1) h)
/-- A list of parts that can be read, whose empty lists of kids have no room. -/
def PLs (w : World) (a : Option Addr) (T : List Pt) : Prop := T.length = 0 ∨ ∃ b off, a = some ⟨b, off, none⟩ ∧ b < w.heap.size ∧ ∀ j, j < T.length → ∃ ka kc,
  w.cell? ⟨b, off + j * 4, none⟩ = some (.int .i64 (pt T j).kind) ∧ w.cell? ⟨b, off + j * 4 + 1, none⟩ = some (.string (pt T j).text) ∧ w.cell? ⟨b, off + j * 4 + 2, none⟩ = some (.int .i64 (pt T j).num) ∧
  w.cell? ⟨b, off + j * 4 + 3, none⟩ = some (.slice ka (pt T j).kids.length kc) ∧ RdI w ka (pt T j).kids ∧ (ka = none → kc = 0)
theorem PLs.pl {w : World} {a : Option Addr} {T : List Pt} (h : PLs w a T) : PL w a T := by
  rcases h with h | ⟨b, off, rfl, h2, h3⟩
  · exact Or.inl h
  · refine Or.inr ⟨b, off, rfl, h2, fun j hj => ?_⟩
    obtain ⟨ka, kc, a0, a1, a2, a3, a4, _⟩ := h3 j hj
    exact ⟨ka, kc, a0, a1, a2, a3, a4⟩
theorem PLs.low {w w' : World} {a : Option Addr} {T : List Pt} (h : PLs w a T) (k : Below w.heap.size w w') : PLs w' a T := by
  rcases h with h | ⟨b, off, rfl, h2, h3⟩
  · exact Or.inl h
  · refine Or.inr ⟨b, off, rfl, Nat.lt_of_lt_of_le h2 k.size, fun j hj => ?_⟩
    obtain ⟨ka, kc, a0, a1, a2, a3, a4, a5⟩ := h3 j hj
    exact ⟨ka, kc, (k.cell (p := ⟨b, _, none⟩) h2).trans a0, (k.cell (p := ⟨b, _, none⟩) h2).trans a1, (k.cell (p := ⟨b, _, none⟩) h2).trans a2, (k.cell (p := ⟨b, _, none⟩) h2).trans a3, a4.low k (Nat.le_refl _), a5⟩
/-- The cells of the first k parts, with the lists ks. -/
def CP (T : List Pt) (ks : Nat → Value) : Nat → List Value
  | 0 => []
  | k + 1 => CP T ks k ++ [.int .i64 (pt T k).kind, .string (pt T k).text, .int .i64 (pt T k).num, ks k]
theorem CP_len (T : List Pt) (ks : Nat → Value) : ∀ k, (CP T ks k).length = k * 4
  | 0 => rfl
  | k + 1 => by
    simp only [CP, List.length_append, CP_len T ks k, List.length_cons, List.length_nil]
    omega
theorem CP_congr (T : List Pt) {ks ks' : Nat → Value} : ∀ {k : Nat}, (∀ j, j < k → ks j = ks' j) → CP T ks k = CP T ks' k
  | 0, _ => rfl
  | k + 1, h => by
    simp only [CP]
    rw [CP_congr T (k := k) (fun j hj => h j (by omega)), h k (by omega)]
theorem CP_get (T : List Pt) (ks : Nat → Value) (j r : Nat) (hr : r < 4) : ∀ {k : Nat}, j < k → (CP T ks k)[j * 4 + r]? = [.int .i64 (pt T j).kind, .string (pt T j).text, .int .i64 (pt T j).num, ks j][r]?
  | k + 1, h => by
    simp only [CP]
    by_cases e : j < k
    · rw [List.getElem?_append_left (by rw [CP_len]; omega)]
      exact CP_get T ks j r hr e
    · have : j = k := by omega
      subst this
      rw [List.getElem?_append_right (by rw [CP_len]; omega), CP_len]
      congr 1
      omega
/-- A tree of one's own: a row of parts, each with a row of kids. -/
structure OwnP (W : World) (base : Nat) (v : Value) (T : List Pt) (ks : Nat → Value) (k : Nat) : Prop where
  row : W.ownsRow base 60 4 v k (CP T ks k)
  kids : ∀ j, j < k → OwnI W base (ks j) (pt T j).kids
theorem OwnP.pl {W : World} {base : Nat} {v : Value} {T : List Pt} {ks : Nat → Value} (h : OwnP W base v T ks T.length) : ∃ a cap, v = .slice a T.length cap ∧ PLs W a T := by
  rcases h.row.2 with ⟨rfl, n0⟩ | ⟨g, cap, cur, rfl, hb, hg, h3, h4, h5, h6⟩
  · exact ⟨none, 0, by rw [n0], Or.inl n0⟩
  · refine ⟨_, _, rfl, Or.inr ⟨g, 0, rfl, lt_blk hg, fun j hj => ?_⟩⟩
    have key : ∀ r, r < 4 → W.cell? ⟨g, j * 4 + r, none⟩ = [.int .i64 (pt T j).kind, .string (pt T j).text, .int .i64 (pt T j).num, ks j][r]? := by
      intro r hr
      rw [cell_of_row W g _ _ _ _ hg, ← CP_get T ks j r hr hj, ← h6, List.getElem?_take_of_lt (by omega), Array.getElem?_toList]
    have hk := h.kids j hj
    obtain ⟨ka, kc, e⟩ := own_form hk
    rw [e] at hk
    obtain ⟨_, r1, r2⟩ := own_rdI hk
    refine ⟨ka, kc, ?_, ?_, ?_, ?_, r1, r2⟩
    · rw [Nat.zero_add]; exact key 0 (by decide)
    · rw [Nat.zero_add]; exact key 1 (by decide)
    · rw [Nat.zero_add]; exact key 2 (by decide)
    · rw [Nat.zero_add, ← e]; exact key 3 (by decide)
theorem OwnP.low {W W' : World} {base : Nat} {v : Value} {T : List Pt} {ks : Nat → Value} {k : Nat} (h : OwnP W base v T ks k) (hk : Below W.heap.size W W') : OwnP W' base v T ks k :=
  ⟨World.ownsRow.kept (row := none) h.row ⟨hk.os, hk.tape, hk.output, hk.size, fun k hkl _ => hk.block k hkl⟩ (by cases v.ownBlock <;> simp), fun j hj => own_low (h.kids j hj) hk⟩
theorem row_ne {W : World} {b b' s s' n n' : Nat} {e e' : TypeId} {v v' : Value} {xs ys : List Value} (h : W.ownsRow b e s v n xs) (h' : W.ownsRow b' e' s' v' n' ys) (hne : e ≠ e') : v.ownBlock = none ∨ v.ownBlock ≠ v'.ownBlock := by
  rcases h.2 with ⟨rfl, _⟩ | ⟨g, cap, cur, rfl, _, hg, _⟩
  · exact .inl rfl
  · right
    intro e1
    rcases h'.2 with ⟨rfl, _⟩ | ⟨g', cap', cur', rfl, _, hg', _⟩
    · cases e1
    · have : g = g' := by simpa [Value.ownBlock] using e1
      subst this
      rw [hg] at hg'
      have := Option.some.inj hg'
      simp at this
      exact hne this.2
/-- One part more, behind an append. -/
theorem OwnP.more {W W' : World} {base : Nat} {v v' : Value} {T : List Pt} {ks : Nat → Value} {k : Nat} {x : Value} (h : OwnP W base v T ks k) (hx : OwnI W base x (pt T k).kids)
    (hr : W'.ownsRow base 60 4 v' (k + 1) (CP T ks k ++ [.int .i64 (pt T k).kind, .string (pt T k).text, .int .i64 (pt T k).num, x])) (hg : W.grownBy W' v.ownBlock) : OwnP W' base v' T (fun j => if j = k then x else ks j) (k + 1) := by
  refine ⟨?_, fun j hj => ?_⟩
  · have e : CP T (fun j => if j = k then x else ks j) (k + 1) = CP T ks k ++ [.int .i64 (pt T k).kind, .string (pt T k).text, .int .i64 (pt T k).num, x] := by
      simp only [CP, if_true]
      rw [CP_congr T (ks' := ks) (fun j hj => by simp [Nat.ne_of_lt hj])]
    rw [e]
    exact hr
  · by_cases hjk : j = k
    · subst hjk
      simp only [if_true]
      exact World.ownsRow.kept hx hg (row_ne hx h.row (by decide))
    · simp only [hjk, if_false]
      exact World.ownsRow.kept (h.kids j (by omega)) hg (row_ne (h.kids j (by omega)) h.row (by decide))
theorem infoP : (Tryz.prog.info? 60).map (fun i => (i.zero, i.size, i.bytes)) = some (some (.agg #[.int .i64 0, .string ByteArray.empty, .int .i64 0, .slice none 0 0]), 4, 56) := by kernel_rfl
theorem cell_four_new (w : World) (a b c d : Value) (t : TypeId) : ∀ (j : Nat) (u : Value), [a, b, c, d][j]? = some u → (w.alloc (.cells #[a, b, c, d] t)).cell? ((⟨w.heap.size, 0, none⟩ : Addr).add j) = some u := by
  intro j u h
  rw [Go.WideShapes.add_plain]
  rw [cell_of_row (w.alloc (.cells #[a, b, c, d] t)) w.heap.size (0 + j) _ _ _ (heap_alloc_new w _)]
  simpa using h
theorem sum_kids {T : List Pt} : ∀ i, (∀ j, j < i → OkA T j) → sumK T i + (fre T i).length = T.length + i
  | 0, _ => by simp [sumK, fre]
  | i + 1, hok => by
    have h := sum_kids i (fun j hj => hok j (by omega))
    have hO := hok i (by omega)
    have := hO.many
    rw [sumK, fre, List.length_append, List.length_take]
    simp only [List.length_cons, List.length_nil]
    omega
end Go.Proofs.YtiddnjjaidiohaaGreatDoor.L
