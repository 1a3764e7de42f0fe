import Derived.Test.YtlhlpamciafocaaGreatDoorXQ
import Derived.RangeFuncBox
namespace Go.Proofs.YtlhlpamciafocaaGreatDoor.L
open Go.RowKit Go.Shelf
set_option linter.unusedVariables false
attribute [local go_sem] Oper.semAt_some
theorem scan_len (s : ByteArray) : ∀ (n k : Nat), s.size - k = n → k ≤ s.size → (scanS s k).1.length + k ≤ s.size + 1 := by
  intro n
  induction n using Nat.strongRecOn with
  | ind n ih =>
    intro k hn hk
    by_cases hl : gapS s k < s.size
    · cases ht : tokS s (gapS s k) with
      | bad c a => rw [scan_bad hl ht]; simp; omega
      | ok t =>
        rw [scan_go hl ht]
        have h1 := tok_in hl ht
        have h2 := gapS_ge s k
        have := ih (s.size - t.e) (by omega) t.e rfl h1.2.2
        simp
        omega
    · rw [scan_fin hl]
      simp
      omega
theorem scanT_len (s : ByteArray) : (scanT s).1.length ≤ 4097 := by
  unfold scanT
  split
  · have := scan_len s _ 0 rfl (Nat.zero_le _)
    omega
  · simp
def cellsT (l : List Tok) : List Value := l.flatMap fun t => [.int .i64 t.kind, .string t.text, .int .i64 t.num, .int .i64 t.a, .int .i64 t.e]
theorem cellsT_snoc (l : List Tok) (t : Tok) : cellsT (l ++ [t]) = cellsT l ++ [.int .i64 t.kind, .string t.text, .int .i64 t.num, .int .i64 t.a, .int .i64 t.e] := by simp [cellsT]
theorem infoT : (Tryz.prog.info? 80).map (fun i => (i.zero, i.size, i.bytes)) = some (some (.agg #[.int .i64 0, .string ByteArray.empty, .int .i64 0, .int .i64 0, .int .i64 0]), 5, 48) := by kernel_rfl
/-- A row of tokens of one's own. -/
def OwnT (W : World) (base : Nat) (v : Value) (l : List Tok) : Prop := W.ownsRow base 80 5 v l.length (cellsT l)
theorem ownt_block {w : World} {base : Nat} {v : Value} {l : List Tok} (h : OwnT w base v l) : ∀ k, v.ownBlock = some k → base ≤ k ∧ k < w.heap.size := by
  intro k e
  rcases h.2 with ⟨e', _⟩ | ⟨g, cap, cur, e', hb, hg, _⟩
  · rw [e'] at e; cases e
  · rw [e'] at e; cases e; exact ⟨hb, lt_blk hg⟩
theorem row_mono {W : World} {base base' : Nat} {e : TypeId} {size : Nat} {v : Value} {k : Nat} {xs : List Value} (h : W.ownsRow base e size v k xs) (hb : base' ≤ base) : W.ownsRow base' e size v k xs := by
  obtain ⟨h1, h2⟩ := h
  refine ⟨h1, ?_⟩
  rcases h2 with h | ⟨g, cap, cur, hv, hg, r⟩
  · exact Or.inl h
  · exact Or.inr ⟨g, cap, cur, hv, Nat.le_trans hb hg, r⟩
theorem cell_five_new (w : World) (a b c d e : Value) (t : TypeId) : ∀ (j : Nat) (u : Value), [a, b, c, d, e][j]? = some u → (w.alloc (.cells #[a, b, c, d, e] t)).cell? ((⟨w.heap.size, 0, none⟩ : Addr).add j) = some u := by
  intro j u h
  rw [Go.WideShapes.add_plain]
  rw [cell_of_row (w.alloc (.cells #[a, b, c, d, e] t)) w.heap.size (0 + j) _ _ _ (heap_alloc_new w _)]
  simpa using h
/-- What stands while Scan walks. -/
structure Sc (w : World) (base : Nat) (v : Value) (pre : List Tok) (W : World) : Prop where
  box : Boxed W (w.heap.size + 1 + 1) 57 v
  row : OwnT W base v pre
  r0 : Boxed W w.heap.size 57 (.slice none 0 0)
  r1 : Boxed W (w.heap.size + 1) 27 .nilIface
  low : Below w.heap.size w W
  size : base ≤ W.heap.size
theorem boxed_put {W : World} {B : Nat} {t : TypeId} {v : Value} {l : Nat} {r : Loop} {o : Obj} (h : Boxed W B t v) (hl : W.heap[l]? = some (.loop r)) : Boxed (W.putObj l o) B t v := by
  unfold Boxed at h ⊢
  rw [World.putObj_heap_other (by intro e; rw [e, hl] at h; cases h)]
  exact h
theorem below_putL {W : World} {B l : Nat} {o : Obj} (hb : B ≤ l) : Below B W (W.putObj l o) :=
  ⟨rfl, rfl, rfl, by rw [World.putObj_size]; exact Nat.le_refl _, fun k hk => World.putObj_heap_other (by omega)⟩
theorem Sc.put {w W : World} {base : Nat} {v : Value} {pre : List Tok} {l : Nat} {r r' : Loop} (h : Sc w base v pre W) (hb : w.heap.size ≤ l) (hl : W.heap[l]? = some (.loop r)) : Sc w base v pre (W.putObj l (.loop r')) :=
  ⟨boxed_put h.box hl, ownsRow_putObj h.row _ hl rfl, boxed_put h.r0 hl, boxed_put h.r1 hl, h.low.trans (below_putL hb), by rw [World.putObj_size]; exact h.size⟩
theorem boxed_lk {W W' : World} {B : Nat} {t : TypeId} {v : Value} {l : Nat} (h : Boxed W B t v) (hk : Lk l W W') (hl : B ≠ l) : Boxed W' B t v := (hk.block B h.lt hl).trans h
theorem boxed_low {W W' : World} {B : Nat} {t : TypeId} {v : Value} (h : Boxed W B t v) (hk : Below W.heap.size W W') : Boxed W' B t v := (hk.block B h.lt).trans h
theorem Sc.lk {w W W' : World} {base : Nat} {v : Value} {pre : List Tok} {l : Nat} (h : Sc w base v pre W) (hk : Lk l W W') (hb : base ≤ l) (hbw : w.heap.size + 1 + 1 < base) (hl : ∃ r, W.heap[l]? = some (.loop r)) : Sc w base v pre W' := by
  obtain ⟨h1, h2, h3, h4, h5, h6⟩ := h
  obtain ⟨r, hl⟩ := hl
  refine ⟨boxed_lk h1 hk (by omega), ?_, boxed_lk h3 hk (by omega), boxed_lk h4 hk (by omega), ⟨hk.os.trans h5.os, hk.tape.trans h5.tape, hk.output.trans h5.output, Nat.le_trans h5.size hk.size, fun k hkl => (hk.block k (by have := h5.size; omega) (by omega)).trans (h5.block k hkl)⟩, Nat.le_trans h6 hk.size⟩
  refine World.ownsRow.kept (row := some l) h2 ⟨hk.os, hk.tape, hk.output, hk.size, fun k hkl hne => hk.block k hkl (fun e => hne (by rw [e]))⟩ ?_
  rcases h2.2 with ⟨rfl, _⟩ | ⟨g, cap, cur, rfl, _, hgb, _⟩
  · exact .inl rfl
  · refine .inr fun e' => ?_
    obtain rfl : g = l := by simpa [Value.ownBlock] using e'
    rw [hgb] at hl
    cases hl
theorem Sc.below {w W W' : World} {base : Nat} {v : Value} {pre : List Tok} (h : Sc w base v pre W) (hk : Below W.heap.size W W') : Sc w base v pre W' :=
  ⟨boxed_low h.box hk, World.ownsRow.kept (row := none) h.row ⟨hk.os, hk.tape, hk.output, hk.size, fun k hkl _ => hk.block k hkl⟩ (by cases v.ownBlock <;> simp), boxed_low h.r0 hk, boxed_low h.r1 hk, h.low.trans (hk.mono h.low.size), Nat.le_trans h.size hk.size⟩
theorem Kb.others {base : Nat} {W W' : World} (h : KeepsOthers W W') : Kb base W W' := ⟨h.size, fun k o _ h1 h2 => h.same k o h1 (by cases o <;> first | rfl | cases h2)⟩
theorem results_cells {fn : Func} {p u : Tmp} {t1 t2 : TypeId} (h : fn.results = #[.cell p t1, .cell u t2]) (tmps : Array Value) (P : Program) (w : World) :
    (results fn tmps).run P w = ((asAddr (tmps.getD p undef)).run P w).andThen fun a w₁ => ((loadVar t1 a).run P w₁).andThen fun v w₂ => ((asAddr (tmps.getD u undef)).run P w₂).andThen fun b w₃ => ((loadVar t2 b).run P w₃).andThen fun x w₄ => .ok (.tuple #[v, x]) w₄ := by
  simp only [results, h]
  simp [Sem.run_bind, Result.andThen]
set_option maxHeartbeats 4000000 in
theorem scan_any (s : ByteArray) (w : World) (hv : Vars w) : Calls Tryz.prog 22 #[.string s] w fun e w' => Below w.heap.size w w' ∧
    ((∃ v, (scanT s).2 = none ∧ e = .returned (.tuple #[v, .nilIface]) ∧ OwnT w' w.heap.size v (scanT s).1) ∨
     (∃ N c a, (scanT s).2 = some (c, a) ∧ e = .returned (.tuple #[.slice none 0 0, fv N]) ∧ Flt w' N c a ∧ w.heap.size ≤ N)) := by
  obtain ⟨i0, hi, hz0, hz1, hz2⟩ := info_parts infoT
  have HE := hid (fun W => each_any s W)
  have HTL := hid (scanT_len s)
  refine (callsIn_wide (n := 3)).1 ?_
  refine callsIn_of_wp_marks Tryz.func22 rfl trivial ?_ rfl
  simp only [Tryz.ntmps22, List.size_toArray, List.length_cons, List.length_nil, Nat.reduceAdd, Nat.reduceSub, Array.replicate_succ, Array.replicate_zero, List.push_toArray, List.append_toArray, List.nil_append, List.cons_append]
  gi_wp2_with (refine ⟨trivial, ?_⟩; gi_at_call 32; refine (callsIn_wide.2 (HE.out _)).mono ?_; rintro e w1 ⟨rfl, hx, hb⟩)
  have hz3 : (((w.alloc (.cells #[.slice none 0 0] 57)).alloc (.cells #[.nilIface] 27)).alloc (.cells #[.slice none 0 0] 57)).heap.size = w.heap.size + 1 + 1 + 1 := by simp
  rw [hz3] at hx
  have hlt := lt_blk hx
  have S0 : Sc w w1.heap.size (.slice none 0 0) [] w1 := by
    have b0 := belowA w (.cells #[.slice none 0 0] 57)
    have b1 := belowA (w.alloc (.cells #[.slice none 0 0] 57)) (.cells #[.nilIface] 27)
    have b2 := belowA ((w.alloc (.cells #[.slice none 0 0] 57)).alloc (.cells #[.nilIface] 27)) (.cells #[.slice none 0 0] 57)
    refine ⟨?_, World.ownsRow_nil _ _ _ _, ?_, ?_, ?_, Nat.le_refl _⟩
    · have := Boxed.new ((w.alloc (.cells #[.slice none 0 0] 57)).alloc (.cells #[.nilIface] 27)) 57 (.slice none 0 0)
      have := boxed_low this hb
      simpa using this
    · exact boxed_low (boxed_low (boxed_low (Boxed.new w _ _) b1) b2) hb
    · have := boxed_low (boxed_low (Boxed.new (w.alloc (.cells #[.slice none 0 0] 57)) 27 .nilIface) b2) hb
      simpa using this
    · exact ((b0.trans (b1.mono (by simp))).trans (b2.mono (by simp; omega))).trans (hb.mono (by rw [hz3]; omega))
  rw [hz3] at hb
  clear hb
  refine eachO (n := 3) (by decide) (w.heap.size + 1 + 1 + 1) s .ret .ret (.inl ⟨rfl, rfl⟩) (by first | rfl | simp [eachB]) rfl hx
    (fun pre W => ∃ v, Sc w w1.heap.size v pre W) (fun _ => False)
    (fun W => Below w.heap.size w W ∧ Boxed W w.heap.size 57 (.slice none 0 0) ∧ ∃ N c a, (scanT s).2 = some (c, a) ∧ Boxed W (w.heap.size + 1) 27 (fv N) ∧ Flt W N c a ∧ w.heap.size ≤ N)
    (fun pre W ⟨v, h⟩ => hv.low h.low) (fun W' h => ⟨_, S0.below h⟩)
    (fun pre W l r r' ⟨v, h⟩ h1 h2 => ⟨v, h.put (by omega) h2⟩) (fun _ _ _ _ h => h.elim)
    (fun W l r r' ⟨h1, h2, N, c, a, h3, h4, h5, h6⟩ h7 h8 => ⟨h1.trans (below_putL (by omega)), boxed_put h2 h8, N, c, a, h3, boxed_put h4 h8, (World.putObj_heap_other (by intro e; unfold Flt at h5; rw [e, h8] at h5; cases h5)).trans h5, h6⟩)
    (fun t v a' W => ∃ Bx, W.heap[Bx]? = some (.cells #[.int .i64 t.kind, .string t.text, .int .i64 t.num, .int .i64 t.a, .int .i64 t.e] 80 (0, 0)) ∧ a' = { tmps := #[.string s, undef, .pointer (some ⟨w.heap.size, 0, none⟩), .pointer (some ⟨w.heap.size + 1, 0, none⟩), .pointer (some ⟨w.heap.size + 1 + 1, 0, none⟩), .pointer (some ⟨Bx, 0, none⟩), v, .string s, eachB (w.heap.size + 1 + 1 + 1), tv t, v, undef, undef, undef, undef, undef, undef, undef, undef], defers := [] })
    ?_ ?assign ?body ?fault ?done ?donef ?stop
  · rintro t v a' W l r r' ⟨Bx, h1, h2⟩ h3
    exact ⟨Bx, (World.putObj_heap_other (by intro e; rw [e, h3] at h1; cases h1)).trans h1, h2⟩
  case assign =>
    rintro m l t v W K hz hK
    have HK := hid hK
    clear hK
    simp only [tv]
    gi_wp2
    exact HK.out _ _ ⟨W.heap.size, heap_alloc_new W _, rfl⟩ (belowA W _)
  case body =>
    rintro m l pre t a' W0 W ⟨Bx, hbx, rfl⟩ hl hlr hlk ⟨v, hi0⟩ hpre
    have S := hid (hi0.lk hlk hl (by omega) hlr)
    have own0 := hid (ownt_block hi0.row)
    have hT0 : w.heap.size + 1 + 1 < W0.heap.size := hi0.box.lt
    have hWz := hlk.size
    have hn0 : w1.heap.size ≤ W0.heap.size := hi0.size
    have hlen : pre.length + 1 ≤ 4097 := by
      have := hpre.length_le
      rw [List.length_append] at this
      exact Nat.le_trans this HTL.out
    clear hlk hlr hi0 hpre S0
    have ⟨d0, d1, d2, d3, d4⟩ := tcells hbx
    have hc := S.out.box.cell
    have hf := S.out.box.frozen
    have HR := hid S.out.row
    clear hbx
    obtain ⟨xk, xo, xn, xh, xs⟩ := t
    simp only at d0 d1 d2 d3 d4
    unfold OwnT at HR
    gi_wp2_with (gi_at_builtin; refine wpListIn_append_own _ rfl _ _ 57 rfl w1.heap.size 80 i0 (.agg #[.int .i64 0, .string ByteArray.empty, .int .i64 0, .int .i64 0, .int .i64 0]) 5 48 Tryz.underlying57 hi hz0 hz1 hz2 rfl (by decide) _ _ _ rfl (HR.out.alloc _) ⟨W.heap.size, 0, none⟩ 1 1 [.int .i64 xk, .string xo, .int .i64 xn, .int .i64 xh, .int .i64 xs] rfl rfl (cell_five_new _ _ _ _ _ _ _) (fun x hx => by simp at hx; rcases hx with rfl | rfl | rfl | rfl | rfl <;> rfl) (by unfold maxLen; omega) (by omega) (by simp; omega) ?_; intro v' w2 hown' hgrow hnil; obtain ⟨g', cap', rfl⟩ := ownsRow_succ hown'; obtain ⟨hv1, hv2, hr2, hk2, hb2⟩ := S.out.box.appended (by decide) (row_mono HR.out (show w.heap.size ≤ w1.heap.size by omega)) (by omega) (by omega) (row_mono hown' (show w.heap.size ≤ w1.heap.size by omega)) hgrow; have hc1 := hv1.cell; have hf1 := hv1.frozen)
    have same : ∀ k, k < W.heap.size → k ≠ w.heap.size + 1 + 1 → (k < w1.heap.size ∨ W0.heap.size ≤ k) → (w2.setCell ⟨w.heap.size + 1 + 1, 0, none⟩ (.slice (some ⟨g', 0, none⟩) (pre.length + 1) cap')).heap[k]? = W.heap[k]? := by
      intro k h1 h2 h3
      rw [Below.heap_setCell _ _ _ k h2, hgrow.block k (by simp; omega) (by intro e; have := own0.out k e.symm; omega), Below.heap_alloc _ _ _ h1]
    refine ⟨Kb.others hk2, ⟨hk2.size, fun k h1 h2 => same k h2 (by omega) (.inr h1)⟩, ⟨_, hv2, ?_, (same _ S.out.r0.lt (by omega) (.inl (by omega))).trans S.out.r0, (same _ S.out.r1.lt (by omega) (.inl (by omega))).trans S.out.r1, S.out.low.trans hb2, Nat.le_trans S.out.size hk2.size⟩⟩
    unfold OwnT
    rw [cellsT_snoc, List.length_append]
    exact hown'.kept (grownBy_setCell' w2 (w.heap.size + 1 + 1) _) (.inr (hv1.not_row (by decide) hown').symm)
  case fault =>
    rintro m l N c p a' W0 W ⟨Bx, hbx, rfl⟩ hl hlr hlk ⟨v, hi0⟩ hsc hflt hN
    have S := hid (hi0.lk hlk hl (by omega) hlr)
    have HF := hid hflt
    have HSC := hid hsc
    have hn0 : w1.heap.size ≤ W0.heap.size := hi0.size
    clear hlk hlr hi0 hsc hflt S0 hbx
    have c0 := S.out.r0.cell
    have f0 := S.out.r0.frozen
    have c1 := S.out.r1.cell
    have f1 := S.out.r1.frozen
    unfold fv
    gi_wp2
    refine ⟨?_, ?_⟩
    · exact Kb.trans (Kb.others (KeepsOthers.setCell _ _ _)) (Kb.others (KeepsOthers.setCell _ _ _))
    · refine ⟨S.out.low.trans (below_set (below_set (Below.refl _ _) _ _ _ (Nat.le_refl _)) _ _ _ (by omega)), ?_, N, c, p, HSC.out, ?_, ?_, by omega⟩
      · exact (block_set _ _ _ _ _ (by omega)).trans (S.out.r0.set _)
      · exact Boxed.set _ (show Boxed _ (w.heap.size + 1) 27 .nilIface from (block_set _ _ _ _ _ (by omega)).trans S.out.r1)
      · exact (block_set _ _ _ _ _ (by omega)).trans ((block_set _ _ _ _ _ (by omega)).trans HF.out)
  case done =>
    rintro D W hD ⟨v, S⟩ hsc hK
    have HS := hid S
    have HSC := hid hsc
    have HKD := hid hK
    have c0 := S.r0.cell
    have f0 := S.r0.frozen
    have c1 := S.r1.cell
    have f1 := S.r1.frozen
    have c2 := S.box.cell
    clear S hsc hK S0
    obtain ⟨va, vn, vc, rfl⟩ : ∃ a n c, v = .slice a n c := by
      rcases HS.out.row.2 with ⟨e, _⟩ | ⟨g, cap, cur, e, _⟩
      · exact ⟨_, _, _, e⟩
      · exact ⟨_, _, _, e⟩
    gi_wp2
    have b0 : Boxed ((W.setCell ⟨w.heap.size, 0, none⟩ (.slice va vn vc)).setCell ⟨w.heap.size + 1, 0, none⟩ .nilIface) w.heap.size 57 (.slice va vn vc) := (block_set _ _ _ _ _ (by omega)).trans (HS.out.r0.set _)
    have b1 : Boxed ((W.setCell ⟨w.heap.size, 0, none⟩ (.slice va vn vc)).setCell ⟨w.heap.size + 1, 0, none⟩ .nilIface) (w.heap.size + 1) 27 .nilIface := Boxed.set _ (show Boxed _ (w.heap.size + 1) 27 .nilIface from (block_set _ _ _ _ _ (by omega)).trans HS.out.r1)
    have hkd : ((W.setCell ⟨w.heap.size, 0, none⟩ (.slice va vn vc)).setCell ⟨w.heap.size + 1, 0, none⟩ .nilIface).heap[D]? = some (.deferred (some [])) := (block_set _ _ _ _ _ (by omega)).trans ((block_set _ _ _ _ _ (by omega)).trans HKD.out)
    have hbl : Below w.heap.size W ((W.setCell ⟨w.heap.size, 0, none⟩ (.slice va vn vc)).setCell ⟨w.heap.size + 1, 0, none⟩ .nilIface) := below_set (below_set (Below.refl _ _) _ _ _ (Nat.le_refl _)) _ _ _ (by omega)
    have hrow : OwnT ((W.setCell ⟨w.heap.size, 0, none⟩ (.slice va vn vc)).setCell ⟨w.heap.size + 1, 0, none⟩ .nilIface) w1.heap.size (.slice va vn vc) (scanT s).1 := by
      have ho := ownt_block HS.out.row
      have h1 : OwnT (W.setCell ⟨w.heap.size, 0, none⟩ (.slice va vn vc)) w1.heap.size (.slice va vn vc) (scanT s).1 := World.ownsRow.kept HS.out.row (grownBy_setCell' _ _ _) (.inr (fun e => by have := ho _ e; omega))
      exact World.ownsRow.kept h1 (grownBy_setCell' _ _ _) (.inr (fun e => by have := ho _ e; omega))
    generalize (W.setCell ⟨w.heap.size, 0, none⟩ (.slice va vn vc)).setCell ⟨w.heap.size + 1, 0, none⟩ .nilIface = V at *
    refine ⟨by simp, .inl ⟨_, _, rfl, run_takeDeferred hkd, ?_⟩⟩
    have b0' : Boxed (V.putObj D (.deferred none)) w.heap.size 57 (.slice va vn vc) := (World.putObj_heap_other (by omega)).trans b0
    have b1' : Boxed (V.putObj D (.deferred none)) (w.heap.size + 1) 27 .nilIface := (World.putObj_heap_other (by omega)).trans b1
    have c0 := b0'.cell
    have c1 := b1'.cell
    refine ⟨.tuple #[.slice va vn vc, .nilIface], ?_, (HS.out.low.trans hbl).trans (below_putL (by omega)), .inl ⟨_, HSC.out, rfl, row_mono (ownsRow_putObj hrow _ hkd rfl) (by omega)⟩⟩
    rw [results_cells rfl]
    go_simp
  case donef => exact fun D W _ h => h.elim
  case stop =>
    rintro D W hD ⟨hB, h0, N, c, a, hsc, h1, hf, hN⟩ hK
    have b0' : Boxed (W.putObj D (.deferred none)) w.heap.size 57 (.slice none 0 0) := (World.putObj_heap_other (by omega)).trans h0
    have b1' : Boxed (W.putObj D (.deferred none)) (w.heap.size + 1) 27 (fv N) := (World.putObj_heap_other (by omega)).trans h1
    have f' : Flt (W.putObj D (.deferred none)) N c a := (World.putObj_heap_other (by intro e; unfold Flt at hf; rw [e, hK] at hf; cases hf)).trans hf
    have bl : Below w.heap.size w (W.putObj D (.deferred none)) := hB.trans (below_putL (by omega))
    have c0 := b0'.cell
    have c1 := b1'.cell
    unfold fv at c1
    clear hB h0 h1 hf S0
    gi_wp2
    refine ⟨by simp, .inl ⟨_, _, rfl, run_takeDeferred hK, ?_⟩⟩
    refine ⟨.tuple #[.slice none 0 0, fv N], ?_, bl, .inr ⟨N, c, a, hsc, rfl, f', hN⟩⟩
    rw [results_cells rfl]
    unfold fv
    go_simp
end Go.Proofs.YtlhlpamciafocaaGreatDoor.L
