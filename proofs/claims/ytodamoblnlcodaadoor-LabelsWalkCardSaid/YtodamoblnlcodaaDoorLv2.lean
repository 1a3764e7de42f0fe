import Derived.Test.YtodamoblnlcodaaDoorLv1
namespace Go.Proofs.YtodamoblnlcodaaDoor.L
open Go.RowKit Go.Shelf
set_option linter.unusedVariables false
attribute [local go_sem] Oper.semAt_some
set_option maxHeartbeats 4000000 in
/-- A walk over Diff's func in a round of another walk. -/
theorem diffN {n : Nat} {l0 : Nat} {r0 : Loop} {gf : Operand} {ps : Array Tmp} {assign body : Code} {Q : Exit → Act → World → Prop} {a : Act} {w : World} (hl0 : w.heap[l0]? = some (.loop r0)) (B n0 : Nat) (v1 v2 : Value) (LA LC : List Lb) (xe : Exit) (xc : Code)
    (hxe : (xe = .ret ∧ xc = .ret) ∨ ∃ id, xe = .exit id ∧ xc = .exit id)
    (hg : a.eval gf = diffV B) (hps : ps.size = 1) (hn0 : n0 ≤ w.heap.size) (hB : B + 1 < n0) (h1 : w.cell? ⟨B, 0, none⟩ = some v1) (h2 : w.cell? ⟨B + 1, 0, none⟩ = some v2) (s1 : Sl B n0 w v1 LA) (s2 : Sl B n0 w v2 LC)
    (I : List Df → World → Prop) (Ix : World → Prop) (hIg : ∀ pre W W', I pre W → Below W.heap.size W W' → I pre W') (h0 : ∀ W', Below w.heap.size w W' → I [] W')
    (hput : ∀ pre W l r r', I pre W → w.heap.size ≤ l → W.heap[l]? = some (.loop r) → I pre (W.putObj l (.loop r')))
    (hputx : ∀ W l r r', Ix W → w.heap.size ≤ l → W.heap[l]? = some (.loop r) → Ix (W.putObj l (.loop r')))
    (A : Df → Act → World → Prop) (hA : ∀ t a' W l r r', A t a' W → W.heap[l]? = some (.loop r) → A t a' (W.putObj l (.loop r')))
    (hassign : ∀ m l t W K, w.heap.size ≤ W.heap.size → (∀ a' W', A t a' W' → Below W.heap.size W W' → K a' W') → assign.wpIn ((Fence.wide.inRound l0).inRound l) m Tryd.prog (Exit.then K (fun _ _ _ => False)) { tmps := (ps.zip #[dv t]).foldl (fun t (p, v) => t.setIfInBounds p v) a.tmps, defers := [] } W)
    (hbody : ∀ m l pre t a' W0 W, A t a' W → w.heap.size ≤ l → (∃ r, W0.heap[l]? = some (.loop r)) → (∃ r, W.heap[l]? = some (.loop r)) → Lk l W0 W → I pre W0 → pre ++ [t] <+: df LA LC → body.wpIn ((Fence.wide.inRound l0).inRound l) m Tryd.prog (fun e _ W' => (e = .normal ∧ Kb w.heap.size W W' ∧ Mid B n0 W W' ∧ I (pre ++ [t]) W') ∨ (e = xe ∧ Kb w.heap.size W W' ∧ Mid B n0 W W' ∧ Ix W')) a' W)
    (hdone : ∀ W, I (df LA LC) W → Q .normal a W)
    (hstop : ∀ W, Ix W → xc.wpIn (Fence.wide.inRound l0) n Tryd.prog Q a W) :
    (Code.rangeFunc gf ps assign body).wpIn (Fence.wide.inRound l0) n Tryd.prog Q a w := by
  refine wpIn_rangeFunc ?_
  intro fn hfn
  obtain ⟨rc, hrc⟩ : ∃ rc : LoopState → Option Code → Loop, rc = fun s p => { state := s, pending := p, fn, tmps := a.tmps, params := ps, assign, body, defers := r0.defers } := ⟨_, rfl⟩
  obtain ⟨V, hV'⟩ : ∃ V, V = w.alloc (.loop (rc .ready none)) := ⟨_, rfl⟩
  have al : Below w.heap.size w V := by rw [hV']; exact (Below.refl _ w).alloc (Nat.le_refl _) _
  have vl : V.heap[w.heap.size]? = some (.loop (rc .ready none)) := by
    rw [hV']
    exact World.alloc_heap_new w _
  -- one round
  have ONE : ∀ m t (W0 W : World) (RO : Ending → World → Prop), W0.heap[w.heap.size]? = some (.loop (rc .ready none)) → Below W0.heap.size W0 W →
      (∀ a' W2, A t a' W2 → Lk (w.heap.size) W0 W2 → Below W.heap.size (W.putObj (w.heap.size) (.loop { rc .ready none with state := .busy })) W2 → body.wpIn ((Fence.wide.inRound l0).inRound (w.heap.size)) m Tryd.prog (fun e _ W' => Kb w.heap.size W2 W' ∧ ((e = .normal ∧ (W'.heap[w.heap.size]? = some (.loop (rc .busy none)) → RO (.returned (.bool true)) (W'.putObj (w.heap.size) (.loop (rc .ready none))))) ∨ (e = xe ∧ (W'.heap[w.heap.size]? = some (.loop (rc .busy none)) → RO (.returned (.bool false)) (W'.putObj (w.heap.size) (.loop (rc .done (some xc)))))))) a' W2) →
      YieldAt Fence.wide m Tryd.prog (w.heap.size) #[dv t] W RO := by
    intro m t W0 W RO hL0 hb hbd
    have hL := (hb.block _ (lt_blk hL0)).trans hL0
    have hy := run_yield (P := Tryd.prog) (args := #[dv t]) hL (by rw [hrc]; simp [hps])
    rw [hrc] at hy
    refine ⟨fn, _, assign, body, hy, roundIn_of_wpIn (F := Fence.wide.inRound l0) hfn (hassign m _ t W _ (by have := lt_blk hL; omega) ?_)⟩
    intro a' W1 ha' hW1
    have hltW := lt_blk hL
    replace hL := (hW1.block _ hltW).trans hL
    have hlt := lt_blk hL
    refine ⟨_, run_beginRound hL (by rw [hrc]), ?_⟩
    have L2 : (W1.putObj (w.heap.size) (.loop { rc .ready none with state := .busy })).heap[w.heap.size]? = some (.loop { rc .ready none with state := .busy }) := World.putObj_heap_same hlt
    have hlk : Lk (w.heap.size) W0 (W1.putObj (w.heap.size) (.loop { rc .ready none with state := .busy })) := by
      refine ⟨hW1.os.trans hb.os, hW1.tape.trans hb.tape, hW1.output.trans hb.output, by rw [World.putObj_size]; exact Nat.le_trans hb.size hW1.size, fun k hk hne => ?_⟩
      rw [World.putObj_heap_other hne, hW1.block k (by have := hb.size; omega), hb.block k hk]
    have hbl : Below W.heap.size (W.putObj (w.heap.size) (.loop { rc .ready none with state := .busy })) (W1.putObj (w.heap.size) (.loop { rc .ready none with state := .busy })) := by
      refine ⟨hW1.os, hW1.tape, hW1.output, by rw [World.putObj_size, World.putObj_size]; exact hW1.size, fun k hk => ?_⟩
      by_cases e : k = w.heap.size
      · rw [e, World.putObj_heap_same hlt, World.putObj_heap_same hltW]
      · rw [World.putObj_heap_other e, World.putObj_heap_other e, hW1.block k hk]
    refine wpIn_mono (hbd a' _ (hA _ _ _ _ _ _ ha' hL) hlk hbl) ?_
    rintro e a3 W3 ⟨hk, (⟨rfl, hi3⟩ | ⟨he, hi3⟩)⟩
    · have L3 := hk.same _ _ (Nat.le_refl _) L2 rfl
      have L3' : W3.heap[w.heap.size]? = some (.loop (rc .busy none)) := by rw [L3, hrc]
      have hr := run_endRound (P := Tryd.prog) none L3'
      refine ⟨_, _, hr, ?_⟩
      have := hi3 L3'
      rw [hrc] at this ⊢
      exact this
    · have L3 := hk.same _ _ (Nat.le_refl _) L2 rfl
      have L3' : W3.heap[w.heap.size]? = some (.loop (rc .busy none)) := by rw [L3, hrc]
      have hr := run_endRound (P := Tryd.prog) (some xc) L3'
      have := hi3 L3'
      rcases hxe with ⟨h1, h2⟩ | ⟨id, h1, h2⟩
      · rw [he, h1]
        rw [h2] at hr this
        refine ⟨_, _, hr, ?_⟩
        rw [hrc] at this ⊢
        exact this
      · rw [he, h1]
        rw [h2] at hr this
        refine ⟨_, _, hr, ?_⟩
        rw [hrc] at this ⊢
        exact this
  refine ⟨w.heap.size, [], V, { target := .fn (.func 19) #[.pointer (some ⟨B, 0, none⟩), .pointer (some ⟨B + 1, 0, none⟩)], args := #[.func (.yield (w.heap.size)) #[] #[]] }, V, 19,
    #[.func (.yield (w.heap.size)) #[] #[], .pointer (some ⟨B, 0, none⟩), .pointer (some ⟨B + 1, 0, none⟩)], V, ?_, ?_, fun f' _ => trivial, ?_, fun h => absurd (show Fence.wide.depth.isSome = true from h) (by decide), ?_⟩
  · rw [hV', hrc]
    exact run_enterLoop_inner hl0 _ _ _ _ _
  · simp only [resolve, hg, diffV]
    simp [go_sem]
  · simp [invoke, go_sem]
  · have it := iter_px 1 (by omega) (w.heap.size) B n0 B v1 v2 LA LC
      (fun pre W => I pre W ∧ W.heap[w.heap.size]? = some (.loop (rc .ready none)))
      (fun pre W => Ix W ∧ W.heap[w.heap.size]? = some (.loop (rc .done (some xc))))
      (fun pre W W' h hb => ⟨hIg pre W W' h.1 hb, (hb.block _ (lt_blk h.2)).trans h.2⟩) ?_ V (Nat.le_trans hn0 al.size) ((al.cell (p := ⟨B, 0, none⟩) (by show B < _; omega)).trans h1) ((al.cell (p := ⟨B + 1, 0, none⟩) (by show B + 1 < _; omega)).trans h2) (s1.low (Mid.of al hn0)) (s2.low (Mid.of al hn0)) ⟨h0 _ al, vl⟩
    · refine CallsIn.mono (F := Fence.wide) ((callsIn_wide (n := n - 1)).2 ((callsIn_wide (n := 1)).1 it)) ?_
      rintro e W2 ⟨⟨v', rfl⟩, (⟨ys, rfl, hi, hL⟩ | ⟨pre, hp, hi, hL⟩)⟩
      · have he := run_endLoop (P := Tryd.prog) hL (by rw [hrc]; simp)
        rw [hrc] at he
        exact ⟨none, _, he, hdone _ (hput _ _ _ _ _ hi (Nat.le_refl _) hL)⟩
      · have he := run_endLoop (P := Tryd.prog) hL (by rw [hrc]; simp)
        rw [hrc] at he
        exact ⟨some xc, _, he, hstop _ (hputx _ _ _ _ hi (Nat.le_refl _) hL)⟩
    · rintro pre t W ⟨hi, hL⟩ hpre
      refine ONE _ t W W _ hL (Below.refl _ _) ?_
      intro a' W2 hA2 hlk hbl
      refine wpIn_mono (hbody _ (w.heap.size) pre t a' W W2 hA2 (Nat.le_refl _) ⟨_, hL⟩ ⟨_, (hbl.block _ (lt_blk hL)).trans (World.putObj_heap_same (lt_blk hL))⟩ hlk hi hpre) ?_
      have keep : ∀ (W' : World) (o : Obj), Mid B n0 W2 W' → Mid B n0 W (W'.putObj (w.heap.size) o) := by
        intro W' o hk
        have hz := hlk.size
        refine ⟨by rw [World.putObj_size]; exact Nat.le_trans hz hk.size, fun k h1 h2 => ?_⟩
        have hlt := lt_blk hL
        rw [World.putObj_heap_other (by omega), hk.block k h1 h2, hlk.block k (by omega) (by omega)]
      rintro e a3 W' (⟨he, hk, hp, hi'⟩ | ⟨he, hk, hp, hi'⟩)
      · exact ⟨hk, .inl ⟨he, fun L3 => .inl ⟨rfl, ⟨hput _ _ _ _ _ hi' (Nat.le_refl _) L3, World.putObj_heap_same (lt_blk L3)⟩, keep W' _ hp⟩⟩⟩
      · exact ⟨hk, .inr ⟨he, fun L3 => .inr ⟨rfl, hputx _ _ _ _ hi' (Nat.le_refl _) L3, World.putObj_heap_same (lt_blk L3)⟩⟩⟩
end Go.Proofs.YtodamoblnlcodaaDoor.L
