import Derived.Test.YtlhlpamciafocaaGreatDoorMgAA
import Derived.Test.YtlhlpamciafocaaGreatDoorMgAG
namespace Go.Proofs.YtlhlpamciafocaaGreatDoor.L
open Go.RowKit Go.Shelf
set_option linter.unusedVariables false
attribute [local go_sem] Oper.semAt_some
/-- A block in which a loop keeps its books. -/
def isBk : Obj → Bool
  | .loop _ => true
  | .deferred _ => true
  | _ => false
/-- The books from base on lie as they lay. -/
structure Kb (base : Nat) (W W' : World) : Prop where
  size : W.heap.size ≤ W'.heap.size
  same : ∀ k o, base ≤ k → W.heap[k]? = some o → isBk o = true → W'.heap[k]? = some o
theorem Kb.trans {base : Nat} {A B C : World} (h : Kb base A B) (k : Kb base B C) : Kb base A C := ⟨Nat.le_trans h.size k.size, fun j o hj h1 h2 => k.same j o hj (h.same j o hj h1 h2) h2⟩
/-- All but the walk's own record lies as it lay. -/
structure Lk (l : Nat) (W W' : World) : Prop where
  os : W'.os = W.os
  tape : W'.tape = W.tape
  output : W'.output = W.output
  size : W.heap.size ≤ W'.heap.size
  block : ∀ k, k < W.heap.size → k ≠ l → W'.heap[k]? = W.heap[k]?
set_option maxHeartbeats 4000000 in
/-- A walk over Each's func; its body runs to its end or leaves. -/
theorem eachP {n : Nat} (hn : 2 ≤ n) {gf : Operand} {ps : Array Tmp} {assign body : Code} {Q : Exit → Act → World → Prop} {a : Act} {w : World} (X : Nat) (s : ByteArray) (xe : Exit) (xc : Code)
    (hxe : (xe = .ret ∧ xc = .ret) ∨ ∃ id, xe = .exit id ∧ xc = .exit id)
    (hg : a.eval gf = eachB X) (hps : ps.size = 2) (hX : w.heap[X]? = some (.cells #[.string s] 9 (0, 0)))
    (I : List Tok → World → Prop) (If Ix : World → Prop) (hV : ∀ pre W, I pre W → Vars W) (h0 : ∀ W', Below w.heap.size w W' → I [] W')
    (hput : ∀ pre W l r r', I pre W → w.heap.size ≤ l → W.heap[l]? = some (.loop r) → I pre (W.putObj l (.loop r')))
    (hputf : ∀ W l r r', If W → w.heap.size ≤ l → W.heap[l]? = some (.loop r) → If (W.putObj l (.loop r')))
    (hputx : ∀ W l r r', Ix W → w.heap.size ≤ l → W.heap[l]? = some (.loop r) → Ix (W.putObj l (.loop r')))
    (A : Tok → Value → Act → World → Prop) (hA : ∀ t v a' W l r r', A t v a' W → W.heap[l]? = some (.loop r) → A t v a' (W.putObj l (.loop r')))
    (hassign : ∀ m l t v W K, w.heap.size ≤ W.heap.size → (∀ a' W', A t v a' W' → Below W.heap.size W W' → K a' W') → assign.wpIn (Fence.wide.inRound l) m Tryz.prog (Exit.then K (fun _ _ _ => False)) { tmps := (ps.zip #[tv t, v]).foldl (fun t (p, v) => t.setIfInBounds p v) a.tmps, defers := [] } W)
    (hbody : ∀ m l pre t a' W0 W, A t .nilIface a' W → w.heap.size ≤ l → (∃ r, W0.heap[l]? = some (.loop r)) → (∃ r, W.heap[l]? = some (.loop r)) → Lk l W0 W → I pre W0 → pre ++ [t] <+: (scanT s).1 → body.wpIn (Fence.wide.inRound l) m Tryz.prog (fun e _ W' => (e = .normal ∧ Kb w.heap.size W W' ∧ Kp W0.heap.size W W' ∧ I (pre ++ [t]) W') ∨ (e = xe ∧ Kb w.heap.size W W' ∧ Kp W0.heap.size W W' ∧ Ix W')) a' W)
    (hfault : ∀ m l N c p a' W0 W, A tok0 (fv N) a' W → w.heap.size ≤ l → (∃ r, W0.heap[l]? = some (.loop r)) → (∃ r, W.heap[l]? = some (.loop r)) → Lk l W0 W → I (scanT s).1 W0 → (scanT s).2 = some (c, p) → Flt W N c p → W0.heap.size ≤ N → body.wpIn (Fence.wide.inRound l) m Tryz.prog (fun e _ W' => (e = .normal ∧ Kb w.heap.size W W' ∧ If W') ∨ (e = xe ∧ Kb w.heap.size W W' ∧ Ix W')) a' W)
    (hdone : ∀ D W, w.heap.size ≤ D → I (scanT s).1 W → (scanT s).2 = none → W.heap[D]? = some (.deferred (some [])) → Q .normal { a with defers := { target := .collected D, args := #[] } :: a.defers } W)
    (hdonef : ∀ D W, w.heap.size ≤ D → If W → W.heap[D]? = some (.deferred (some [])) → Q .normal { a with defers := { target := .collected D, args := #[] } :: a.defers } W)
    (hstop : ∀ D W, w.heap.size ≤ D → Ix W → W.heap[D]? = some (.deferred (some [])) → xc.wpIn Fence.wide n Tryz.prog Q { a with defers := { target := .collected D, args := #[] } :: a.defers } W) :
    (Code.rangeFunc gf ps assign body).wpIn Fence.wide n Tryz.prog Q a w := by
  refine wpIn_rangeFunc ?_
  intro fn hfn
  obtain ⟨rc, hrc⟩ : ∃ rc : LoopState → Option Code → Loop, rc = fun s p => { state := s, pending := p, fn, tmps := a.tmps, params := ps, assign, body, defers := w.heap.size } := ⟨_, rfl⟩
  obtain ⟨V, hV'⟩ : ∃ V, V = (w.alloc (.deferred (some []))).alloc (.loop (rc .ready none)) := ⟨_, rfl⟩
  have al : Below w.heap.size w V := by rw [hV']; exact ((Below.refl _ w).alloc (Nat.le_refl _) _).alloc (by simp) _
  have vd : V.heap[w.heap.size]? = some (.deferred (some [])) := by
    rw [hV']; exact (Below.heap_alloc _ _ _ (by simp)).trans (World.alloc_heap_new w _)
  have vl : V.heap[w.heap.size + 1]? = some (.loop (rc .ready none)) := by
    rw [hV']
    have := World.alloc_heap_new (w.alloc (.deferred (some []))) (.loop (rc .ready none))
    rwa [World.size_alloc] at this
  have vx : V.heap[X]? = some (.cells #[.string s] 9 (0, 0)) := (al.block X (lt_blk hX)).trans hX
  -- one round
  have ONE : ∀ m t v (W0 W : World) (RO : Ending → World → Prop), W0.heap[w.heap.size + 1]? = some (.loop (rc .ready none)) → W0.heap[w.heap.size]? = some (.deferred (some [])) → Below W0.heap.size W0 W →
      (∀ a' W2, A t v a' W2 → Lk (w.heap.size + 1) W0 W2 → Below W.heap.size (W.putObj (w.heap.size + 1) (.loop { rc .ready none with state := .busy })) W2 → body.wpIn (Fence.wide.inRound (w.heap.size + 1)) m Tryz.prog (fun e _ W' => Kb w.heap.size W2 W' ∧ ((e = .normal ∧ (W'.heap[w.heap.size + 1]? = some (.loop (rc .busy none)) → W'.heap[w.heap.size]? = some (.deferred (some [])) → RO (.returned (.bool true)) (W'.putObj (w.heap.size + 1) (.loop (rc .ready none))))) ∨ (e = xe ∧ (W'.heap[w.heap.size + 1]? = some (.loop (rc .busy none)) → W'.heap[w.heap.size]? = some (.deferred (some [])) → RO (.returned (.bool false)) (W'.putObj (w.heap.size + 1) (.loop (rc .done (some xc)))))))) a' W2) →
      YieldAt Fence.wide m Tryz.prog (w.heap.size + 1) #[tv t, v] W RO := by
    intro m t v W0 W RO hL0 hD0 hb hbd
    have hL := (hb.block _ (lt_blk hL0)).trans hL0
    have hD := (hb.block _ (lt_blk hD0)).trans hD0
    have hy := run_yield (P := Tryz.prog) (args := #[tv t, v]) hL (by rw [hrc]; simp [hps])
    rw [hrc] at hy
    refine ⟨fn, _, assign, body, hy, roundIn_of_wpIn hfn (hassign m _ t v W _ (by have := lt_blk hL; omega) ?_)⟩
    intro a' W1 ha' hW1
    have hltW := lt_blk hL
    replace hD := (hW1.block _ (lt_blk hD)).trans hD
    replace hL := (hW1.block _ hltW).trans hL
    have hlt := lt_blk hL
    refine ⟨_, run_beginRound hL (by rw [hrc]), ?_⟩
    have L2 : (W1.putObj (w.heap.size + 1) (.loop { rc .ready none with state := .busy })).heap[w.heap.size + 1]? = some (.loop { rc .ready none with state := .busy }) := World.putObj_heap_same hlt
    have D2 : (W1.putObj (w.heap.size + 1) (.loop { rc .ready none with state := .busy })).heap[w.heap.size]? = some (.deferred (some [])) := (World.putObj_heap_other (by omega)).trans hD
    have hlk : Lk (w.heap.size + 1) W0 (W1.putObj (w.heap.size + 1) (.loop { rc .ready none with state := .busy })) := by
      refine ⟨hW1.os.trans hb.os, hW1.tape.trans hb.tape, hW1.output.trans hb.output, by rw [World.putObj_size]; exact Nat.le_trans hb.size hW1.size, fun k hk hne => ?_⟩
      rw [World.putObj_heap_other hne, hW1.block k (by have := hb.size; omega), hb.block k hk]
    have hbl : Below W.heap.size (W.putObj (w.heap.size + 1) (.loop { rc .ready none with state := .busy })) (W1.putObj (w.heap.size + 1) (.loop { rc .ready none with state := .busy })) := by
      refine ⟨hW1.os, hW1.tape, hW1.output, by rw [World.putObj_size, World.putObj_size]; exact hW1.size, fun k hk => ?_⟩
      by_cases e : k = w.heap.size + 1
      · rw [e, World.putObj_heap_same hlt, World.putObj_heap_same hltW]
      · rw [World.putObj_heap_other e, World.putObj_heap_other e, hW1.block k hk]
    refine wpIn_mono (hbd a' _ (hA _ _ _ _ _ _ _ ha' hL) hlk hbl) ?_
    rintro e a3 W3 ⟨hk, (⟨rfl, hi3⟩ | ⟨he, hi3⟩)⟩
    · have L3 := hk.same _ _ (by omega) L2 rfl
      have D3 := hk.same _ _ (Nat.le_refl _) D2 rfl
      have L3' : W3.heap[w.heap.size + 1]? = some (.loop (rc .busy none)) := by rw [L3, hrc]
      have hr := run_endRound (P := Tryz.prog) none L3'
      refine ⟨_, _, hr, ?_⟩
      have := hi3 L3' D3
      rw [hrc] at this ⊢
      exact this
    · have L3 := hk.same _ _ (by omega) L2 rfl
      have D3 := hk.same _ _ (Nat.le_refl _) D2 rfl
      have L3' : W3.heap[w.heap.size + 1]? = some (.loop (rc .busy none)) := by rw [L3, hrc]
      have hr := run_endRound (P := Tryz.prog) (some xc) L3'
      have := hi3 L3' D3
      rcases hxe with ⟨h1, h2⟩ | ⟨id, h1, h2⟩
      · rw [he, h1]
        rw [h2] at hr this
        refine ⟨_, _, hr, ?_⟩
        rw [hrc] at this ⊢
        exact this
      · rw [he, h1]
        rw [h2] at hr this
        refine ⟨_, _, hr, ?_⟩
        rw [hrc] at this ⊢
        exact this
  refine ⟨w.heap.size + 1, [{ target := .collected w.heap.size, args := #[] }], V, { target := .fn (.func 50) #[.pointer (some ⟨X, 0, none⟩)], args := #[.func (.yield (w.heap.size + 1)) #[] #[]] }, V, 50,
    #[.func (.yield (w.heap.size + 1)) #[] #[], .pointer (some ⟨X, 0, none⟩)], V, ?_, ?_, fun f' _ => trivial, ?_, fun _ => by omega, ?_⟩
  · rw [hV', hrc]
    exact run_enterLoop_outer _ _ _ _ _
  · simp only [resolve, hg, eachB]
    simp [go_sem]
  · simp [invoke, go_sem]
  · refine (each_px (n - 1) (by omega) (w.heap.size + 1) X s
      (fun pre W => I pre W ∧ W.heap[w.heap.size + 1]? = some (.loop (rc .ready none)) ∧ W.heap[w.heap.size]? = some (.deferred (some [])))
      (fun pre W => Ix W ∧ W.heap[w.heap.size + 1]? = some (.loop (rc .done (some xc))) ∧ W.heap[w.heap.size]? = some (.deferred (some [])))
      (fun W => (If W ∧ W.heap[w.heap.size + 1]? = some (.loop (rc .ready none)) ∧ W.heap[w.heap.size]? = some (.deferred (some []))) ∨ (Ix W ∧ W.heap[w.heap.size + 1]? = some (.loop (rc .done (some xc))) ∧ W.heap[w.heap.size]? = some (.deferred (some []))))
      (fun pre W h => hV pre W h.1) ?_ ?_ V vx ⟨h0 _ al, vl, vd⟩).mono ?_
    · rintro m pre t W0 W ⟨hi, hL, hD⟩ hb hpre
      refine ONE m t .nilIface W0 W _ hL hD hb ?_
      intro a' W2 hA2 hlk hbl
      refine wpIn_mono (hbody m (w.heap.size + 1) pre t a' W0 W2 hA2 (by omega) ⟨_, hL⟩ ⟨_, (hbl.block _ (lt_blk ((hb.block _ (lt_blk hL)).trans hL))).trans (World.putObj_heap_same (lt_blk ((hb.block _ (lt_blk hL)).trans hL)))⟩ hlk hi hpre) ?_
      have keep : ∀ (W' : World) (o : Obj), Kp W0.heap.size W2 W' → Kp W0.heap.size W (W'.putObj (w.heap.size + 1) o) := by
        intro W' o hk
        have hz := hbl.size
        rw [World.putObj_size] at hz
        refine ⟨by simp; exact Nat.le_trans hz hk.size, fun k h1 h2 => ?_⟩
        have hne : k ≠ w.heap.size + 1 := by have := lt_blk hL; omega
        rw [World.putObj_heap_other hne, hk.block k h1 (by omega), hbl.block k h2, World.putObj_heap_other hne]
      rintro e a3 W' (⟨he, hk, hp, hi'⟩ | ⟨he, hk, hp, hi'⟩)
      · refine ⟨hk, .inl ⟨he, fun L3 D3 => .inl ⟨rfl, ⟨hput _ _ _ _ _ hi' (by omega) L3, World.putObj_heap_same (lt_blk L3), (World.putObj_heap_other (by omega)).trans D3⟩, keep W' _ hp⟩⟩⟩
      · refine ⟨hk, .inr ⟨he, fun L3 D3 => .inr ⟨rfl, ⟨hputx _ _ _ _ hi' (by omega) L3, World.putObj_heap_same (lt_blk L3), (World.putObj_heap_other (by omega)).trans D3⟩, keep W' _ hp⟩⟩⟩
    · rintro m N c p W0 W ⟨hi, hL, hD⟩ hb hsc hflt hN
      refine ONE m tok0 (fv N) W0 W _ hL hD hb ?_
      intro a' W2 hA2 hlk hbl
      have hf2 : Flt W2 N c p := by
        unfold Flt at hflt ⊢
        have hne : N ≠ w.heap.size + 1 := by have := lt_blk hL; omega
        rw [hbl.block N (lt_blk hflt), World.putObj_heap_other hne]
        exact hflt
      refine wpIn_mono (hfault m (w.heap.size + 1) N c p a' W0 W2 hA2 (by omega) ⟨_, hL⟩ ⟨_, (hbl.block _ (lt_blk ((hb.block _ (lt_blk hL)).trans hL))).trans (World.putObj_heap_same (lt_blk ((hb.block _ (lt_blk hL)).trans hL)))⟩ hlk hi hsc hf2 hN) ?_
      rintro e a3 W' (⟨he, hk, hi'⟩ | ⟨he, hk, hi'⟩)
      · exact ⟨hk, .inl ⟨he, fun L3 D3 => ⟨⟨_, rfl⟩, .inl ⟨hputf _ _ _ _ hi' (by omega) L3, World.putObj_heap_same (lt_blk L3), (World.putObj_heap_other (by omega)).trans D3⟩⟩⟩⟩
      · exact ⟨hk, .inr ⟨he, fun L3 D3 => ⟨⟨_, rfl⟩, .inr ⟨hputx _ _ _ _ hi' (by omega) L3, World.putObj_heap_same (lt_blk L3), (World.putObj_heap_other (by omega)).trans D3⟩⟩⟩⟩
    · rintro e W2 ⟨⟨v', rfl⟩, (⟨⟨hi, hL, hD⟩, hsc⟩ | ⟨pre, hp, hi, hL, hD⟩ | ⟨hi, hL, hD⟩ | ⟨hi, hL, hD⟩)⟩
      · have he := run_endLoop (P := Tryz.prog) hL (by rw [hrc]; simp)
        rw [hrc] at he
        exact ⟨none, _, he, hdone _ _ (Nat.le_refl _) (hput _ _ _ _ _ hi (by omega) hL) hsc ((World.putObj_heap_other (by omega)).trans hD)⟩
      · have he := run_endLoop (P := Tryz.prog) hL (by rw [hrc]; simp)
        rw [hrc] at he
        exact ⟨some xc, _, he, hstop _ _ (Nat.le_refl _) (hputx _ _ _ _ hi (by omega) hL) ((World.putObj_heap_other (by omega)).trans hD)⟩
      · have he := run_endLoop (P := Tryz.prog) hL (by rw [hrc]; simp)
        rw [hrc] at he
        exact ⟨none, _, he, hdonef _ _ (Nat.le_refl _) (hputf _ _ _ _ hi (by omega) hL) ((World.putObj_heap_other (by omega)).trans hD)⟩
      · have he := run_endLoop (P := Tryz.prog) hL (by rw [hrc]; simp)
        rw [hrc] at he
        exact ⟨some xc, _, he, hstop _ _ (Nat.le_refl _) (hputx _ _ _ _ hi (by omega) hL) ((World.putObj_heap_other (by omega)).trans hD)⟩
theorem eachO {n : Nat} (hn : 2 ≤ n) {gf : Operand} {ps : Array Tmp} {assign body : Code} {Q : Exit → Act → World → Prop} {a : Act} {w : World} (X : Nat) (s : ByteArray) (xe : Exit) (xc : Code)
    (hxe : (xe = .ret ∧ xc = .ret) ∨ ∃ id, xe = .exit id ∧ xc = .exit id)
    (hg : a.eval gf = eachB X) (hps : ps.size = 2) (hX : w.heap[X]? = some (.cells #[.string s] 9 (0, 0)))
    (I : List Tok → World → Prop) (If Ix : World → Prop) (hV : ∀ pre W, I pre W → Vars W) (h0 : ∀ W', Below w.heap.size w W' → I [] W')
    (hput : ∀ pre W l r r', I pre W → w.heap.size ≤ l → W.heap[l]? = some (.loop r) → I pre (W.putObj l (.loop r')))
    (hputf : ∀ W l r r', If W → w.heap.size ≤ l → W.heap[l]? = some (.loop r) → If (W.putObj l (.loop r')))
    (hputx : ∀ W l r r', Ix W → w.heap.size ≤ l → W.heap[l]? = some (.loop r) → Ix (W.putObj l (.loop r')))
    (A : Tok → Value → Act → World → Prop) (hA : ∀ t v a' W l r r', A t v a' W → W.heap[l]? = some (.loop r) → A t v a' (W.putObj l (.loop r')))
    (hassign : ∀ m l t v W K, w.heap.size ≤ W.heap.size → (∀ a' W', A t v a' W' → Below W.heap.size W W' → K a' W') → assign.wpIn (Fence.wide.inRound l) m Tryz.prog (Exit.then K (fun _ _ _ => False)) { tmps := (ps.zip #[tv t, v]).foldl (fun t (p, v) => t.setIfInBounds p v) a.tmps, defers := [] } W)
    (hbody : ∀ m l pre t a' W0 W, A t .nilIface a' W → w.heap.size ≤ l → (∃ r, W0.heap[l]? = some (.loop r)) → Lk l W0 W → I pre W0 → pre ++ [t] <+: (scanT s).1 → body.wpIn (Fence.wide.inRound l) m Tryz.prog (fun e _ W' => (e = .normal ∧ Kb w.heap.size W W' ∧ Kp W0.heap.size W W' ∧ I (pre ++ [t]) W') ∨ (e = xe ∧ Kb w.heap.size W W' ∧ Kp W0.heap.size W W' ∧ Ix W')) a' W)
    (hfault : ∀ m l N c p a' W0 W, A tok0 (fv N) a' W → w.heap.size ≤ l → (∃ r, W0.heap[l]? = some (.loop r)) → Lk l W0 W → I (scanT s).1 W0 → (scanT s).2 = some (c, p) → Flt W N c p → W0.heap.size ≤ N → body.wpIn (Fence.wide.inRound l) m Tryz.prog (fun e _ W' => (e = .normal ∧ Kb w.heap.size W W' ∧ If W') ∨ (e = xe ∧ Kb w.heap.size W W' ∧ Ix W')) a' W)
    (hdone : ∀ D W, w.heap.size ≤ D → I (scanT s).1 W → (scanT s).2 = none → W.heap[D]? = some (.deferred (some [])) → Q .normal { a with defers := { target := .collected D, args := #[] } :: a.defers } W)
    (hdonef : ∀ D W, w.heap.size ≤ D → If W → W.heap[D]? = some (.deferred (some [])) → Q .normal { a with defers := { target := .collected D, args := #[] } :: a.defers } W)
    (hstop : ∀ D W, w.heap.size ≤ D → Ix W → W.heap[D]? = some (.deferred (some [])) → xc.wpIn Fence.wide n Tryz.prog Q { a with defers := { target := .collected D, args := #[] } :: a.defers } W) :
    (Code.rangeFunc gf ps assign body).wpIn Fence.wide n Tryz.prog Q a w :=
  eachP hn X s xe xc hxe hg hps hX I If Ix hV h0 hput hputf hputx A hA hassign (fun m l pre t a' W0 W h1 h2 h3 _ h4 h5 h6 => hbody m l pre t a' W0 W h1 h2 h3 h4 h5 h6) (fun m l N c p a' W0 W h1 h2 h3 _ h4 h5 h6 h7 h8 => hfault m l N c p a' W0 W h1 h2 h3 h4 h5 h6 h7 h8) hdone hdonef hstop
end Go.Proofs.YtlhlpamciafocaaGreatDoor.L
