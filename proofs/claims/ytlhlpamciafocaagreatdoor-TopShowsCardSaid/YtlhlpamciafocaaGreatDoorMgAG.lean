import Derived.Test.YtlhlpamciafocaaGreatDoorMgAA
import Derived.Test.YtlhlpamciafocaaGreatDoorMgAF
import Derived.RangeFuncBox
namespace Go.Proofs.YtlhlpamciafocaaGreatDoor.L
open Go.RowKit Go.Shelf
set_option linter.unusedVariables false
attribute [local go_sem] Oper.semAt_some
/-- A block in which a loop keeps its books. -/
def isBk : Obj → Bool
  | .loop _ => true
  | .deferred _ => true
  | _ => false
/-- The books from base on lie as they lay. -/
structure Kb (base : Nat) (W W' : World) : Prop where
  size : W.heap.size ≤ W'.heap.size
  same : ∀ k o, base ≤ k → W.heap[k]? = some o → isBk o = true → W'.heap[k]? = some o
theorem Kb.trans {base : Nat} {A B C : World} (h : Kb base A B) (k : Kb base B C) : Kb base A C := ⟨Nat.le_trans h.size k.size, fun j o hj h1 h2 => k.same j o hj (h.same j o hj h1 h2) h2⟩
/-- All but the walk's own record lies as it lay. -/
structure Lk (l : Nat) (W W' : World) : Prop where
  os : W'.os = W.os
  tape : W'.tape = W.tape
  output : W'.output = W.output
  size : W.heap.size ≤ W'.heap.size
  block : ∀ k, k < W.heap.size → k ≠ l → W'.heap[k]? = W.heap[k]?
set_option maxHeartbeats 4000000 in
/-- A walk over Each's func; its body runs to its end or leaves. -/
theorem eachP {n : Nat} (hn : 2 ≤ n) {gf : Operand} {ps : Array Tmp} {assign body : Code} {Q : Exit → Act → World → Prop} {a : Act} {w : World} (X : Nat) (s : ByteArray) (xe : Exit) (xc : Code)
    (hxe : (xe = .ret ∧ xc = .ret) ∨ ∃ id, xe = .exit id ∧ xc = .exit id)
    (hg : a.eval gf = eachB X) (hps : ps.size = 2) (hX : w.heap[X]? = some (.cells #[.string s] 9 (0, 0)))
    (I : List Tok → World → Prop) (If Ix : World → Prop) (hV : ∀ pre W, I pre W → Vars W) (h0 : ∀ W', Below w.heap.size w W' → I [] W')
    (hput : ∀ pre W l r r', I pre W → w.heap.size ≤ l → W.heap[l]? = some (.loop r) → I pre (W.putObj l (.loop r')))
    (hputf : ∀ W l r r', If W → w.heap.size ≤ l → W.heap[l]? = some (.loop r) → If (W.putObj l (.loop r')))
    (hputx : ∀ W l r r', Ix W → w.heap.size ≤ l → W.heap[l]? = some (.loop r) → Ix (W.putObj l (.loop r')))
    (A : Tok → Value → Act → World → Prop) (hA : ∀ t v a' W l r r', A t v a' W → W.heap[l]? = some (.loop r) → A t v a' (W.putObj l (.loop r')))
    (hassign : ∀ m l t v W K, w.heap.size ≤ W.heap.size → (∀ a' W', A t v a' W' → Below W.heap.size W W' → K a' W') → assign.wpIn (Fence.wide.inRound l) m Tryz.prog (Exit.then K (fun _ _ _ => False)) { tmps := (ps.zip #[tv t, v]).foldl (fun t (p, v) => t.setIfInBounds p v) a.tmps, defers := [] } W)
    (hbody : ∀ m l pre t a' W0 W, A t .nilIface a' W → w.heap.size ≤ l → (∃ r, W0.heap[l]? = some (.loop r)) → (∃ r, W.heap[l]? = some (.loop r)) → Lk l W0 W → I pre W0 → pre ++ [t] <+: (scanT s).1 → body.wpIn (Fence.wide.inRound l) m Tryz.prog (fun e _ W' => (e = .normal ∧ Kb w.heap.size W W' ∧ Kp W0.heap.size W W' ∧ I (pre ++ [t]) W') ∨ (e = xe ∧ Kb w.heap.size W W' ∧ Kp W0.heap.size W W' ∧ Ix W')) a' W)
    (hfault : ∀ m l N c p a' W0 W, A tok0 (fv N) a' W → w.heap.size ≤ l → (∃ r, W0.heap[l]? = some (.loop r)) → (∃ r, W.heap[l]? = some (.loop r)) → Lk l W0 W → I (scanT s).1 W0 → (scanT s).2 = some (c, p) → Flt W N c p → W0.heap.size ≤ N → body.wpIn (Fence.wide.inRound l) m Tryz.prog (fun e _ W' => (e = .normal ∧ Kb w.heap.size W W' ∧ If W') ∨ (e = xe ∧ Kb w.heap.size W W' ∧ Ix W')) a' W)
    (hdone : ∀ D W, w.heap.size ≤ D → I (scanT s).1 W → (scanT s).2 = none → W.heap[D]? = some (.deferred (some [])) → Q .normal { a with defers := { target := .collected D, args := #[] } :: a.defers } W)
    (hdonef : ∀ D W, w.heap.size ≤ D → If W → W.heap[D]? = some (.deferred (some [])) → Q .normal { a with defers := { target := .collected D, args := #[] } :: a.defers } W)
    (hstop : ∀ D W, w.heap.size ≤ D → Ix W → W.heap[D]? = some (.deferred (some [])) → xc.wpIn Fence.wide n Tryz.prog Q { a with defers := { target := .collected D, args := #[] } :: a.defers } W) :
    (Code.rangeFunc gf ps assign body).wpIn Fence.wide n Tryz.prog Q a w := by
  refine wpIn_rangeFunc ?_
  intro fn hfn
  obtain ⟨rc, hrc⟩ : ∃ rc : LoopState → Option Code → Loop, rc = fun s p => { state := s, pending := p, fn, tmps := a.tmps, params := ps, assign, body, defers := w.heap.size } := ⟨_, rfl⟩
  obtain ⟨V, hV'⟩ : ∃ V, V = (w.alloc (.deferred (some []))).alloc (.loop (rc .ready none)) := ⟨_, rfl⟩
  have al : Below w.heap.size w V := by rw [hV']; exact ((Below.refl _ w).alloc (Nat.le_refl _) _).alloc (by simp) _
  have vd : V.heap[w.heap.size]? = some (.deferred (some [])) := by
    rw [hV']; exact (Below.heap_alloc _ _ _ (by simp)).trans (World.alloc_heap_new w _)
  have vl : V.heap[w.heap.size + 1]? = some (.loop (rc .ready none)) := by
    rw [hV']
    have := World.alloc_heap_new (w.alloc (.deferred (some []))) (.loop (rc .ready none))
    rwa [World.size_alloc] at this
  have vx : V.heap[X]? = some (.cells #[.string s] 9 (0, 0)) := (al.block X (lt_blk hX)).trans hX
  -- one round
  have ONE : ∀ m t v (W0 W : World) (RO : Ending → World → Prop), W0.heap[w.heap.size + 1]? = some (.loop (rc .ready none)) → W0.heap[w.heap.size]? = some (.deferred (some [])) → Below W0.heap.size W0 W →
      (∀ a' W2, A t v a' W2 → Lk (w.heap.size + 1) W0 W2 → Below W.heap.size (W.putObj (w.heap.size + 1) (.loop { rc .ready none with state := .busy })) W2 → body.wpIn (Fence.wide.inRound (w.heap.size + 1)) m Tryz.prog (fun e _ W' => Kb w.heap.size W2 W' ∧ ((e = .normal ∧ (W'.heap[w.heap.size + 1]? = some (.loop (rc .busy none)) → W'.heap[w.heap.size]? = some (.deferred (some [])) → RO (.returned (.bool true)) (W'.putObj (w.heap.size + 1) (.loop (rc .ready none))))) ∨ (e = xe ∧ (W'.heap[w.heap.size + 1]? = some (.loop (rc .busy none)) → W'.heap[w.heap.size]? = some (.deferred (some [])) → RO (.returned (.bool false)) (W'.putObj (w.heap.size + 1) (.loop (rc .done (some xc)))))))) a' W2) →
      YieldAt Fence.wide m Tryz.prog (w.heap.size + 1) #[tv t, v] W RO := by
    intro m t v W0 W RO hL0 hD0 hb hbd
    have hL := (hb.block _ (lt_blk hL0)).trans hL0
    have hD := (hb.block _ (lt_blk hD0)).trans hD0
    have hy := run_yield (P := Tryz.prog) (args := #[tv t, v]) hL (by rw [hrc]; simp [hps])
    rw [hrc] at hy
    refine ⟨fn, _, assign, body, hy, roundIn_of_wpIn hfn (hassign m _ t v W _ (by have := lt_blk hL; omega) ?_)⟩
    intro a' W1 ha' hW1
    have hltW := lt_blk hL
    replace hD := (hW1.block _ (lt_blk hD)).trans hD
    replace hL := (hW1.block _ hltW).trans hL
    have hlt := lt_blk hL
    refine ⟨_, run_beginRound hL (by rw [hrc]), ?_⟩
    have L2 : (W1.putObj (w.heap.size + 1) (.loop { rc .ready none with state := .busy })).heap[w.heap.size + 1]? = some (.loop { rc .ready none with state := .busy }) := World.putObj_heap_same hlt
    have D2 : (W1.putObj (w.heap.size + 1) (.loop { rc .ready none with state := .busy })).heap[w.heap.size]? = some (.deferred (some [])) := (World.putObj_heap_other (by omega)).trans hD
    have hlk : Lk (w.heap.size + 1) W0 (W1.putObj (w.heap.size + 1) (.loop { rc .ready none with state := .busy })) := by
      refine ⟨hW1.os.trans hb.os, hW1.tape.trans hb.tape, hW1.output.trans hb.output, by rw [World.putObj_size]; exact Nat.le_trans hb.size hW1.size, fun k hk hne => ?_⟩
      rw [World.putObj_heap_other hne, hW1.block k (by have := hb.size; omega), hb.block k hk]
    have hbl : Below W.heap.size (W.putObj (w.heap.size + 1) (.loop { rc .ready none with state := .busy })) (W1.putObj (w.heap.size + 1) (.loop { rc .ready none with state := .busy })) := by
      refine ⟨hW1.os, hW1.tape, hW1.output, by rw [World.putObj_size, World.putObj_size]; exact hW1.size, fun k hk => ?_⟩
      by_cases e : k = w.heap.size + 1
      · rw [e, World.putObj_heap_same hlt, World.putObj_heap_same hltW]
      · rw [World.putObj_heap_other e, World.putObj_heap_other e, hW1.block k hk]
    refine wpIn_mono (hbd a' _ (hA _ _ _ _ _ _ _ ha' hL) hlk hbl) ?_
    rintro e a3 W3 ⟨hk, (⟨rfl, hi3⟩ | ⟨he, hi3⟩)⟩
    · have L3 := hk.same _ _ (by omega) L2 rfl
      have D3 := hk.same _ _ (Nat.le_refl _) D2 rfl
      have L3' : W3.heap[w.heap.size + 1]? = some (.loop (rc .busy none)) := by rw [L3, hrc]
      have hr := run_endRound (P := Tryz.prog) none L3'
      refine ⟨_, _, hr, ?_⟩
      have := hi3 L3' D3
      rw [hrc] at this ⊢
      exact this
    · have L3 := hk.same _ _ (by omega) L2 rfl
      have D3 := hk.same _ _ (Nat.le_refl _) D2 rfl
      have L3' : W3.heap[w.heap.size + 1]? = some (.loop (rc .busy none)) := by rw [L3, hrc]
      have hr := run_endRound (P := Tryz.prog) (some xc) L3'
      have := hi3 L3' D3
      rcases hxe with ⟨h1, h2⟩ | ⟨id, h1, h2⟩
      · rw [he, h1]
        rw [h2] at hr this
        refine ⟨_, _, hr, ?_⟩
        rw [hrc] at this ⊢
        exact this
      · rw [he, h1]
        rw [h2] at hr this
        refine ⟨_, _, hr, ?_⟩
        rw [hrc] at this ⊢
        exact this
  refine ⟨w.heap.size + 1, [{ target := .collected w.heap.size, args := #[] }], V, { target := .fn (.func 50) #[.pointer (some ⟨X, 0, none⟩)], args := #[.func (.yield (w.heap.size + 1)) #[] #[]] }, V, 50,
    #[.func (.yield (w.heap.size + 1)) #[] #[], .pointer (some ⟨X, 0, none⟩)], V, ?_, ?_, fun f' _ => trivial, ?_, fun _ => by omega, ?_⟩
  · rw [hV', hrc]
    exact run_enterLoop_outer _ _ _ _ _
  · simp only [resolve, hg, eachB]
    simp [go_sem]
  · simp [invoke, go_sem]
  · refine (each_px (n - 1) (by omega) (w.heap.size + 1) X s
      (fun pre W => I pre W ∧ W.heap[w.heap.size + 1]? = some (.loop (rc .ready none)) ∧ W.heap[w.heap.size]? = some (.deferred (some [])))
      (fun pre W => Ix W ∧ W.heap[w.heap.size + 1]? = some (.loop (rc .done (some xc))) ∧ W.heap[w.heap.size]? = some (.deferred (some [])))
      (fun W => (If W ∧ W.heap[w.heap.size + 1]? = some (.loop (rc .ready none)) ∧ W.heap[w.heap.size]? = some (.deferred (some []))) ∨ (Ix W ∧ W.heap[w.heap.size + 1]? = some (.loop (rc .done (some xc))) ∧ W.heap[w.heap.size]? = some (.deferred (some []))))
      (fun pre W h => hV pre W h.1) ?_ ?_ V vx ⟨h0 _ al, vl, vd⟩).mono ?_
    · rintro m pre t W0 W ⟨hi, hL, hD⟩ hb hpre
      refine ONE m t .nilIface W0 W _ hL hD hb ?_
      intro a' W2 hA2 hlk hbl
      refine wpIn_mono (hbody m (w.heap.size + 1) pre t a' W0 W2 hA2 (by omega) ⟨_, hL⟩ ⟨_, (hbl.block _ (lt_blk ((hb.block _ (lt_blk hL)).trans hL))).trans (World.putObj_heap_same (lt_blk ((hb.block _ (lt_blk hL)).trans hL)))⟩ hlk hi hpre) ?_
      have keep : ∀ (W' : World) (o : Obj), Kp W0.heap.size W2 W' → Kp W0.heap.size W (W'.putObj (w.heap.size + 1) o) := by
        intro W' o hk
        have hz := hbl.size
        rw [World.putObj_size] at hz
        refine ⟨by simp; exact Nat.le_trans hz hk.size, fun k h1 h2 => ?_⟩
        have hne : k ≠ w.heap.size + 1 := by have := lt_blk hL; omega
        rw [World.putObj_heap_other hne, hk.block k h1 (by omega), hbl.block k h2, World.putObj_heap_other hne]
      rintro e a3 W' (⟨he, hk, hp, hi'⟩ | ⟨he, hk, hp, hi'⟩)
      · refine ⟨hk, .inl ⟨he, fun L3 D3 => .inl ⟨rfl, ⟨hput _ _ _ _ _ hi' (by omega) L3, World.putObj_heap_same (lt_blk L3), (World.putObj_heap_other (by omega)).trans D3⟩, keep W' _ hp⟩⟩⟩
      · refine ⟨hk, .inr ⟨he, fun L3 D3 => .inr ⟨rfl, ⟨hputx _ _ _ _ hi' (by omega) L3, World.putObj_heap_same (lt_blk L3), (World.putObj_heap_other (by omega)).trans D3⟩, keep W' _ hp⟩⟩⟩
    · rintro m N c p W0 W ⟨hi, hL, hD⟩ hb hsc hflt hN
      refine ONE m tok0 (fv N) W0 W _ hL hD hb ?_
      intro a' W2 hA2 hlk hbl
      have hf2 : Flt W2 N c p := by
        unfold Flt at hflt ⊢
        have hne : N ≠ w.heap.size + 1 := by have := lt_blk hL; omega
        rw [hbl.block N (lt_blk hflt), World.putObj_heap_other hne]
        exact hflt
      refine wpIn_mono (hfault m (w.heap.size + 1) N c p a' W0 W2 hA2 (by omega) ⟨_, hL⟩ ⟨_, (hbl.block _ (lt_blk ((hb.block _ (lt_blk hL)).trans hL))).trans (World.putObj_heap_same (lt_blk ((hb.block _ (lt_blk hL)).trans hL)))⟩ hlk hi hsc hf2 hN) ?_
      rintro e a3 W' (⟨he, hk, hi'⟩ | ⟨he, hk, hi'⟩)
      · exact ⟨hk, .inl ⟨he, fun L3 D3 => ⟨⟨_, rfl⟩, .inl ⟨hputf _ _ _ _ hi' (by omega) L3, World.putObj_heap_same (lt_blk L3), (World.putObj_heap_other (by omega)).trans D3⟩⟩⟩⟩
      · exact ⟨hk, .inr ⟨he, fun L3 D3 => ⟨⟨_, rfl⟩, .inr ⟨hputx _ _ _ _ hi' (by omega) L3, World.putObj_heap_same (lt_blk L3), (World.putObj_heap_other (by omega)).trans D3⟩⟩⟩⟩
    · rintro e W2 ⟨⟨v', rfl⟩, (⟨⟨hi, hL, hD⟩, hsc⟩ | ⟨pre, hp, hi, hL, hD⟩ | ⟨hi, hL, hD⟩ | ⟨hi, hL, hD⟩)⟩
      · have he := run_endLoop (P := Tryz.prog) hL (by rw [hrc]; simp)
        rw [hrc] at he
        exact ⟨none, _, he, hdone _ _ (Nat.le_refl _) (hput _ _ _ _ _ hi (by omega) hL) hsc ((World.putObj_heap_other (by omega)).trans hD)⟩
      · have he := run_endLoop (P := Tryz.prog) hL (by rw [hrc]; simp)
        rw [hrc] at he
        exact ⟨some xc, _, he, hstop _ _ (Nat.le_refl _) (hputx _ _ _ _ hi (by omega) hL) ((World.putObj_heap_other (by omega)).trans hD)⟩
      · have he := run_endLoop (P := Tryz.prog) hL (by rw [hrc]; simp)
        rw [hrc] at he
        exact ⟨none, _, he, hdonef _ _ (Nat.le_refl _) (hputf _ _ _ _ hi (by omega) hL) ((World.putObj_heap_other (by omega)).trans hD)⟩
      · have he := run_endLoop (P := Tryz.prog) hL (by rw [hrc]; simp)
        rw [hrc] at he
        exact ⟨some xc, _, he, hstop _ _ (Nat.le_refl _) (hputx _ _ _ _ hi (by omega) hL) ((World.putObj_heap_other (by omega)).trans hD)⟩
theorem eachO {n : Nat} (hn : 2 ≤ n) {gf : Operand} {ps : Array Tmp} {assign body : Code} {Q : Exit → Act → World → Prop} {a : Act} {w : World} (X : Nat) (s : ByteArray) (xe : Exit) (xc : Code)
    (hxe : (xe = .ret ∧ xc = .ret) ∨ ∃ id, xe = .exit id ∧ xc = .exit id)
    (hg : a.eval gf = eachB X) (hps : ps.size = 2) (hX : w.heap[X]? = some (.cells #[.string s] 9 (0, 0)))
    (I : List Tok → World → Prop) (If Ix : World → Prop) (hV : ∀ pre W, I pre W → Vars W) (h0 : ∀ W', Below w.heap.size w W' → I [] W')
    (hput : ∀ pre W l r r', I pre W → w.heap.size ≤ l → W.heap[l]? = some (.loop r) → I pre (W.putObj l (.loop r')))
    (hputf : ∀ W l r r', If W → w.heap.size ≤ l → W.heap[l]? = some (.loop r) → If (W.putObj l (.loop r')))
    (hputx : ∀ W l r r', Ix W → w.heap.size ≤ l → W.heap[l]? = some (.loop r) → Ix (W.putObj l (.loop r')))
    (A : Tok → Value → Act → World → Prop) (hA : ∀ t v a' W l r r', A t v a' W → W.heap[l]? = some (.loop r) → A t v a' (W.putObj l (.loop r')))
    (hassign : ∀ m l t v W K, w.heap.size ≤ W.heap.size → (∀ a' W', A t v a' W' → Below W.heap.size W W' → K a' W') → assign.wpIn (Fence.wide.inRound l) m Tryz.prog (Exit.then K (fun _ _ _ => False)) { tmps := (ps.zip #[tv t, v]).foldl (fun t (p, v) => t.setIfInBounds p v) a.tmps, defers := [] } W)
    (hbody : ∀ m l pre t a' W0 W, A t .nilIface a' W → w.heap.size ≤ l → (∃ r, W0.heap[l]? = some (.loop r)) → Lk l W0 W → I pre W0 → pre ++ [t] <+: (scanT s).1 → body.wpIn (Fence.wide.inRound l) m Tryz.prog (fun e _ W' => (e = .normal ∧ Kb w.heap.size W W' ∧ Kp W0.heap.size W W' ∧ I (pre ++ [t]) W') ∨ (e = xe ∧ Kb w.heap.size W W' ∧ Kp W0.heap.size W W' ∧ Ix W')) a' W)
    (hfault : ∀ m l N c p a' W0 W, A tok0 (fv N) a' W → w.heap.size ≤ l → (∃ r, W0.heap[l]? = some (.loop r)) → Lk l W0 W → I (scanT s).1 W0 → (scanT s).2 = some (c, p) → Flt W N c p → W0.heap.size ≤ N → body.wpIn (Fence.wide.inRound l) m Tryz.prog (fun e _ W' => (e = .normal ∧ Kb w.heap.size W W' ∧ If W') ∨ (e = xe ∧ Kb w.heap.size W W' ∧ Ix W')) a' W)
    (hdone : ∀ D W, w.heap.size ≤ D → I (scanT s).1 W → (scanT s).2 = none → W.heap[D]? = some (.deferred (some [])) → Q .normal { a with defers := { target := .collected D, args := #[] } :: a.defers } W)
    (hdonef : ∀ D W, w.heap.size ≤ D → If W → W.heap[D]? = some (.deferred (some [])) → Q .normal { a with defers := { target := .collected D, args := #[] } :: a.defers } W)
    (hstop : ∀ D W, w.heap.size ≤ D → Ix W → W.heap[D]? = some (.deferred (some [])) → xc.wpIn Fence.wide n Tryz.prog Q { a with defers := { target := .collected D, args := #[] } :: a.defers } W) :
    (Code.rangeFunc gf ps assign body).wpIn Fence.wide n Tryz.prog Q a w :=
  eachP hn X s xe xc hxe hg hps hX I If Ix hV h0 hput hputf hputx A hA hassign (fun m l pre t a' W0 W h1 h2 h3 _ h4 h5 h6 => hbody m l pre t a' W0 W h1 h2 h3 h4 h5 h6) (fun m l N c p a' W0 W h1 h2 h3 _ h4 h5 h6 h7 h8 => hfault m l N c p a' W0 W h1 h2 h3 h4 h5 h6 h7 h8) hdone hdonef hstop
end Go.Proofs.YtlhlpamciafocaaGreatDoor.L
namespace Go.Proofs.YtlhlpamciafocaaGreatDoor.L
open Go.RowKit Go.Shelf
set_option linter.unusedVariables false
attribute [local go_sem] Oper.semAt_some
theorem scan_len (s : ByteArray) : ∀ (n k : Nat), s.size - k = n → k ≤ s.size → (scanS s k).1.length + k ≤ s.size + 1 := by
  intro n
  induction n using Nat.strongRecOn with
  | ind n ih =>
    intro k hn hk
    by_cases hl : gapS s k < s.size
    · cases ht : tokS s (gapS s k) with
      | bad c a => rw [scan_bad hl ht]; simp; omega
      | ok t =>
        rw [scan_go hl ht]
        have h1 := tok_in hl ht
        have h2 := gapS_ge s k
        have := ih (s.size - t.e) (by omega) t.e rfl h1.2.2
        simp
        omega
    · rw [scan_fin hl]
      simp
      omega
theorem scanT_len (s : ByteArray) : (scanT s).1.length ≤ 4097 := by
  unfold scanT
  split
  · have := scan_len s _ 0 rfl (Nat.zero_le _)
    omega
  · simp
def cellsT (l : List Tok) : List Value := l.flatMap fun t => [.int .i64 t.kind, .string t.text, .int .i64 t.num, .int .i64 t.a, .int .i64 t.e]
theorem cellsT_snoc (l : List Tok) (t : Tok) : cellsT (l ++ [t]) = cellsT l ++ [.int .i64 t.kind, .string t.text, .int .i64 t.num, .int .i64 t.a, .int .i64 t.e] := by simp [cellsT]
theorem infoT : (Tryz.prog.info? 80).map (fun i => (i.zero, i.size, i.bytes)) = some (some (.agg #[.int .i64 0, .string ByteArray.empty, .int .i64 0, .int .i64 0, .int .i64 0]), 5, 48) := by kernel_rfl
/-- A row of tokens of one's own. -/
def OwnT (W : World) (base : Nat) (v : Value) (l : List Tok) : Prop := W.ownsRow base 80 5 v l.length (cellsT l)
theorem ownt_block {w : World} {base : Nat} {v : Value} {l : List Tok} (h : OwnT w base v l) : ∀ k, v.ownBlock = some k → base ≤ k ∧ k < w.heap.size := by
  intro k e
  rcases h.2 with ⟨e', _⟩ | ⟨g, cap, cur, e', hb, hg, _⟩
  · rw [e'] at e; cases e
  · rw [e'] at e; cases e; exact ⟨hb, lt_blk hg⟩
theorem row_mono {W : World} {base base' : Nat} {e : TypeId} {size : Nat} {v : Value} {k : Nat} {xs : List Value} (h : W.ownsRow base e size v k xs) (hb : base' ≤ base) : W.ownsRow base' e size v k xs := by
  obtain ⟨h1, h2⟩ := h
  refine ⟨h1, ?_⟩
  rcases h2 with h | ⟨g, cap, cur, hv, hg, r⟩
  · exact Or.inl h
  · exact Or.inr ⟨g, cap, cur, hv, Nat.le_trans hb hg, r⟩
theorem cell_five_new (w : World) (a b c d e : Value) (t : TypeId) : ∀ (j : Nat) (u : Value), [a, b, c, d, e][j]? = some u → (w.alloc (.cells #[a, b, c, d, e] t)).cell? ((⟨w.heap.size, 0, none⟩ : Addr).add j) = some u := by
  intro j u h
  rw [Go.WideShapes.add_plain]
  rw [cell_of_row (w.alloc (.cells #[a, b, c, d, e] t)) w.heap.size (0 + j) _ _ _ (heap_alloc_new w _)]
  simpa using h
/-- What stands while Scan walks. -/
structure Sc (w : World) (base : Nat) (v : Value) (pre : List Tok) (W : World) : Prop where
  box : Boxed W (w.heap.size + 1 + 1) 57 v
  row : OwnT W base v pre
  r0 : Boxed W w.heap.size 57 (.slice none 0 0)
  r1 : Boxed W (w.heap.size + 1) 27 .nilIface
  low : Below w.heap.size w W
  size : base ≤ W.heap.size
theorem boxed_put {W : World} {B : Nat} {t : TypeId} {v : Value} {l : Nat} {r : Loop} {o : Obj} (h : Boxed W B t v) (hl : W.heap[l]? = some (.loop r)) : Boxed (W.putObj l o) B t v := by
  unfold Boxed at h ⊢
  rw [World.putObj_heap_other (by intro e; rw [e, hl] at h; cases h)]
  exact h
theorem below_putL {W : World} {B l : Nat} {o : Obj} (hb : B ≤ l) : Below B W (W.putObj l o) :=
  ⟨rfl, rfl, rfl, by rw [World.putObj_size]; exact Nat.le_refl _, fun k hk => World.putObj_heap_other (by omega)⟩
theorem Sc.put {w W : World} {base : Nat} {v : Value} {pre : List Tok} {l : Nat} {r r' : Loop} (h : Sc w base v pre W) (hb : w.heap.size ≤ l) (hl : W.heap[l]? = some (.loop r)) : Sc w base v pre (W.putObj l (.loop r')) :=
  ⟨boxed_put h.box hl, ownsRow_putObj h.row _ hl rfl, boxed_put h.r0 hl, boxed_put h.r1 hl, h.low.trans (below_putL hb), by rw [World.putObj_size]; exact h.size⟩
theorem boxed_lk {W W' : World} {B : Nat} {t : TypeId} {v : Value} {l : Nat} (h : Boxed W B t v) (hk : Lk l W W') (hl : B ≠ l) : Boxed W' B t v := (hk.block B h.lt hl).trans h
theorem boxed_low {W W' : World} {B : Nat} {t : TypeId} {v : Value} (h : Boxed W B t v) (hk : Below W.heap.size W W') : Boxed W' B t v := (hk.block B h.lt).trans h
theorem Sc.lk {w W W' : World} {base : Nat} {v : Value} {pre : List Tok} {l : Nat} (h : Sc w base v pre W) (hk : Lk l W W') (hb : base ≤ l) (hbw : w.heap.size + 1 + 1 < base) (hl : ∃ r, W.heap[l]? = some (.loop r)) : Sc w base v pre W' := by
  obtain ⟨h1, h2, h3, h4, h5, h6⟩ := h
  obtain ⟨r, hl⟩ := hl
  refine ⟨boxed_lk h1 hk (by omega), ?_, boxed_lk h3 hk (by omega), boxed_lk h4 hk (by omega), ⟨hk.os.trans h5.os, hk.tape.trans h5.tape, hk.output.trans h5.output, Nat.le_trans h5.size hk.size, fun k hkl => (hk.block k (by have := h5.size; omega) (by omega)).trans (h5.block k hkl)⟩, Nat.le_trans h6 hk.size⟩
  refine World.ownsRow.kept (row := some l) h2 ⟨hk.os, hk.tape, hk.output, hk.size, fun k hkl hne => hk.block k hkl (fun e => hne (by rw [e]))⟩ ?_
  rcases h2.2 with ⟨rfl, _⟩ | ⟨g, cap, cur, rfl, _, hgb, _⟩
  · exact .inl rfl
  · refine .inr fun e' => ?_
    obtain rfl : g = l := by simpa [Value.ownBlock] using e'
    rw [hgb] at hl
    cases hl
theorem Sc.below {w W W' : World} {base : Nat} {v : Value} {pre : List Tok} (h : Sc w base v pre W) (hk : Below W.heap.size W W') : Sc w base v pre W' :=
  ⟨boxed_low h.box hk, World.ownsRow.kept (row := none) h.row ⟨hk.os, hk.tape, hk.output, hk.size, fun k hkl _ => hk.block k hkl⟩ (by cases v.ownBlock <;> simp), boxed_low h.r0 hk, boxed_low h.r1 hk, h.low.trans (hk.mono h.low.size), Nat.le_trans h.size hk.size⟩
theorem Kb.others {base : Nat} {W W' : World} (h : KeepsOthers W W') : Kb base W W' := ⟨h.size, fun k o _ h1 h2 => h.same k o h1 (by cases o <;> first | rfl | cases h2)⟩
theorem results_cells {fn : Func} {p u : Tmp} {t1 t2 : TypeId} (h : fn.results = #[.cell p t1, .cell u t2]) (tmps : Array Value) (P : Program) (w : World) :
    (results fn tmps).run P w = ((asAddr (tmps.getD p undef)).run P w).andThen fun a w₁ => ((loadVar t1 a).run P w₁).andThen fun v w₂ => ((asAddr (tmps.getD u undef)).run P w₂).andThen fun b w₃ => ((loadVar t2 b).run P w₃).andThen fun x w₄ => .ok (.tuple #[v, x]) w₄ := by
  simp only [results, h]
  simp [Sem.run_bind, Result.andThen]
set_option maxHeartbeats 4000000 in
theorem scan_any (s : ByteArray) (w : World) (hv : Vars w) : Calls Tryz.prog 22 #[.string s] w fun e w' => Below w.heap.size w w' ∧
    ((∃ v, (scanT s).2 = none ∧ e = .returned (.tuple #[v, .nilIface]) ∧ OwnT w' w.heap.size v (scanT s).1) ∨
     (∃ N c a, (scanT s).2 = some (c, a) ∧ e = .returned (.tuple #[.slice none 0 0, fv N]) ∧ Flt w' N c a ∧ w.heap.size ≤ N)) := by
  obtain ⟨i0, hi, hz0, hz1, hz2⟩ := info_parts infoT
  have HE := hid (fun W => each_any s W)
  have HTL := hid (scanT_len s)
  refine (callsIn_wide (n := 3)).1 ?_
  refine callsIn_of_wp_marks Tryz.func22 rfl trivial ?_ rfl
  simp only [Tryz.ntmps22, List.size_toArray, List.length_cons, List.length_nil, Nat.reduceAdd, Nat.reduceSub, Array.replicate_succ, Array.replicate_zero, List.push_toArray, List.append_toArray, List.nil_append, List.cons_append]
  gi_wp2_with (refine ⟨trivial, ?_⟩; gi_at_call 32; refine (callsIn_wide.2 (HE.out _)).mono ?_; rintro e w1 ⟨rfl, hx, hb⟩)
  have hz3 : (((w.alloc (.cells #[.slice none 0 0] 57)).alloc (.cells #[.nilIface] 27)).alloc (.cells #[.slice none 0 0] 57)).heap.size = w.heap.size + 1 + 1 + 1 := by simp
  rw [hz3] at hx
  have hlt := lt_blk hx
  have S0 : Sc w w1.heap.size (.slice none 0 0) [] w1 := by
    have b0 := belowA w (.cells #[.slice none 0 0] 57)
    have b1 := belowA (w.alloc (.cells #[.slice none 0 0] 57)) (.cells #[.nilIface] 27)
    have b2 := belowA ((w.alloc (.cells #[.slice none 0 0] 57)).alloc (.cells #[.nilIface] 27)) (.cells #[.slice none 0 0] 57)
    refine ⟨?_, World.ownsRow_nil _ _ _ _, ?_, ?_, ?_, Nat.le_refl _⟩
    · have := Boxed.new ((w.alloc (.cells #[.slice none 0 0] 57)).alloc (.cells #[.nilIface] 27)) 57 (.slice none 0 0)
      have := boxed_low this hb
      simpa using this
    · exact boxed_low (boxed_low (boxed_low (Boxed.new w _ _) b1) b2) hb
    · have := boxed_low (boxed_low (Boxed.new (w.alloc (.cells #[.slice none 0 0] 57)) 27 .nilIface) b2) hb
      simpa using this
    · exact ((b0.trans (b1.mono (by simp))).trans (b2.mono (by simp; omega))).trans (hb.mono (by rw [hz3]; omega))
  rw [hz3] at hb
  clear hb
  refine eachO (n := 3) (by decide) (w.heap.size + 1 + 1 + 1) s .ret .ret (.inl ⟨rfl, rfl⟩) (by first | rfl | simp [eachB]) rfl hx
    (fun pre W => ∃ v, Sc w w1.heap.size v pre W) (fun _ => False)
    (fun W => Below w.heap.size w W ∧ Boxed W w.heap.size 57 (.slice none 0 0) ∧ ∃ N c a, (scanT s).2 = some (c, a) ∧ Boxed W (w.heap.size + 1) 27 (fv N) ∧ Flt W N c a ∧ w.heap.size ≤ N)
    (fun pre W ⟨v, h⟩ => hv.low h.low) (fun W' h => ⟨_, S0.below h⟩)
    (fun pre W l r r' ⟨v, h⟩ h1 h2 => ⟨v, h.put (by omega) h2⟩) (fun _ _ _ _ h => h.elim)
    (fun W l r r' ⟨h1, h2, N, c, a, h3, h4, h5, h6⟩ h7 h8 => ⟨h1.trans (below_putL (by omega)), boxed_put h2 h8, N, c, a, h3, boxed_put h4 h8, (World.putObj_heap_other (by intro e; unfold Flt at h5; rw [e, h8] at h5; cases h5)).trans h5, h6⟩)
    (fun t v a' W => ∃ Bx, W.heap[Bx]? = some (.cells #[.int .i64 t.kind, .string t.text, .int .i64 t.num, .int .i64 t.a, .int .i64 t.e] 80 (0, 0)) ∧ a' = { tmps := #[.string s, undef, .pointer (some ⟨w.heap.size, 0, none⟩), .pointer (some ⟨w.heap.size + 1, 0, none⟩), .pointer (some ⟨w.heap.size + 1 + 1, 0, none⟩), .pointer (some ⟨Bx, 0, none⟩), v, .string s, eachB (w.heap.size + 1 + 1 + 1), tv t, v, undef, undef, undef, undef, undef, undef, undef, undef], defers := [] })
    ?_ ?assign ?body ?fault ?done ?donef ?stop
  · rintro t v a' W l r r' ⟨Bx, h1, h2⟩ h3
    exact ⟨Bx, (World.putObj_heap_other (by intro e; rw [e, h3] at h1; cases h1)).trans h1, h2⟩
  case assign =>
    rintro m l t v W K hz hK
    have HK := hid hK
    clear hK
    simp only [tv]
    gi_wp2
    exact HK.out _ _ ⟨W.heap.size, heap_alloc_new W _, rfl⟩ (belowA W _)
  case body =>
    rintro m l pre t a' W0 W ⟨Bx, hbx, rfl⟩ hl hlr hlk ⟨v, hi0⟩ hpre
    have S := hid (hi0.lk hlk hl (by omega) hlr)
    have own0 := hid (ownt_block hi0.row)
    have hT0 : w.heap.size + 1 + 1 < W0.heap.size := hi0.box.lt
    have hWz := hlk.size
    have hn0 : w1.heap.size ≤ W0.heap.size := hi0.size
    have hlen : pre.length + 1 ≤ 4097 := by
      have := hpre.length_le
      rw [List.length_append] at this
      exact Nat.le_trans this HTL.out
    clear hlk hlr hi0 hpre S0
    have ⟨d0, d1, d2, d3, d4⟩ := tcells hbx
    have hc := S.out.box.cell
    have hf := S.out.box.frozen
    have HR := hid S.out.row
    clear hbx
    obtain ⟨xk, xo, xn, xh, xs⟩ := t
    simp only at d0 d1 d2 d3 d4
    unfold OwnT at HR
    gi_wp2_with (gi_at_builtin; refine wpListIn_append_own _ rfl _ _ 57 rfl w1.heap.size 80 i0 (.agg #[.int .i64 0, .string ByteArray.empty, .int .i64 0, .int .i64 0, .int .i64 0]) 5 48 Tryz.underlying57 hi hz0 hz1 hz2 rfl (by decide) _ _ _ rfl (HR.out.alloc _) ⟨W.heap.size, 0, none⟩ 1 1 [.int .i64 xk, .string xo, .int .i64 xn, .int .i64 xh, .int .i64 xs] rfl rfl (cell_five_new _ _ _ _ _ _ _) (fun x hx => by simp at hx; rcases hx with rfl | rfl | rfl | rfl | rfl <;> rfl) (by unfold maxLen; omega) (by omega) (by simp; omega) ?_; intro v' w2 hown' hgrow hnil; obtain ⟨g', cap', rfl⟩ := ownsRow_succ hown'; obtain ⟨hv1, hv2, hr2, hk2, hb2⟩ := S.out.box.appended (by decide) (row_mono HR.out (show w.heap.size ≤ w1.heap.size by omega)) (by omega) (by omega) (row_mono hown' (show w.heap.size ≤ w1.heap.size by omega)) hgrow; have hc1 := hv1.cell; have hf1 := hv1.frozen)
    have same : ∀ k, k < W.heap.size → k ≠ w.heap.size + 1 + 1 → (k < w1.heap.size ∨ W0.heap.size ≤ k) → (w2.setCell ⟨w.heap.size + 1 + 1, 0, none⟩ (.slice (some ⟨g', 0, none⟩) (pre.length + 1) cap')).heap[k]? = W.heap[k]? := by
      intro k h1 h2 h3
      rw [Below.heap_setCell _ _ _ k h2, hgrow.block k (by simp; omega) (by intro e; have := own0.out k e.symm; omega), Below.heap_alloc _ _ _ h1]
    refine ⟨Kb.others hk2, ⟨hk2.size, fun k h1 h2 => same k h2 (by omega) (.inr h1)⟩, ⟨_, hv2, ?_, (same _ S.out.r0.lt (by omega) (.inl (by omega))).trans S.out.r0, (same _ S.out.r1.lt (by omega) (.inl (by omega))).trans S.out.r1, S.out.low.trans hb2, Nat.le_trans S.out.size hk2.size⟩⟩
    unfold OwnT
    rw [cellsT_snoc, List.length_append]
    exact hown'.kept (grownBy_setCell' w2 (w.heap.size + 1 + 1) _) (.inr (hv1.not_row (by decide) hown').symm)
  case fault =>
    rintro m l N c p a' W0 W ⟨Bx, hbx, rfl⟩ hl hlr hlk ⟨v, hi0⟩ hsc hflt hN
    have S := hid (hi0.lk hlk hl (by omega) hlr)
    have HF := hid hflt
    have HSC := hid hsc
    have hn0 : w1.heap.size ≤ W0.heap.size := hi0.size
    clear hlk hlr hi0 hsc hflt S0 hbx
    have c0 := S.out.r0.cell
    have f0 := S.out.r0.frozen
    have c1 := S.out.r1.cell
    have f1 := S.out.r1.frozen
    unfold fv
    gi_wp2
    refine ⟨?_, ?_⟩
    · exact Kb.trans (Kb.others (KeepsOthers.setCell _ _ _)) (Kb.others (KeepsOthers.setCell _ _ _))
    · refine ⟨S.out.low.trans (below_set (below_set (Below.refl _ _) _ _ _ (Nat.le_refl _)) _ _ _ (by omega)), ?_, N, c, p, HSC.out, ?_, ?_, by omega⟩
      · exact (block_set _ _ _ _ _ (by omega)).trans (S.out.r0.set _)
      · exact Boxed.set _ (show Boxed _ (w.heap.size + 1) 27 .nilIface from (block_set _ _ _ _ _ (by omega)).trans S.out.r1)
      · exact (block_set _ _ _ _ _ (by omega)).trans ((block_set _ _ _ _ _ (by omega)).trans HF.out)
  case done =>
    rintro D W hD ⟨v, S⟩ hsc hK
    have HS := hid S
    have HSC := hid hsc
    have HKD := hid hK
    have c0 := S.r0.cell
    have f0 := S.r0.frozen
    have c1 := S.r1.cell
    have f1 := S.r1.frozen
    have c2 := S.box.cell
    clear S hsc hK S0
    obtain ⟨va, vn, vc, rfl⟩ : ∃ a n c, v = .slice a n c := by
      rcases HS.out.row.2 with ⟨e, _⟩ | ⟨g, cap, cur, e, _⟩
      · exact ⟨_, _, _, e⟩
      · exact ⟨_, _, _, e⟩
    gi_wp2
    have b0 : Boxed ((W.setCell ⟨w.heap.size, 0, none⟩ (.slice va vn vc)).setCell ⟨w.heap.size + 1, 0, none⟩ .nilIface) w.heap.size 57 (.slice va vn vc) := (block_set _ _ _ _ _ (by omega)).trans (HS.out.r0.set _)
    have b1 : Boxed ((W.setCell ⟨w.heap.size, 0, none⟩ (.slice va vn vc)).setCell ⟨w.heap.size + 1, 0, none⟩ .nilIface) (w.heap.size + 1) 27 .nilIface := Boxed.set _ (show Boxed _ (w.heap.size + 1) 27 .nilIface from (block_set _ _ _ _ _ (by omega)).trans HS.out.r1)
    have hkd : ((W.setCell ⟨w.heap.size, 0, none⟩ (.slice va vn vc)).setCell ⟨w.heap.size + 1, 0, none⟩ .nilIface).heap[D]? = some (.deferred (some [])) := (block_set _ _ _ _ _ (by omega)).trans ((block_set _ _ _ _ _ (by omega)).trans HKD.out)
    have hbl : Below w.heap.size W ((W.setCell ⟨w.heap.size, 0, none⟩ (.slice va vn vc)).setCell ⟨w.heap.size + 1, 0, none⟩ .nilIface) := below_set (below_set (Below.refl _ _) _ _ _ (Nat.le_refl _)) _ _ _ (by omega)
    have hrow : OwnT ((W.setCell ⟨w.heap.size, 0, none⟩ (.slice va vn vc)).setCell ⟨w.heap.size + 1, 0, none⟩ .nilIface) w1.heap.size (.slice va vn vc) (scanT s).1 := by
      have ho := ownt_block HS.out.row
      have h1 : OwnT (W.setCell ⟨w.heap.size, 0, none⟩ (.slice va vn vc)) w1.heap.size (.slice va vn vc) (scanT s).1 := World.ownsRow.kept HS.out.row (grownBy_setCell' _ _ _) (.inr (fun e => by have := ho _ e; omega))
      exact World.ownsRow.kept h1 (grownBy_setCell' _ _ _) (.inr (fun e => by have := ho _ e; omega))
    generalize (W.setCell ⟨w.heap.size, 0, none⟩ (.slice va vn vc)).setCell ⟨w.heap.size + 1, 0, none⟩ .nilIface = V at *
    refine ⟨by simp, .inl ⟨_, _, rfl, run_takeDeferred hkd, ?_⟩⟩
    have b0' : Boxed (V.putObj D (.deferred none)) w.heap.size 57 (.slice va vn vc) := (World.putObj_heap_other (by omega)).trans b0
    have b1' : Boxed (V.putObj D (.deferred none)) (w.heap.size + 1) 27 .nilIface := (World.putObj_heap_other (by omega)).trans b1
    have c0 := b0'.cell
    have c1 := b1'.cell
    refine ⟨.tuple #[.slice va vn vc, .nilIface], ?_, (HS.out.low.trans hbl).trans (below_putL (by omega)), .inl ⟨_, HSC.out, rfl, row_mono (ownsRow_putObj hrow _ hkd rfl) (by omega)⟩⟩
    rw [results_cells rfl]
    go_simp
  case donef => exact fun D W _ h => h.elim
  case stop =>
    rintro D W hD ⟨hB, h0, N, c, a, hsc, h1, hf, hN⟩ hK
    have b0' : Boxed (W.putObj D (.deferred none)) w.heap.size 57 (.slice none 0 0) := (World.putObj_heap_other (by omega)).trans h0
    have b1' : Boxed (W.putObj D (.deferred none)) (w.heap.size + 1) 27 (fv N) := (World.putObj_heap_other (by omega)).trans h1
    have f' : Flt (W.putObj D (.deferred none)) N c a := (World.putObj_heap_other (by intro e; unfold Flt at hf; rw [e, hK] at hf; cases hf)).trans hf
    have bl : Below w.heap.size w (W.putObj D (.deferred none)) := hB.trans (below_putL (by omega))
    have c0 := b0'.cell
    have c1 := b1'.cell
    unfold fv at c1
    clear hB h0 h1 hf S0
    gi_wp2
    refine ⟨by simp, .inl ⟨_, _, rfl, run_takeDeferred hK, ?_⟩⟩
    refine ⟨.tuple #[.slice none 0 0, fv N], ?_, bl, .inr ⟨N, c, a, hsc, rfl, f', hN⟩⟩
    rw [results_cells rfl]
    unfold fv
    go_simp
end Go.Proofs.YtlhlpamciafocaaGreatDoor.L
