import Derived.Test.YtkagdmhijjfnnaaDoorMgAU
namespace Go.Proofs.YtkagdmhijjfnnaaDoor
open Go.RowKit Go.Shelf Bs
set_option linter.unusedVariables false
attribute [local go_sem] Oper.semAt_some
/-- A block in which a loop keeps its books. -/
def isBk : Obj → Bool
  | .loop _ => true
  | .deferred _ => true
  | _ => false
/-- The books from base on lie as they lay. -/
structure Kb (base : Nat) (W W' : World) : Prop where
  size : W.heap.size ≤ W'.heap.size
  same : ∀ k o, base ≤ k → W.heap[k]? = some o → isBk o = true → W'.heap[k]? = some o
theorem Kb.trans {base : Nat} {A B C : World} (h : Kb base A B) (k : Kb base B C) : Kb base A C := ⟨Nat.le_trans h.size k.size, fun j o hj h1 h2 => k.same j o hj (h.same j o hj h1 h2) h2⟩
theorem Kb.refl (base : Nat) (A : World) : Kb base A A := ⟨Nat.le_refl _, fun _ _ _ h _ => h⟩
theorem Kb.low {base : Nat} {W W' : World} (h : Below W.heap.size W W') : Kb base W W' := ⟨h.size, fun k o _ h1 _ => (h.block k (lt_of_block h1)).trans h1⟩
theorem Kb.chg {base q : Nat} {W W' : World} (h : Chg q W W') (hq : ∀ o, W.heap[q]? = some o → isBk o = false) : Kb base W W' :=
  ⟨h.size, fun k o _ h1 h2 => (h.block k (lt_of_block h1) (fun c => by rw [c] at h1; rw [hq o h1] at h2; cases h2)).trans h1⟩
theorem md_put {W : World} {L : List Nat} {l : Nat} {o' : Obj} (h : l ∉ L) : Md L W (W.putObj l o') :=
  ⟨by simp, fun k hk => World.putObj_heap_other (fun e => h (e ▸ hk))⟩
/-- A walk over All's func; its body runs to its end or leaves. -/
theorem walkO {n : Nat} (hn : 2 ≤ n) {gf : Operand} {ps : Array Tmp} {assign body : Code} {Q : Exit → Act → World → Prop} {a : Act} {w : World} (X g cap eid : Nat) (ws : List Nat) (hl : ws.length ≤ 1024) (wd : Wd ws)
    (hg : a.eval gf = allB X) (hps : ps.size = 1) (hb : Wb w X g (.slice (some ⟨g, 0, none⟩) ws.length cap) ws) (hX : X < w.heap.size) (hgl : g < w.heap.size)
    (I Ix : List Int → World → Prop) (hlow : ∀ pre W W', I pre W → Below W.heap.size W W' → I pre W')
    (hput : ∀ pre W l r r', I pre W → w.heap.size ≤ l → W.heap[l]? = some (.loop r) → I pre (W.putObj l (.loop r')))
    (hputx : ∀ pre W l r r', Ix pre W → w.heap.size ≤ l → W.heap[l]? = some (.loop r) → Ix pre (W.putObj l (.loop r')))
    (h0 : I [] w) (A : Int → Act → World → Prop) (hA : ∀ x a' W l r r', A x a' W → W.heap[l]? = some (.loop r) → A x a' (W.putObj l (.loop r')))
    (hassign : ∀ l x W K, w.heap.size ≤ W.heap.size → (∀ a' W', A x a' W' → Below W.heap.size W W' → K a' W') → assign.wpIn (Fence.wide.inRound l) (n - 1 - 1) Tryd.prog (Exit.then K (fun _ _ _ => False)) { tmps := (ps.zip #[Value.int .i64 x]).foldl (fun t (p, v) => t.setIfInBounds p v) a.tmps, defers := [] } W)
    (hbody : ∀ l pre x a' W, A x a' W → w.heap.size ≤ l → (∃ r, W.heap[l]? = some (.loop r)) → I pre W → pre ++ [x] <+: msL ws.length ws → body.wpIn (Fence.wide.inRound l) (n - 1 - 1) Tryd.prog (fun e _ W' => (e = .normal ∧ Kb w.heap.size W W' ∧ Md [X, g, 0] W W' ∧ I (pre ++ [x]) W') ∨ (e = .exit eid ∧ Kb w.heap.size W W' ∧ Ix (pre ++ [x]) W')) a' W)
    (hdone : ∀ D W, w.heap.size ≤ D → I (msL ws.length ws) W → W.heap[D]? = some (.deferred (some [])) → Q .normal { a with defers := { target := .collected D, args := #[] } :: a.defers } W)
    (hstop : ∀ D pre W, w.heap.size ≤ D → pre <+: msL ws.length ws → Ix pre W → W.heap[D]? = some (.deferred (some [])) → (Code.exit eid).wpIn Fence.wide n Tryd.prog Q { a with defers := { target := .collected D, args := #[] } :: a.defers } W) :
    (Code.rangeFunc gf ps assign body).wpIn Fence.wide n Tryd.prog Q a w := by
  have hz : 0 < w.heap.size := by omega
  refine wpIn_rangeFunc ?_
  intro fn hfn
  obtain ⟨rc, hrc⟩ : ∃ rc : LoopState → Option Code → Loop, rc = fun s p => { state := s, pending := p, fn, tmps := a.tmps, params := ps, assign, body, defers := w.heap.size } := ⟨_, rfl⟩
  obtain ⟨V, hV⟩ : ∃ V, V = (w.alloc (.deferred (some []))).alloc (.loop (rc .ready none)) := ⟨_, rfl⟩
  have al : Below w.heap.size w V := by rw [hV]; exact ((Below.refl _ w).alloc (Nat.le_refl _) _).alloc (by simp) _
  have vd : V.heap[w.heap.size]? = some (.deferred (some [])) := by
    rw [hV]; exact (Below.heap_alloc _ _ _ (by simp)).trans (World.alloc_heap_new w _)
  have vl : V.heap[w.heap.size + 1]? = some (.loop (rc .ready none)) := by
    rw [hV]
    have := World.alloc_heap_new (w.alloc (.deferred (some []))) (.loop (rc .ready none))
    rwa [World.size_alloc] at this
  have md : Md [X, g, 0] w V := ⟨al.size, fun k hk => al.block k (by simp at hk; omega)⟩
  have nin : w.heap.size + 1 ∉ [X, g, 0] := by simp; omega
  refine ⟨w.heap.size + 1, [{ target := .collected w.heap.size, args := #[] }], V, { target := .fn (.func 64) #[.pointer (some ⟨X, 0, none⟩)], args := #[.func (.yield (w.heap.size + 1)) #[] #[]] }, V, 64,
    #[.func (.yield (w.heap.size + 1)) #[] #[], .pointer (some ⟨X, 0, none⟩)], V, ?_, ?_, fun f' _ => trivial, ?_, fun _ => by omega, ?_⟩
  · rw [hV, hrc]
    exact run_enterLoop_outer _ _ _ _ _
  · simp only [resolve, hg, allB]
    simp [go_sem]
  · simp [invoke, go_sem]
  · refine (bit_px (n - 1) (by omega) (w.heap.size + 1) X g cap ws hl wd
      (fun pre W => I pre W ∧ W.heap[w.heap.size + 1]? = some (.loop (rc .ready none)) ∧ W.heap[w.heap.size]? = some (.deferred (some [])))
      (fun pre W => Ix pre W ∧ W.heap[w.heap.size + 1]? = some (.loop (rc .done (some (.exit eid)))) ∧ W.heap[w.heap.size]? = some (.deferred (some [])))
      ?_ V (hb.md md) ⟨hlow _ _ _ h0 al, vl, vd⟩).mono ?_
    · rintro pre x W ⟨hi, hL, hD⟩ hlen
      have hlt := lt_of_block hL
      have hy := run_yield (P := Tryd.prog) (args := #[Value.int .i64 x]) hL (by rw [hrc]; simp [hps])
      rw [hrc] at hy
      refine ⟨fn, _, assign, body, hy, roundIn_of_wpIn hfn (hassign _ x W _ (by have := lt_of_block hL; omega) ?_)⟩
      intro a' W1 ha' hW1
      have mW1 : Md [X, g, 0] W W1 := ⟨hW1.size, fun k hk => hW1.block k (by simp only [List.mem_cons, List.not_mem_nil, or_false] at hk; omega)⟩
      replace hD := (hW1.block _ (lt_of_block hD)).trans hD
      replace hL := (hW1.block _ hlt).trans hL
      replace hi := hlow _ _ _ hi hW1
      replace hlt := lt_of_block hL
      clear hy
      refine ⟨_, run_beginRound hL (by rw [hrc]), ?_⟩
      have L2 : (W1.putObj (w.heap.size + 1) (.loop { rc .ready none with state := .busy })).heap[w.heap.size + 1]? = some (.loop { rc .ready none with state := .busy }) := World.putObj_heap_same hlt
      have D2 : (W1.putObj (w.heap.size + 1) (.loop { rc .ready none with state := .busy })).heap[w.heap.size]? = some (.deferred (some [])) := (World.putObj_heap_other (by omega)).trans hD
      refine wpIn_mono (hbody _ pre x a' _ (hA _ _ _ _ _ _ ha' hL) (by omega) ⟨_, L2⟩ (hput _ _ _ _ _ hi (by omega) hL) hlen) ?_
      rintro e a3 W3 (⟨rfl, hk, hm, hi3⟩ | ⟨rfl, hk, hi3⟩)
      · have L3 := hk.same _ _ (by omega) L2 rfl
        have D3 := hk.same _ _ (Nat.le_refl _) D2 rfl
        have hr := run_endRound (P := Tryd.prog) none L3
        refine ⟨_, _, hr, Or.inl ⟨rfl, ⟨hput _ _ _ _ _ hi3 (by omega) L3, ?_, (World.putObj_heap_other (by omega)).trans D3⟩, ?_⟩⟩
        · rw [World.putObj_heap_same (lt_of_block L3), hrc]
          rfl
        · exact (mW1.trans ((md_put nin).trans hm)).trans (md_put nin)
      · have L3 := hk.same _ _ (by omega) L2 rfl
        have D3 := hk.same _ _ (Nat.le_refl _) D2 rfl
        have hr := run_endRound (P := Tryd.prog) (some (.exit eid)) L3
        refine ⟨_, _, hr, Or.inr ⟨rfl, hputx _ _ _ _ _ hi3 (by omega) L3, ?_, (World.putObj_heap_other (by omega)).trans D3⟩⟩
        rw [World.putObj_heap_same (lt_of_block L3), hrc]
        rfl
    · rintro e W2 ⟨⟨v', rfl⟩, (⟨hi, hL, hD⟩ | ⟨pre, hp, hi, hL, hD⟩)⟩
      · have he := run_endLoop (P := Tryd.prog) hL (by rw [hrc]; simp)
        rw [hrc] at he
        exact ⟨none, _, he, hdone _ _ (Nat.le_refl _) (hput _ _ _ _ _ hi (by omega) hL) ((World.putObj_heap_other (by omega)).trans hD)⟩
      · have he := run_endLoop (P := Tryd.prog) hL (by rw [hrc]; simp)
        rw [hrc] at he
        exact ⟨some (.exit eid), _, he, hstop _ _ _ (Nat.le_refl _) hp (hputx _ _ _ _ _ hi (by omega) hL) ((World.putObj_heap_other (by omega)).trans hD)⟩
/-- A walk over All's func in a round of another walk; it may be left. -/
theorem walkN {n : Nat} (hn : 2 ≤ n) {l0 : Nat} {r0 : Loop} {gf : Operand} {ps : Array Tmp} {assign body : Code} {Q : Exit → Act → World → Prop} {a : Act} {w : World} (hl0 : w.heap[l0]? = some (.loop r0)) (X g cap eid : Nat) (ws : List Nat) (hl : ws.length ≤ 1024) (wd : Wd ws)
    (hg : a.eval gf = allB X) (hps : ps.size = 1) (hb : Wb w X g (.slice (some ⟨g, 0, none⟩) ws.length cap) ws) (hX : X < w.heap.size) (hgl : g < w.heap.size)
    (I Ix : List Int → World → Prop) (hlow : ∀ pre W W', I pre W → Below W.heap.size W W' → I pre W')
    (hput : ∀ pre W l r r', I pre W → w.heap.size ≤ l → W.heap[l]? = some (.loop r) → I pre (W.putObj l (.loop r')))
    (hputx : ∀ pre W l r r', Ix pre W → w.heap.size ≤ l → W.heap[l]? = some (.loop r) → Ix pre (W.putObj l (.loop r')))
    (h0 : I [] w) (A : Int → Act → World → Prop) (hA : ∀ x a' W l r r', A x a' W → W.heap[l]? = some (.loop r) → A x a' (W.putObj l (.loop r')))
    (hassign : ∀ l x W K, w.heap.size ≤ W.heap.size → (∀ a' W', A x a' W' → Below W.heap.size W W' → K a' W') → assign.wpIn ((Fence.wide.inRound l0).inRound l) (n - 1 - 1) Tryd.prog (Exit.then K (fun _ _ _ => False)) { tmps := (ps.zip #[Value.int .i64 x]).foldl (fun t (p, v) => t.setIfInBounds p v) a.tmps, defers := [] } W)
    (hbody : ∀ l pre x a' W, A x a' W → I pre W → pre ++ [x] <+: msL ws.length ws → body.wpIn ((Fence.wide.inRound l0).inRound l) (n - 1 - 1) Tryd.prog (fun e _ W' => (e = .normal ∧ Kb w.heap.size W W' ∧ Md [X, g, 0] W W' ∧ I (pre ++ [x]) W') ∨ (e = .exit eid ∧ Kb w.heap.size W W' ∧ Ix (pre ++ [x]) W')) a' W)
    (hdone : ∀ W, I (msL ws.length ws) W → Q .normal a W)
    (hstop : ∀ pre W, Ix pre W → (Code.exit eid).wpIn (Fence.wide.inRound l0) n Tryd.prog Q a W) :
    (Code.rangeFunc gf ps assign body).wpIn (Fence.wide.inRound l0) n Tryd.prog Q a w := by
  have hz : 0 < w.heap.size := by omega
  refine wpIn_rangeFunc ?_
  intro fn hfn
  obtain ⟨rc, hrc⟩ : ∃ rc : LoopState → Option Code → Loop, rc = fun s p => { state := s, pending := p, fn, tmps := a.tmps, params := ps, assign, body, defers := r0.defers } := ⟨_, rfl⟩
  obtain ⟨V, hV⟩ : ∃ V, V = w.alloc (.loop (rc .ready none)) := ⟨_, rfl⟩
  have al : Below w.heap.size w V := by rw [hV]; exact (Below.refl _ w).alloc (Nat.le_refl _) _
  have vl : V.heap[w.heap.size]? = some (.loop (rc .ready none)) := by
    rw [hV]
    exact World.alloc_heap_new w _
  have md : Md [X, g, 0] w V := ⟨al.size, fun k hk => al.block k (by simp at hk; omega)⟩
  have nin : w.heap.size ∉ [X, g, 0] := by
    intro h
    simp only [List.mem_cons, List.not_mem_nil, or_false] at h
    omega
  refine ⟨w.heap.size, [], V, { target := .fn (.func 64) #[.pointer (some ⟨X, 0, none⟩)], args := #[.func (.yield w.heap.size) #[] #[]] }, V, 64,
    #[.func (.yield w.heap.size) #[] #[], .pointer (some ⟨X, 0, none⟩)], V, ?_, ?_, fun f' _ => trivial, ?_, fun _ => by omega, ?_⟩
  · rw [hV, hrc]
    exact run_enterLoop_inner hl0 _ _ _ _ _
  · simp only [resolve, hg, allB]
    simp [go_sem]
  · simp [invoke, go_sem]
  · have it := bit_px (n - 1) (by omega) w.heap.size X g cap ws hl wd
      (fun pre W => I pre W ∧ W.heap[w.heap.size]? = some (.loop (rc .ready none))) (fun pre W => Ix pre W ∧ W.heap[w.heap.size]? = some (.loop (rc .done (some (.exit eid)))))
      ?_ V (hb.md md) ⟨hlow _ _ _ h0 al, vl⟩
    · refine CallsIn.mono (F := Fence.wide) it ?_
      rintro e W2 ⟨⟨v', rfl⟩, (⟨hi, hL⟩ | ⟨pre, _, hi, hL⟩)⟩
      · have he := run_endLoop (P := Tryd.prog) hL (by rw [hrc]; simp)
        rw [hrc] at he
        exact ⟨none, _, he, hdone _ (hput _ _ _ _ _ hi (Nat.le_refl _) hL)⟩
      · have he := run_endLoop (P := Tryd.prog) hL (by rw [hrc]; simp)
        rw [hrc] at he
        exact ⟨some (.exit eid), _, he, hstop _ _ (hputx _ _ _ _ _ hi (Nat.le_refl _) hL)⟩
    · rintro pre x W ⟨hi, hL⟩ hlen
      have hlt := lt_of_block hL
      have hy := run_yield (P := Tryd.prog) (args := #[Value.int .i64 x]) hL (by rw [hrc]; simp [hps])
      rw [hrc] at hy
      refine ⟨fn, _, assign, body, hy, roundIn_of_wpIn (F := Fence.wide.inRound l0) hfn (hassign _ x W _ (by have := lt_of_block hL; omega) ?_)⟩
      intro a' W1 ha' hW1
      have mW1 : Md [X, g, 0] W W1 := ⟨hW1.size, fun k hk => hW1.block k (by simp only [List.mem_cons, List.not_mem_nil, or_false] at hk; omega)⟩
      replace hL := (hW1.block _ hlt).trans hL
      replace hi := hlow _ _ _ hi hW1
      replace hlt := lt_of_block hL
      clear hy
      refine ⟨_, run_beginRound hL (by rw [hrc]), ?_⟩
      have L2 : (W1.putObj w.heap.size (.loop { rc .ready none with state := .busy })).heap[w.heap.size]? = some (.loop { rc .ready none with state := .busy }) := World.putObj_heap_same hlt
      refine wpIn_mono (hbody _ pre x a' _ (hA _ _ _ _ _ _ ha' hL) (hput _ _ _ _ _ hi (Nat.le_refl _) hL) hlen) ?_
      rintro e a3 W3 (⟨rfl, hk, hm, hi3⟩ | ⟨rfl, hk, hi3⟩)
      · have L3 := hk.same _ _ (Nat.le_refl _) L2 rfl
        have hr := run_endRound (P := Tryd.prog) none L3
        refine ⟨_, _, hr, Or.inl ⟨rfl, ⟨hput _ _ _ _ _ hi3 (Nat.le_refl _) L3, ?_⟩, ?_⟩⟩
        · rw [World.putObj_heap_same (lt_of_block L3), hrc]
          rfl
        · exact (mW1.trans ((md_put nin).trans hm)).trans (md_put nin)
      · have L3 := hk.same _ _ (Nat.le_refl _) L2 rfl
        have hr := run_endRound (P := Tryd.prog) (some (.exit eid)) L3
        refine ⟨_, _, hr, Or.inr ⟨rfl, hputx _ _ _ _ _ hi3 (Nat.le_refl _) L3, ?_⟩⟩
        rw [World.putObj_heap_same (lt_of_block L3), hrc]
        rfl
end Go.Proofs.YtkagdmhijjfnnaaDoor
