import Derived.Test.YtdhjoimiejdgbaaDoorWi2
namespace Go.Proofs.YtdhjoimiejdgbaaDoor.L
open Go.RowKit Go.Shelf Bs Go.Maps
set_option linter.unusedVariables false
attribute [local go_sem] Oper.semAt_some
set_option maxHeartbeats 4000000 in
set_option maxRecDepth 100000 in
theorem iter_px (n : Nat) (hn : 1 ≤ n) (l m0 n₀ X : Nat) (v : Value) (ss : List ByteArray) (hl : ss.length ≤ 65536) (J Jx : List Sn → World → Prop)
    (hJg : ∀ pre W W', J pre W → Below W.heap.size W W' → J pre W')
    (hY : ∀ pre x W, J pre W → pre ++ [x] <+: tk ss → YieldAt Fence.wide (n - 1) Tryd.prog l (dv x) W fun e W' =>
      (e = .returned (.bool true) ∧ J (pre ++ [x]) W' ∧ Mid m0 n₀ W W') ∨ (e = .returned (.bool false) ∧ Jx (pre ++ [x]) W'))
    (W : World) (hnW : n₀ ≤ W.heap.size) (h1 : W.cell? ⟨X, 0, none⟩ = some v) (s1 : SlS m0 n₀ W v ss) (h0 : J [] W) :
    CallsIn Fence.wide n Tryd.prog 77 #[.func (.yield l) #[] #[], .pointer (some ⟨X, 0, none⟩)] W fun e W' => (∃ v, e = .returned v) ∧
      ((∃ ys, ys = tk ss ∧ J ys W') ∨ (∃ pre, pre <+: tk ss ∧ Jx pre W')) := by
  have S1 := hid s1
  obtain ⟨a1, c1, rfl, sx⟩ := s1
  clear sx
  have HY := hid hY
  have HJG := hid hJg
  have H0 := hid h0
  obtain ⟨N, hN⟩ : ∃ N, N = ss.length := ⟨_, rfl⟩
  rw [← hN] at h1 hl S1
  have HNN := hid hN
  clear hY hJg h0 hN
  refine callsIn_wide.2 ?_
  go_enter Tryd.func77, Tryd.ntmps77
  go_wp2_with fail
  go_loopw [7] (fun i wr => ∃ k : Nat, k ≤ N ∧ i = .int .i64 k ∧ Hid (n₀ ≤ wr.heap.size) ∧ Hid (SlS m0 n₀ wr (.slice a1 N c1) ss) ∧ Hid (J (tkK ss k) wr)) (fun i _ => N - (intOf i).toNat)
  case atStart => exact ⟨0, Nat.zero_le _, rfl, hid hnW, S1, H0⟩
  case round =>
    clear h1 S1 H0
    obtain ⟨k, hk, rfl, HN, H1, HJ⟩ := hrel
    by_cases hlt : k < N
    · have hkl : k < ss.length := by rw [← HNN.out]; exact hlt
      obtain ⟨a, cap, ev, hh⟩ := H1.out
      injection ev with ev ev2 ev3
      clear ev2
      subst ev ev3
      rcases hh with h0 | ⟨b, rfl, hb1, hb2, hc⟩
      · omega
      have hx := hc k hkl
      by_cases hs : (nmS ss k).size = 0
      · have es : nmS ss k = ⟨#[]⟩ := size_empty hs
        rw [es] at hx
        have HJ2 := hid (show J (tkK ss (k + 1)) wr by rw [tkK, if_pos hs, List.append_nil]; exact HJ.out)
        clear hc hs es
        go_wp2_with fail
        exact ⟨⟨k + 1, by omega, by go_num, HN, H1, HJ2⟩, by simp [intOf]; omega⟩
      · have es0 : ((nmS ss k).toList == []) = false := by rw [nil_size]; simpa using hs
        have es : ((nmS ss k).toList != []) = true := by simp [bne, es0]
        have en : ¬ (nmS ss k).toList = [] := fun e => by rw [e] at es0; cases es0
        have eE : (nmS ss k).toList.isEmpty = false := by
          cases h : (nmS ss k).toList with
          | nil => exact absurd h en
          | cons _ _ => rfl
        clear es0
        have ET := hid (show tkK ss (k + 1) = tkK ss k ++ [(k, nmS ss k)] by rw [tkK, if_neg hs])
        have HP := hid (show tkK ss k ++ [(k, nmS ss k)] <+: tk ss by rw [← ET.out]; exact tkK_tk ss (show k + 1 ≤ ss.length by omega))
        obtain ⟨fn, tmps, assign, body, hy, hR⟩ := HY.out (tkK ss k) (k, nmS ss k) wr HJ.out HP.out
        have HR := hid hR
        have hy2 : (Instr.yield l #[.int .i64 (k : Int), .string (nmS ss k)]).run Tryd.prog wr = .ok (.round l fn tmps assign body) wr := hy
        generalize nmS ss k = s at *
        clear hc hs hy hR
        go_upto_region 3 with fail
        refine (wpIn_wide (n := n)).1 ?_
        gi_wp2
        refine HR.out.mono ?_
        rintro e W2 (⟨rfl, hJ2, hk2⟩ | ⟨rfl, hJx2⟩)
        · have LW := hid hk2
          have HN2 := hid (Nat.le_trans HN.out LW.out.size)
          have HJ2 := hid (show J (tkK ss (k + 1)) W2 by rw [ET.out]; exact hJ2)
          have H2 := hid (H1.out.low LW.out)
          clear hJ2 hk2 HR hy2
          gi_wp2
          go_wp2_with fail
          exact ⟨⟨k + 1, by omega, by go_num, HN2, H2, HJ2⟩, by simp [intOf]; omega⟩
        · have HX := hid hJx2
          clear hJx2 HR hy2
          gi_wp2
          go_wp2_with fail
          refine bodyPost_ret (results_none rfl _ _ _) rfl ?_
          exact ⟨⟨_, rfl⟩, .inr ⟨tkK ss k ++ [(k, s)], HP.out, HX.out⟩⟩
    · obtain rfl : k = N := by omega
      go_wp2
      go_end0
      exact ⟨⟨_, rfl⟩, .inl ⟨tkK ss k, by unfold tk; rw [← HNN.out], HJ.out⟩⟩
/-- A walk over All's func whose body runs to its end each time, told which pair comes. -/
theorem all_walkP {n : Nat} (hn : 2 ≤ n) {g : Operand} {ps : Array Tmp} {assign body : Code} {Q : Exit → Act → World → Prop} {a : Act} {w : World} (b X : Nat) (v : Value) (ss : List ByteArray) (hl : ss.length ≤ 65536)
    (hg : a.eval g = allF X) (hps : ps.size = 2) (hX : w.cell? ⟨X, 0, none⟩ = some v) (hXl : X < w.heap.size) (hS : SlS b (b + 1) w v ss) (hb : b < w.heap.size)
    (I : List Sn → World → Prop) (hlow : ∀ pre W W', I pre W → Below W.heap.size W W' → I pre W')
    (hput : ∀ pre W l r r', I pre W → w.heap.size ≤ l → W.heap[l]? = some (.loop r) → I pre (W.putObj l (.loop r')))
    (h0 : I [] w) (a1 : Sn → Act)
    (hassign : ∀ l x W K, K (a1 x) W → assign.wpIn (Fence.wide.inRound l) (n - 1 - 1) Tryd.prog (Exit.then K (fun _ _ _ => False)) { tmps := (ps.zip (dv x)).foldl (fun t (p, v) => t.setIfInBounds p v) a.tmps, defers := [] } W)
    (hbody : ∀ l pre x W, w.heap.size ≤ l → (∃ r, W.heap[l]? = some (.loop r)) → I pre W → pre ++ [x] <+: tk ss → body.wpIn (Fence.wide.inRound l) (n - 1 - 1) Tryd.prog (fun e _ W' => e = .normal ∧ Kb w.heap.size W W' ∧ Mid b (b + 1) W W' ∧ I (pre ++ [x]) W') (a1 x) W)
    (hdone : ∀ D W, w.heap.size ≤ D → I (tk ss) W → W.heap[D]? = some (.deferred (some [])) → Q .normal { a with defers := { target := .collected D, args := #[] } :: a.defers } W) :
    (Code.rangeFunc g ps assign body).wpIn Fence.wide n Tryd.prog Q a w := by
  refine wpIn_rangeFunc ?_
  intro fn hfn
  obtain ⟨rc, hrc⟩ : ∃ rc : LoopState → Loop, rc = fun s => { state := s, pending := none, fn, tmps := a.tmps, params := ps, assign, body, defers := w.heap.size } := ⟨_, rfl⟩
  obtain ⟨V, hV⟩ : ∃ V, V = (w.alloc (.deferred (some []))).alloc (.loop (rc .ready)) := ⟨_, rfl⟩
  have al : Below w.heap.size w V := by rw [hV]; exact ((Below.refl _ w).alloc (Nat.le_refl _) _).alloc (by simp) _
  have vd : V.heap[w.heap.size]? = some (.deferred (some [])) := by
    rw [hV]; exact (Below.heap_alloc _ _ _ (by simp)).trans (World.alloc_heap_new w _)
  have vl : V.heap[w.heap.size + 1]? = some (.loop (rc .ready)) := by
    rw [hV]
    have := World.alloc_heap_new (w.alloc (.deferred (some []))) (.loop (rc .ready))
    rwa [World.size_alloc] at this
  have hbx : ∀ s, (w.heap.size + 1) ≠ b := fun _ => by omega
  refine ⟨w.heap.size + 1, [{ target := .collected w.heap.size, args := #[] }], V, { target := .fn (.func 77) #[.pointer (some ⟨X, 0, none⟩)], args := #[.func (.yield (w.heap.size + 1)) #[] #[]] }, V, 77,
    #[.func (.yield (w.heap.size + 1)) #[] #[], .pointer (some ⟨X, 0, none⟩)], V, ?_, ?_, fun f' _ => trivial, ?_, fun _ => by omega, ?_⟩
  · rw [hV, hrc]
    exact run_enterLoop_outer _ _ _ _ _
  · simp only [resolve, hg, allF]
    simp [go_sem]
  · simp [invoke, go_sem]
  · refine (iter_px (n - 1) (by omega) (w.heap.size + 1) b (b + 1) X v ss hl
      (fun pre W => I pre W ∧ W.heap[w.heap.size + 1]? = some (.loop (rc .ready)) ∧ W.heap[w.heap.size]? = some (.deferred (some []))) (fun _ _ => False)
      (fun pre W W' h hB => ⟨hlow pre W W' h.1 hB, (hB.block _ (lt_of_block h.2.1)).trans h.2.1, (hB.block _ (lt_of_block h.2.2)).trans h.2.2⟩)
      ?_ V (by have := al.size; omega) ((al.cell (p := ⟨X, 0, none⟩) hXl).trans hX) (hS.low (Mid.of al hb)) ⟨hlow _ _ _ h0 al, vl, vd⟩).mono ?_
    · rintro pre x W ⟨hi, hL, hD⟩ hlen
      have hlt := lt_of_block hL
      have hy := run_yield (P := Tryd.prog) (args := dv x) hL (by rw [hrc]; simp [dv, hps])
      rw [hrc] at hy
      refine ⟨fn, _, assign, body, hy, roundIn_of_wpIn hfn (hassign _ x W _ ?_)⟩
      refine ⟨_, run_beginRound hL (by rw [hrc]), ?_⟩
      have L2 : (W.putObj (w.heap.size + 1) (.loop { rc .ready with state := .busy })).heap[w.heap.size + 1]? = some (.loop { rc .ready with state := .busy }) := World.putObj_heap_same hlt
      have D2 : (W.putObj (w.heap.size + 1) (.loop { rc .ready with state := .busy })).heap[w.heap.size]? = some (.deferred (some [])) := (World.putObj_heap_other (by omega)).trans hD
      refine wpIn_mono (hbody _ pre x _ (by omega) ⟨_, L2⟩ (hput _ _ _ _ _ hi (by omega) hL) hlen) ?_
      rintro e a3 W3 ⟨rfl, hk, hm, hi3⟩
      have L3 := hk.same _ _ (by omega) L2 rfl
      have D3 := hk.same _ _ (Nat.le_refl _) D2 rfl
      have hr := run_endRound (P := Tryd.prog) none L3
      refine ⟨_, _, hr, Or.inl ⟨rfl, ⟨hput _ _ _ _ _ hi3 (by omega) L3, ?_, (World.putObj_heap_other (by omega)).trans D3⟩, ?_⟩⟩
      · rw [World.putObj_heap_same (lt_of_block L3), hrc]
        rfl
      · exact ((mid_put (by omega)).trans hm).trans (mid_put (by omega))
    · rintro e W2 ⟨⟨v', rfl⟩, (⟨ys, rfl, hi, hL, hD⟩ | ⟨_, _, h⟩)⟩
      · have he := run_endLoop (P := Tryd.prog) hL (by rw [hrc]; simp)
        rw [hrc] at he
        exact ⟨none, _, he, hdone _ _ (Nat.le_refl _) (hput _ _ _ _ _ hi (by omega) hL) ((World.putObj_heap_other (by omega)).trans hD)⟩
      · exact h.elim
/-- A walk over All's func in a round of another walk; it may be left. -/
theorem all_walkN {n : Nat} (hn : 2 ≤ n) {l0 : Nat} {r0 : Loop} {g : Operand} {ps : Array Tmp} {assign body : Code} {Q : Exit → Act → World → Prop} {a : Act} {w : World} (hl0 : w.heap[l0]? = some (.loop r0)) (b X eid : Nat) (v : Value) (ss : List ByteArray) (hl : ss.length ≤ 65536)
    (hg : a.eval g = allF X) (hps : ps.size = 2) (hX : w.cell? ⟨X, 0, none⟩ = some v) (hXl : X < w.heap.size) (hS : SlS b (b + 1) w v ss) (hb : b < w.heap.size)
    (I Ix : List Sn → World → Prop) (hlow : ∀ pre W W', I pre W → Below W.heap.size W W' → I pre W')
    (hput : ∀ pre W l r r', I pre W → w.heap.size ≤ l → W.heap[l]? = some (.loop r) → I pre (W.putObj l (.loop r')))
    (hputx : ∀ pre W l r r', Ix pre W → w.heap.size ≤ l → W.heap[l]? = some (.loop r) → Ix pre (W.putObj l (.loop r')))
    (h0 : I [] w) (a1 : Sn → Act)
    (hassign : ∀ l x W K, K (a1 x) W → assign.wpIn ((Fence.wide.inRound l0).inRound l) (n - 1 - 1) Tryd.prog (Exit.then K (fun _ _ _ => False)) { tmps := (ps.zip (dv x)).foldl (fun t (p, v) => t.setIfInBounds p v) a.tmps, defers := [] } W)
    (hbody : ∀ l pre x W, I pre W → pre ++ [x] <+: tk ss → body.wpIn ((Fence.wide.inRound l0).inRound l) (n - 1 - 1) Tryd.prog (fun e _ W' => (e = .normal ∧ Kb w.heap.size W W' ∧ Mid b (b + 1) W W' ∧ I (pre ++ [x]) W') ∨ (e = .exit eid ∧ Kb w.heap.size W W' ∧ Ix (pre ++ [x]) W')) (a1 x) W)
    (hdone : ∀ W, I (tk ss) W → Q .normal a W)
    (hstop : ∀ pre W, Ix pre W → (Code.exit eid).wpIn (Fence.wide.inRound l0) n Tryd.prog Q a W) :
    (Code.rangeFunc g ps assign body).wpIn (Fence.wide.inRound l0) n Tryd.prog Q a w := by
  refine wpIn_rangeFunc ?_
  intro fn hfn
  obtain ⟨rc, hrc⟩ : ∃ rc : LoopState → Option Code → Loop, rc = fun s p => { state := s, pending := p, fn, tmps := a.tmps, params := ps, assign, body, defers := r0.defers } := ⟨_, rfl⟩
  obtain ⟨V, hV⟩ : ∃ V, V = w.alloc (.loop (rc .ready none)) := ⟨_, rfl⟩
  have al : Below w.heap.size w V := by rw [hV]; exact (Below.refl _ w).alloc (Nat.le_refl _) _
  have vl : V.heap[w.heap.size]? = some (.loop (rc .ready none)) := by
    rw [hV]
    exact World.alloc_heap_new w _
  refine ⟨w.heap.size, [], V, { target := .fn (.func 77) #[.pointer (some ⟨X, 0, none⟩)], args := #[.func (.yield w.heap.size) #[] #[]] }, V, 77,
    #[.func (.yield w.heap.size) #[] #[], .pointer (some ⟨X, 0, none⟩)], V, ?_, ?_, fun f' _ => trivial, ?_, fun _ => by omega, ?_⟩
  · rw [hV, hrc]
    exact run_enterLoop_inner hl0 _ _ _ _ _
  · simp only [resolve, hg, allF]
    simp [go_sem]
  · simp [invoke, go_sem]
  · have it := iter_px (n - 1) (by omega) w.heap.size b (b + 1) X v ss hl
      (fun pre W => I pre W ∧ W.heap[w.heap.size]? = some (.loop (rc .ready none))) (fun pre W => Ix pre W ∧ W.heap[w.heap.size]? = some (.loop (rc .done (some (.exit eid)))))
      (fun pre W W' h hB => ⟨hlow pre W W' h.1 hB, (hB.block _ (lt_of_block h.2)).trans h.2⟩)
      ?_ V (by have := al.size; omega) ((al.cell (p := ⟨X, 0, none⟩) hXl).trans hX) (hS.low (Mid.of al hb)) ⟨hlow _ _ _ h0 al, vl⟩
    · refine CallsIn.mono (F := Fence.wide) it ?_
      rintro e W2 ⟨⟨v', rfl⟩, (⟨ys, rfl, hi, hL⟩ | ⟨pre, _, hi, hL⟩)⟩
      · have he := run_endLoop (P := Tryd.prog) hL (by rw [hrc]; simp)
        rw [hrc] at he
        exact ⟨none, _, he, hdone _ (hput _ _ _ _ _ hi (Nat.le_refl _) hL)⟩
      · have he := run_endLoop (P := Tryd.prog) hL (by rw [hrc]; simp)
        rw [hrc] at he
        exact ⟨some (.exit eid), _, he, hstop _ _ (hputx _ _ _ _ _ hi (Nat.le_refl _) hL)⟩
    · rintro pre x W ⟨hi, hL⟩ hlen
      have hlt := lt_of_block hL
      have hy := run_yield (P := Tryd.prog) (args := dv x) hL (by rw [hrc]; simp [dv, hps])
      rw [hrc] at hy
      refine ⟨fn, _, assign, body, hy, roundIn_of_wpIn (F := Fence.wide.inRound l0) hfn (hassign _ x W _ ?_)⟩
      refine ⟨_, run_beginRound hL (by rw [hrc]), ?_⟩
      have L2 : (W.putObj w.heap.size (.loop { rc .ready none with state := .busy })).heap[w.heap.size]? = some (.loop { rc .ready none with state := .busy }) := World.putObj_heap_same hlt
      refine wpIn_mono (hbody _ pre x _ (hput _ _ _ _ _ hi (Nat.le_refl _) hL) hlen) ?_
      rintro e a3 W3 (⟨rfl, hk, hm, hi3⟩ | ⟨rfl, hk, hi3⟩)
      · have L3 := hk.same _ _ (Nat.le_refl _) L2 rfl
        have hr := run_endRound (P := Tryd.prog) none L3
        refine ⟨_, _, hr, Or.inl ⟨rfl, ⟨hput _ _ _ _ _ hi3 (Nat.le_refl _) L3, ?_⟩, ?_⟩⟩
        · rw [World.putObj_heap_same (lt_of_block L3), hrc]
          rfl
        · exact ((mid_put (by omega)).trans hm).trans (mid_put (by omega))
      · have L3 := hk.same _ _ (Nat.le_refl _) L2 rfl
        have hr := run_endRound (P := Tryd.prog) (some (.exit eid)) L3
        refine ⟨_, _, hr, Or.inr ⟨rfl, hputx _ _ _ _ _ hi3 (Nat.le_refl _) L3, ?_⟩⟩
        rw [World.putObj_heap_same (lt_of_block L3), hrc]
        rfl
end Go.Proofs.YtdhjoimiejdgbaaDoor.L
