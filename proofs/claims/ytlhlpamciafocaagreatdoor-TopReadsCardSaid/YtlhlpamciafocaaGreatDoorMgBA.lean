import Derived.Test.YtlhlpamciafocaaGreatDoorMgAZ
import Derived.Laws.OwnMore
import Derived.Laws.MakeOwn
import Derived.Deep.CutRange
import Derived.RangeFuncNested
import Derived.RangeFuncBound
import Derived.RangeFuncCalls
import Derived.RangeFuncLeaves
import Derived.Shelf.RegionOpen
import Derived.WalkKit
import Derived.WalkMore
import Derived.OwnWalkIn
import Derived.TacticsInMore
import Derived.LoopNIn
import Derived.LoopIn
import Derived.Deep.Cut
namespace Go.Proofs.YtlhlpamciafocaaGreatDoor.L.Sw
open Go.RowKit
set_option linter.unusedVariables false
theorem own_set {W : World} {base g L cap : Nat} {zs : List Int} (h : OwnI W base (.slice (some ⟨g, 0, none⟩) L cap) zs) (hL : L = zs.length) (x : Nat) (v : Int) :
    OwnI (W.setCell ⟨g, x, none⟩ (.int .i64 v)) base (.slice (some ⟨g, 0, none⟩) L cap) (zs.set x v) ∧ W.grownBy (W.setCell ⟨g, x, none⟩ (.int .i64 v)) (some g) := by
  subst hL
  have := World.ownsRow.stored h x (.int .i64 v)
  refine ⟨?_, this.2⟩
  unfold OwnI
  rw [List.length_set, List.map_set]
  exact this.1
theorem own_cell {W : World} {base g L cap : Nat} {zs : List Int} (h : OwnI W base (.slice (some ⟨g, 0, none⟩) L cap) zs) (hL : L = zs.length) (j : Nat) (hj : j < L) : W.cell? ⟨g, j, none⟩ = some (.int .i64 (zs.getD j 0)) ∧ W.frozen? ⟨g, j, none⟩ = false := by
  subst hL
  refine ⟨?_, World.ownsRow.frozenAt h j⟩
  rw [World.ownsRow.cellAt h j (by omega), List.getElem?_map, List.getElem?_eq_getElem hj, List.getD_eq_getElem?_getD, List.getElem?_eq_getElem hj]
  rfl
theorem make_ints (n : Nat) (hn : n ≤ 1000) (w : World) : (Instr.makeSlice 34 (.int .i64 (n : Int)) (.int .i64 (n : Int))).run Tryz.prog w = .ok (.slice (some ⟨w.heap.size, 0, none⟩) n n) (w.alloc (.cells (madeCells #[.int .i64 0] n) 3)) := by
  obtain ⟨i, hi, hz, hs, hb⟩ := info_parts info3
  have h := run_makeSlice (P := Tryz.prog) w 34 3 i (.int .i64 0) Tryz.underlying34 hi hz .i64 .i64 n n (by omega) (by omega) (by rw [hs]; omega) (by rw [hb]; omega) (by omega)
  rw [hs] at h
  simpa [Value.cells] using h
theorem own_made (w : World) (n base : Nat) (hn : n ≤ 1000) (hb : base ≤ w.heap.size) : OwnI (w.alloc (.cells (madeCells #[.int .i64 0] n) 3)) base (.slice (some ⟨w.heap.size, 0, none⟩) n n) (List.replicate n 0) := by
  have h := World.ownsRow_lit (base := base) (e := 3) (size := 1) w (madeCells #[.int .i64 0] n) n hb (by unfold maxLen; omega) (by rw [size_madeCells]; simp)
  unfold OwnI
  rw [List.length_replicate, List.map_replicate, ← toList_madeCells_one]
  exact h
theorem own_mono {W : World} {base base' : Nat} {v : Value} {zs : List Int} (h : OwnI W base v zs) (hb : base' ≤ base) : OwnI W base' v zs := by
  refine ⟨h.1, ?_⟩
  rcases h.2 with e | ⟨g, cap, cur, e, hg, r⟩
  · exact .inl e
  · exact .inr ⟨g, cap, cur, e, Nat.le_trans hb hg, r⟩
theorem inn_cons (T : List Pt) (i : Nat) (x : Int) (ks n : List Int) : inn T i (x :: ks) n = inn T i ks (n.set x.toNat (n.getD i 0 + btw (pt T i).kind (pt T x.toNat).kind)) := rfl
end Go.Proofs.YtlhlpamciafocaaGreatDoor.L.Sw
namespace Go.Proofs.YtlhlpamciafocaaGreatDoor.L.Sw
open Go.RowKit
set_option linter.unusedVariables false
/-- The greatest nest. -/
def NestR (T : List Pt) (v : Int) : Prop := (∀ j, j < T.length → (nests T).getD j 0 ≤ v) ∧ ∃ j, j < T.length ∧ (nests T).getD j 0 = v
theorem NestR.one {T : List Pt} {u v : Int} (h : NestR T u) (k : NestR T v) : u = v := by
  obtain ⟨h1, i, hi, rfl⟩ := h
  obtain ⟨k1, j, hj, rfl⟩ := k
  have a := h1 j hj
  have b := k1 i hi
  omega
theorem _root_.Go.Proofs.YtlhlpamciafocaaGreatDoor.L.Res.ok {T : List Pt} {i : Nat} (h : Res T 0 i) : 1 ≤ T.length ∧ T.length ≤ 1000 ∧ Ok0 T ∧ i = 0 := by
  rcases h with ⟨_, e, _⟩ | ⟨_, e, _⟩ | ⟨h1, h2, ⟨_, e⟩ | ⟨_, _, e, _⟩ | ⟨ho, _, ⟨_, e⟩ | ⟨_, _, e⟩⟩⟩
  · cases e
  · cases e
  · cases e
  · cases e
  · cases e
  · exact ⟨h1, h2, ho, e⟩
end Go.Proofs.YtlhlpamciafocaaGreatDoor.L.Sw
namespace Go.Proofs.YtlhlpamciafocaaGreatDoor.L.Sw
open Go.RowKit Go.Shelf
set_option linter.unusedVariables false
attribute [local go_sem] Oper.semAt_some
/-- A part as a value. -/
def ptv (p : Pt) (ka : Option Addr) (kc : Nat) : Value := .agg #[.int .i64 p.kind, .string p.text, .int .i64 p.num, .slice ka p.kids.length kc]
/-- Backward's func over the box X. -/
def backB (X : Nat) : Value := .func (.func 57) #[] #[.pointer (some ⟨X, 0, none⟩)]
set_option maxHeartbeats 2000000 in
theorem back_any (va : Option Addr) (vn vc : Nat) (w : World) : Calls Tryz.prog 40 #[.slice va vn vc] w fun e w' => e = .returned (backB w.heap.size) ∧ Boxed w' w.heap.size 22 (.slice va vn vc) ∧ Below w.heap.size w w' := by
  go_enter Tryz.func40, Tryz.ntmps40
  go_wp2_with fail
  go_ret
  exact ⟨rfl, Boxed.new w _ _, belowA w _⟩
set_option maxHeartbeats 4000000 in
set_option maxRecDepth 100000 in
theorem back_px (n : Nat) (hn : 1 ≤ n) (l X : Nat) (T : List Pt) (pa : Option Addr) (cap : Nat) (hL : T.length ≤ 1000) (h1 : 1 ≤ T.length) (J : Nat → World → Prop)
    (hJ : ∀ k W, J k W → PL W pa T ∧ W.cell? ⟨X, 0, none⟩ = some (.slice pa T.length cap))
    (hY : ∀ m i ka kc W, J (i + 1) W → i < T.length → RdI W ka (pt T i).kids → (∃ b off, pa = some ⟨b, off, none⟩ ∧ W.cell? ⟨b, off + i * 4 + 3, none⟩ = some (.slice ka (pt T i).kids.length kc)) → YieldAt Fence.wide m Tryz.prog l #[.int .i64 (i : Int), ptv (pt T i) ka kc] W fun e W' => e = .returned (.bool true) ∧ J i W')
    (W : World) (h0 : J T.length W) :
    CallsIn Fence.wide n Tryz.prog 57 #[.func (.yield l) #[] #[], .pointer (some ⟨X, 0, none⟩)] W fun e W' => (∃ v, e = .returned v) ∧ J 0 W' := by
  have HY := hid hY
  have HJ := hid hJ
  have H0 := hid h0
  obtain ⟨L, hLe⟩ : ∃ L, L = T.length := ⟨_, rfl⟩
  have HL := hid hLe
  have q0 := (hJ _ _ h0).2
  rw [← hLe] at hL h1 q0
  have HLI : ((L : Int) - 1) = ((L - 1 : Nat) : Int) := by omega
  clear hY hJ h0 hLe
  refine callsIn_wide.2 ?_
  go_enter Tryz.func57, Tryz.ntmps57
  go_wp2_with fail
  go_loopw [3] (fun i wr => ∃ k : Nat, k ≤ L ∧ i = .int .i64 ((k : Int) - 1) ∧ Hid (J k wr)) (fun i _ => (intOf i + 1).toNat)
  case atStart => exact ⟨L, Nat.le_refl _, by rw [HLI], by rw [HL.out]; exact H0⟩
  case round =>
    clear q0
    obtain ⟨k, hk, rfl, HK⟩ := hrel
    cases k with
    | zero =>
      rw [show (((0 : Nat) : Int) - 1) = -1 from rfl]
      go_wp2_with fail
      go_end0
      exact ⟨⟨_, rfl⟩, HK.out⟩
    | succ i =>
      have hki : (((i + 1 : Nat) : Int) - 1) = (i : Int) := by omega
      rw [hki]
      clear hki
      obtain ⟨r2, q0⟩ := HJ.out _ _ HK.out
      rw [← HL.out] at q0
      rcases r2 with h0 | ⟨b2, o2, rfl, hb2, hc2⟩
      · have := HL.out; omega
      obtain ⟨ka, kc, c0, c1, c2, c3, rk⟩ := hc2 i (by rw [← HL.out]; omega)
      obtain ⟨fn, tmps, assign, body, hy, hR⟩ := HY.out (n - 1) i ka kc wr HK.out (by rw [← HL.out]; omega) rk ⟨b2, o2, rfl, c3⟩
      have HR := hid hR
      unfold ptv at hy
      generalize (pt T i).kids.length = nk at *
      generalize (pt T i).kind = kd at *
      generalize (pt T i).text = tx at *
      generalize (pt T i).num = nu at *
      clear hc2 hR rk
      have g1 : (i : Int) < (L : Int) := by omega
      have g2 : (0 : Int) ≤ (i : Int) := by omega
      go_upto_region 3 with (fail)
      refine (wpIn_wide (n := n)).1 ?_
      gi_wp2
      refine HR.out.mono ?_
      rintro e W2 ⟨rfl, hJ2⟩
      have HJ2 := hid hJ2
      clear hJ2 HR hy c0 c1 c2 c3 q0
      gi_wp2
      go_wp2_with fail
      exact ⟨⟨i, by omega, by first | rfl | go_num, HJ2⟩, by simp only [intOf]; omega⟩
set_option maxHeartbeats 4000000 in
/-- A walk over Backward's func; its body runs to its end. -/
theorem backO {n : Nat} (hn : 2 ≤ n) {gf : Operand} {ps : Array Tmp} {assign body : Code} {Q : Exit → Act → World → Prop} {a : Act} {w : World} (X : Nat) (T : List Pt) (pa : Option Addr) (cap : Nat) (hL : T.length ≤ 1000) (h1 : 1 ≤ T.length)
    (hg : a.eval gf = backB X) (hps : ps.size = 2)
    (I : Nat → World → Prop) (hI : ∀ k W, I k W → PL W pa T ∧ W.cell? ⟨X, 0, none⟩ = some (.slice pa T.length cap)) (h0 : ∀ W', Below w.heap.size w W' → I T.length W')
    (hput : ∀ k W l r r', I k W → w.heap.size ≤ l → W.heap[l]? = some (.loop r) → I k (W.putObj l (.loop r')))
    (A : Nat → Value → Act → World → Prop) (hA : ∀ t v a' W l r r', A t v a' W → W.heap[l]? = some (.loop r) → A t v a' (W.putObj l (.loop r')))
    (hassign : ∀ m l i ka kc W K, w.heap.size ≤ W.heap.size → (∀ a' W', A i (ptv (pt T i) ka kc) a' W' → Below W.heap.size W W' → K a' W') → assign.wpIn (Fence.wide.inRound l) m Tryz.prog (Exit.then K (fun _ _ _ => False)) { tmps := (ps.zip #[.int .i64 (i : Int), ptv (pt T i) ka kc]).foldl (fun t (p, v) => t.setIfInBounds p v) a.tmps, defers := [] } W)
    (hbody : ∀ m l i ka kc a' W0 W, A i (ptv (pt T i) ka kc) a' W → w.heap.size ≤ l → (∃ r, W0.heap[l]? = some (.loop r)) → Lk l W0 W → I (i + 1) W0 → i < T.length → RdI W0 ka (pt T i).kids → (∃ b off, pa = some ⟨b, off, none⟩ ∧ W0.cell? ⟨b, off + i * 4 + 3, none⟩ = some (.slice ka (pt T i).kids.length kc)) → body.wpIn (Fence.wide.inRound l) m Tryz.prog (fun e _ W' => e = .normal ∧ Kb w.heap.size W W' ∧ I i W') a' W)
    (hdone : ∀ D W, w.heap.size ≤ D → I 0 W → W.heap[D]? = some (.deferred (some [])) → Q .normal { a with defers := { target := .collected D, args := #[] } :: a.defers } W) :
    (Code.rangeFunc gf ps assign body).wpIn Fence.wide n Tryz.prog Q a w := by
  refine wpIn_rangeFunc ?_
  intro fn hfn
  obtain ⟨rc, hrc⟩ : ∃ rc : LoopState → Option Code → Loop, rc = fun s p => { state := s, pending := p, fn, tmps := a.tmps, params := ps, assign, body, defers := w.heap.size } := ⟨_, rfl⟩
  obtain ⟨V, hV'⟩ : ∃ V, V = (w.alloc (.deferred (some []))).alloc (.loop (rc .ready none)) := ⟨_, rfl⟩
  have al : Below w.heap.size w V := by rw [hV']; exact ((Below.refl _ w).alloc (Nat.le_refl _) _).alloc (by simp) _
  have vd : V.heap[w.heap.size]? = some (.deferred (some [])) := by
    rw [hV']; exact (Below.heap_alloc _ _ _ (by simp)).trans (World.alloc_heap_new w _)
  have vl : V.heap[w.heap.size + 1]? = some (.loop (rc .ready none)) := by
    rw [hV']
    have := World.alloc_heap_new (w.alloc (.deferred (some []))) (.loop (rc .ready none))
    rwa [World.size_alloc] at this
  -- one round
  have ONE : ∀ m i ka kc (W : World) (RO : Ending → World → Prop), W.heap[w.heap.size + 1]? = some (.loop (rc .ready none)) → W.heap[w.heap.size]? = some (.deferred (some [])) →
      (∀ a' W2, A i (ptv (pt T i) ka kc) a' W2 → Lk (w.heap.size + 1) W W2 → body.wpIn (Fence.wide.inRound (w.heap.size + 1)) m Tryz.prog (fun e _ W' => Kb w.heap.size W2 W' ∧ e = .normal ∧ (W'.heap[w.heap.size + 1]? = some (.loop (rc .busy none)) → W'.heap[w.heap.size]? = some (.deferred (some [])) → RO (.returned (.bool true)) (W'.putObj (w.heap.size + 1) (.loop (rc .ready none))))) a' W2) →
      YieldAt Fence.wide m Tryz.prog (w.heap.size + 1) #[.int .i64 (i : Int), ptv (pt T i) ka kc] W RO := by
    intro m i ka kc W RO hL hD hbd
    have hy := run_yield (P := Tryz.prog) (args := #[.int .i64 (i : Int), ptv (pt T i) ka kc]) hL (by rw [hrc]; simp [hps])
    rw [hrc] at hy
    refine ⟨fn, _, assign, body, hy, roundIn_of_wpIn hfn (hassign m _ i ka kc W _ (by have := lt_blk hL; omega) ?_)⟩
    intro a' W1 ha' hW1
    have hltW := lt_blk hL
    have hDW := lt_blk hD
    replace hD := (hW1.block _ hDW).trans hD
    replace hL := (hW1.block _ hltW).trans hL
    have hlt := lt_blk hL
    refine ⟨_, run_beginRound hL (by rw [hrc]), ?_⟩
    have L2 : (W1.putObj (w.heap.size + 1) (.loop { rc .ready none with state := .busy })).heap[w.heap.size + 1]? = some (.loop { rc .ready none with state := .busy }) := World.putObj_heap_same hlt
    have D2 : (W1.putObj (w.heap.size + 1) (.loop { rc .ready none with state := .busy })).heap[w.heap.size]? = some (.deferred (some [])) := (World.putObj_heap_other (by omega)).trans hD
    have hlk : Lk (w.heap.size + 1) W (W1.putObj (w.heap.size + 1) (.loop { rc .ready none with state := .busy })) := by
      refine ⟨hW1.os, hW1.tape, hW1.output, by rw [World.putObj_size]; exact hW1.size, fun k hk hne => ?_⟩
      rw [World.putObj_heap_other hne, hW1.block k hk]
    refine wpIn_mono (hbd a' _ (hA _ _ _ _ _ _ _ ha' hL) hlk) ?_
    rintro e a3 W3 ⟨hk, rfl, hi3⟩
    have L3 := hk.same _ _ (by omega) L2 rfl
    have D3 := hk.same _ _ (Nat.le_refl _) D2 rfl
    have L3' : W3.heap[w.heap.size + 1]? = some (.loop (rc .busy none)) := by rw [L3, hrc]
    have hr := run_endRound (P := Tryz.prog) none L3'
    refine ⟨_, _, hr, ?_⟩
    have := hi3 L3' D3
    rw [hrc] at this ⊢
    exact this
  refine ⟨w.heap.size + 1, [{ target := .collected w.heap.size, args := #[] }], V, { target := .fn (.func 57) #[.pointer (some ⟨X, 0, none⟩)], args := #[.func (.yield (w.heap.size + 1)) #[] #[]] }, V, 57,
    #[.func (.yield (w.heap.size + 1)) #[] #[], .pointer (some ⟨X, 0, none⟩)], V, ?_, ?_, fun f' _ => trivial, ?_, fun _ => by omega, ?_⟩
  · rw [hV', hrc]
    exact run_enterLoop_outer _ _ _ _ _
  · simp only [resolve, hg, backB]
    simp [go_sem]
  · simp [invoke, go_sem]
  · refine (back_px (n - 1) (by omega) (w.heap.size + 1) X T pa cap hL h1
      (fun k W => I k W ∧ W.heap[w.heap.size + 1]? = some (.loop (rc .ready none)) ∧ W.heap[w.heap.size]? = some (.deferred (some [])))
      (fun k W h => hI k W h.1) ?_ V ⟨h0 _ al, vl, vd⟩).mono ?_
    · rintro m i ka kc W ⟨hi, hL, hD⟩ hil hrd hce
      refine ONE m i ka kc W _ hL hD ?_
      intro a' W2 hA2 hlk
      refine wpIn_mono (hbody m (w.heap.size + 1) i ka kc a' W W2 hA2 (by omega) ⟨_, hL⟩ hlk hi hil hrd hce) ?_
      rintro e a3 W' ⟨he, hk, hi'⟩
      exact ⟨hk, he, fun L3 D3 => ⟨rfl, hput _ _ _ _ _ hi' (by omega) L3, World.putObj_heap_same (lt_blk L3), (World.putObj_heap_other (by omega)).trans D3⟩⟩
    · rintro e W2 ⟨⟨v', rfl⟩, hi, hL, hD⟩
      have he := run_endLoop (P := Tryz.prog) hL (by rw [hrc]; simp)
      rw [hrc] at he
      exact ⟨none, _, he, hdone _ _ (Nat.le_refl _) (hput _ _ _ _ _ hi (by omega) hL) ((World.putObj_heap_other (by omega)).trans hD)⟩
end Go.Proofs.YtlhlpamciafocaaGreatDoor.L.Sw
namespace Go.Proofs.YtlhlpamciafocaaGreatDoor.L.Sw
open Go.RowKit Go.Shelf
set_option linter.unusedVariables false
attribute [local go_sem] Oper.semAt_some
theorem ex_u {L : Array Value} {d : List Deferred} {f : (Nat → Value) → Act} {p : Prop} (h : f (fun i => L.toList.getD i undef) = ({ tmps := L, defers := d } : Act)) (hp : p) : ∃ u, ({ tmps := L, defers := d } : Act) = f u ∧ p := ⟨_, h.symm, hp⟩
theorem grown_refl (W : World) (r : Option Nat) : W.grownBy W r := ⟨rfl, rfl, rfl, Nat.le_refl _, fun _ _ _ => rfl⟩
theorem grown_trans {A B C : World} {r : Option Nat} (h : A.grownBy B r) (k : B.grownBy C r) : A.grownBy C r :=
  ⟨k.os.trans h.os, k.tape.trans h.tape, k.output.trans h.output, Nat.le_trans h.size k.size, fun j hj hn => (k.block j (Nat.lt_of_lt_of_le hj h.size) hn).trans (h.block j hj hn)⟩
theorem grown_box {A B : World} {g b : Nat} {t : TypeId} {v : Value} (h : A.grownBy B (some g)) (x : Boxed A b t v) (hn : b ≠ g) : Boxed B b t v := (h.block b x.lt (by simpa using hn)).trans x
theorem grown_low {A B : World} {g m : Nat} (h : A.grownBy B (some g)) (hm : m ≤ g) (hz : m ≤ A.heap.size) : Below m A B := ⟨h.os, h.tape, h.output, h.size, fun k hk => h.block k (by omega) (by simp; omega)⟩
theorem grown_kb {A B : World} {g base : Nat} (h : A.grownBy B (some g)) (hb : g < base) : Kb base A B := ⟨h.size, fun k o hk h1 _ => (h.block k (lt_blk h1) (by simp; omega)).trans h1⟩
theorem grown_lk {A B C : World} {g l : Nat} (h : A.grownBy B (some g)) (k : Lk l B C) (hl : A.heap.size ≤ l) : A.grownBy C (some g) :=
  ⟨k.os.trans h.os, k.tape.trans h.tape, k.output.trans h.output, Nat.le_trans h.size k.size, fun j hj hn => (k.block j (Nat.lt_of_lt_of_le hj h.size) (by omega)).trans (h.block j hj hn)⟩
theorem own_lk {W W' : World} {base l g L cap : Nat} {zs : List Int} (h : OwnI W base (.slice (some ⟨g, 0, none⟩) L cap) zs) (k : Lk l W W') (hl : g ≠ l) : OwnI W' base (.slice (some ⟨g, 0, none⟩) L cap) zs :=
  World.ownsRow.kept (row := some l) h ⟨k.os, k.tape, k.output, k.size, fun j hj hn => k.block j hj (fun e => hn (by rw [e]))⟩ (.inr (by simp [Value.ownBlock]; exact hl))
/-- What stands between the rounds of nestsOf. -/
structure Ns (w4 W : World) (g : Nat) (T : List Pt) (L k : Nat) (ns : List Int) : Prop where
  grown : w4.grownBy W (some g)
  row : OwnI W g (.slice (some ⟨g, 0, none⟩) L L) ns
  len : ns.length = L
  sm : Sm L ns
  eq : nsts T k ns = nests T
theorem Ns.put {w4 W : World} {g L k l : Nat} {T : List Pt} {ns : List Int} {r r' : Loop} (h : Ns w4 W g T L k ns) (hl : w4.heap.size ≤ l) (hb : W.heap[l]? = some (.loop r)) : Ns w4 (W.putObj l (.loop r')) g T L k ns := by
  refine ⟨⟨h.grown.os, h.grown.tape, h.grown.output, by rw [World.putObj_size]; exact h.grown.size, fun j hj hn => (World.putObj_heap_other (by omega)).trans (h.grown.block j hj hn)⟩, ownsRow_putObj h.row _ hb rfl, h.len, h.sm, h.eq⟩
theorem Ns.lk {w4 W W' : World} {g L k l : Nat} {T : List Pt} {ns : List Int} (h : Ns w4 W g T L k ns) (hk : Lk l W W') (hl : w4.heap.size ≤ l) (hg : g < w4.heap.size) : Ns w4 W' g T L k ns :=
  ⟨grown_lk h.grown hk hl, own_lk h.row hk (by omega), h.len, h.sm, h.eq⟩
set_option maxHeartbeats 16000000 in
set_option maxRecDepth 100000 in
theorem nestsof_any (a : Option Addr) (T : List Pt) (cap : Nat) (w : World) (hT : PL w a T) (h1 : 1 ≤ T.length) (hL : T.length ≤ 1000) (hok : Ok0 T) :
    Calls Tryz.prog 27 #[.slice a T.length cap] w fun e w' => ∃ v, e = .returned v ∧ OwnI w' w.heap.size v (nests T) ∧ Below w.heap.size w w' := by
  obtain ⟨L, hLe⟩ : ∃ L, L = T.length := ⟨_, rfl⟩
  have HT := hid hT
  have HL := hid hLe
  have HOK := hid hok
  have HBT := hid between_any
  have HBK := hid back_any
  rw [← hLe] at h1 hL ⊢
  have HX0 := hid (Boxed.new w 22 (.slice a L cap))
  have HB0 := hid (belowA w (.cells #[.slice a L cap] 22))
  have HS0 := hid (show (w.alloc (.cells #[.slice a L cap] 22)).heap.size = w.heap.size + 1 by simp)
  have MK := fun W => make_ints L hL W
  clear hT hLe hok
  refine (callsIn_wide (n := 4)).1 ?_
  refine callsIn_of_wp_marks Tryz.func27 rfl trivial ?_ rfl
  simp only [Tryz.ntmps27, List.size_toArray, List.length_cons, List.length_nil, Nat.reduceAdd, Nat.reduceSub, Array.replicate_succ, Array.replicate_zero, List.push_toArray, List.append_toArray, List.nil_append, List.cons_append]
  unfold backB at HBK
  gi_wp2_with (refine ⟨trivial, ?_⟩; gi_at_call 40; refine (callsIn_wide.2 (HBK.out _ _ _ _)).mono ?_; rintro e w4 ⟨rfl, hx, l4⟩; have L4 := hid l4; have HX := hid hx; clear l4 hx)
  have HV1 := hid (own_made (w.alloc (.cells #[.slice a L cap] 22)) L (w.heap.size + 1) hL (by rw [HS0.out]; exact Nat.le_refl _))
  rw [HS0.out] at HV1
  have hb3 : Below w.heap.size w (((w.alloc (.cells #[.slice a L cap] 22)).alloc (.cells (madeCells #[.int .i64 0] L) 3)).alloc (.cells #[.slice (some ⟨w.heap.size + 1, 0, none⟩) L L] 34)) := (HB0.out.alloc (by simp) _).alloc (by simp; omega) _
  have hz3 : (((w.alloc (.cells #[.slice a L cap] 22)).alloc (.cells (madeCells #[.int .i64 0] L) 3)).alloc (.cells #[.slice (some ⟨w.heap.size + 1, 0, none⟩) L L] 34)).heap.size = w.heap.size + 1 + 1 + 1 := by simp
  have hr3 := World.ownsRow.alloc HV1.out (.cells #[.slice (some ⟨w.heap.size + 1, 0, none⟩) L L] 34)
  have hP3 : Boxed (((w.alloc (.cells #[.slice a L cap] 22)).alloc (.cells (madeCells #[.int .i64 0] L) 3)).alloc (.cells #[.slice (some ⟨w.heap.size + 1, 0, none⟩) L L] 34)) w.heap.size 22 (.slice a L cap) := (HX0.out.alloc _).alloc _
  have hN3 : Boxed (((w.alloc (.cells #[.slice a L cap] 22)).alloc (.cells (madeCells #[.int .i64 0] L) 3)).alloc (.cells #[.slice (some ⟨w.heap.size + 1, 0, none⟩) L L] 34)) (w.heap.size + 1 + 1) 34 (.slice (some ⟨w.heap.size + 1, 0, none⟩) L L) := by
    have := Boxed.new ((w.alloc (.cells #[.slice a L cap] 22)).alloc (.cells (madeCells #[.int .i64 0] L) 3)) 34 (.slice (some ⟨w.heap.size + 1, 0, none⟩) L L)
    simpa using this
  rw [hz3] at HX L4
  have R4 := hid (show OwnI w4 (w.heap.size + 1) (.slice (some ⟨w.heap.size + 1, 0, none⟩) L L) (List.replicate L 0) from own_low hr3 (by rw [hz3]; exact L4.out))
  have P4 := hid (show Boxed w4 w.heap.size 22 (.slice a L cap) from (L4.out.block _ (by omega)).trans hP3)
  have N4 := hid (show Boxed w4 (w.heap.size + 1 + 1) 34 (.slice (some ⟨w.heap.size + 1, 0, none⟩) L L) from (L4.out.block _ (by omega)).trans hN3)
  have B4 := hid (hb3.trans (L4.out.mono (by omega)))
  have Z4 := hid (show w.heap.size + 1 + 1 + 1 < w4.heap.size from HX.out.lt)
  clear HV1 hb3 hz3 hr3 hP3 hN3 L4 HX0 HB0 HS0 MK
  have e4 : w.heap.size + 1 + 1 + 1 = w.heap.size + 3 := rfl
  have hI : ∀ k W, (∃ ns, Ns w4 W (w.heap.size + 1) T L k ns) → PL W a T ∧ W.cell? ⟨w.heap.size + 1 + 1 + 1, 0, none⟩ = some (.slice a T.length cap) := by
    rintro k W ⟨ns, h⟩
    refine ⟨HT.out.low (B4.out.trans (grown_low h.grown (by omega) B4.out.size)), ?_⟩
    rw [← HL.out]
    exact (grown_box h.grown HX.out (by omega)).cell
  refine backO (n := 4) (by decide) (w.heap.size + 1 + 1 + 1) T a cap (by rw [← HL.out]; exact hL) (by rw [← HL.out]; exact h1) (by first | rfl | simp [backB]) rfl
    (fun k W => ∃ ns, Ns w4 W (w.heap.size + 1) T L k ns) hI ?h0 (fun k W l r r' ⟨ns, h⟩ hl hb => ⟨ns, h.put hl hb⟩)
    (fun i v a' W' => ∃ Bx, w4.heap.size ≤ Bx ∧ (∃ ka kc, v = ptv (pt T i) ka kc ∧ W'.heap[Bx]? = some (.cells #[.int .i64 (pt T i).kind, .string (pt T i).text, .int .i64 (pt T i).num, .slice ka (pt T i).kids.length kc] 50 (0, 0)) ∧ ∃ u : Nat → Value, a' = { tmps := #[u 0, .pointer (some ⟨w.heap.size, 0, none⟩), u 2, .pointer (some ⟨w.heap.size + 1 + 1, 0, none⟩), .int .i64 (i : Int), .pointer (some ⟨Bx, 0, none⟩), u 6, u 7, u 8, u 9, u 10, u 11, u 12, u 13, u 14, u 15, u 16, u 17, u 18, u 19, u 20, u 21, u 22, u 23, u 24, u 25, u 26, u 27, u 28, u 29, u 30, u 31, u 32, u 33, u 34, u 35, u 36, u 37, u 38, u 39], defers := [] } ∧ True))
    ?hA ?assign ?body ?done
  case h0 =>
    intro W' h
    refine ⟨List.replicate L 0, ⟨h.os, h.tape, h.output, h.size, fun k hk _ => h.block k hk⟩, own_low R4.out h, by simp, fun j hj => ?_, by rw [← HL.out]; unfold nests; rw [← HL.out]⟩
    have : (List.replicate L (0 : Int)).getD j 0 = 0 := by
      rw [List.getD_eq_getElem?_getD]
      by_cases h : j < L
      · simp [h]
      · simp [h]
    rw [this]
    rw [List.length_replicate] at hj
    omega
  case hA =>
    rintro i v a' W' l q q' ⟨Bx, hb, ka, kc, e1, hx, h2⟩ h3
    exact ⟨Bx, hb, ka, kc, e1, (World.putObj_heap_other (by intro e; rw [e, h3] at hx; cases hx)).trans hx, h2⟩
  case assign =>
    intro m l i ka kc W' K hz hK
    have HK := hid hK
    clear hK
    simp only [ptv]
    gi_wp2
    refine HK.out _ _ ?_ (belowA W' _)
    exact ⟨W'.heap.size, hz, ka, kc, rfl, heap_alloc_new W' _, ex_u rfl trivial⟩
  case body =>
    rintro m l i ka kc a' W0 W ⟨Bx, hBx, ka', kc', ev, hx, u, rfl, -⟩ hl hlr hlk ⟨ns, hn⟩ hil hrd hce
    have hgz : w.heap.size + 1 < w4.heap.size := by have := Z4.out; omega
    have HNW := hid (hn.lk hlk hl hgz)
    have hev : ka' = ka ∧ kc' = kc := by
      unfold ptv at ev
      simp at ev
      exact ⟨ev.1.symm, ev.2.symm⟩
    obtain ⟨rfl, rfl⟩ := hev
    have RK : Hid (RdI w ka' (pt T i).kids) := by
      obtain ⟨b, off, rfl, hc⟩ := hce
      rcases HT.out with h0 | ⟨b2, o2, e2, hb2, hc2⟩
      · omega
      · cases e2
        obtain ⟨ka0, kc0, _, _, _, q3, rk⟩ := hc2 i hil
        have hlow := B4.out.trans (grown_low hn.grown (m := w.heap.size) (by omega) B4.out.size)
        rw [hlow.cell (p := ⟨b, off + i * 4 + 3, none⟩) hb2, q3] at hc
        injection hc with hc
        injection hc with e1 e2 e3
        rw [← e1]
        exact hid rk
    have HXB := hid hx
    have HOKI := hid (HOK.out i hil)
    have hn1 : (pt T i).kids.length ≤ 1000 := by
      have h1 := HOKI.out.many
      have h2 := fre_len T i
      have := HL.out
      omega
    have hil2 : i < L := by rw [HL.out]; exact hil
    obtain ⟨kd, hkd⟩ : ∃ kd, kd = (pt T i).kind := ⟨_, rfl⟩
    obtain ⟨ks, hks⟩ : ∃ ks, ks = (pt T i).kids := ⟨_, rfl⟩
    obtain ⟨nk, hnk⟩ : ∃ nk, nk = ks.length := ⟨_, rfl⟩
    rw [← hkd, ← hks, ← hnk] at HXB
    rw [← hks, ← hnk] at hn1
    rw [← hks] at RK
    generalize (pt T i).text = tx at HXB
    generalize (pt T i).num = nu at HXB
    have HKD := hid hkd
    have HKS := hid hks
    have HNK := hid hnk
    clear hn hlk hlr hrd ev hx hil hkd hks hnk hce
    have hgb : w.heap.size + 1 ≠ Bx := by omega
    have ⟨x0, x1, x2, x3⟩ := cells4 HXB.out
    gi_wp2
    clear x0 x1 x2 x3
    gi_loopw [18] (fun j wr => ∃ (jn : Nat) (ms : List Int), jn ≤ nk ∧ j = .int .i64 jn ∧ Hid (W.grownBy wr (some (w.heap.size + 1))) ∧ Hid (OwnI wr (w.heap.size + 1) (.slice (some ⟨w.heap.size + 1, 0, none⟩) L L) ms) ∧ Hid (ms.length = L) ∧ Hid (Sm L ms) ∧ Hid (inn T i (ks.drop jn) ms = inn T i ks ns)) (fun j _ => nk - (intOf j).toNat)
    case atStart => exact ⟨0, ns, Nat.zero_le _, rfl, hid (grown_refl _ _), hid HNW.out.row, hid HNW.out.len, hid HNW.out.sm, hid rfl⟩
    case round =>
      obtain ⟨jn, ms, hjn, rfl, HG, OW, HLN, HSM, HIN⟩ := hrel
      have HG4 := hid (grown_trans HNW.out.grown HG.out)
      have HLW := hid (B4.out.trans (grown_low HG4.out (m := w.heap.size) (by omega) B4.out.size))
      by_cases hlt : jn < nk
      · have r1 := RK.out.low HLW.out (Nat.le_refl _)
        have r2 := HT.out.low HLW.out
        rcases r1 with h0 | ⟨b1, o1, rfl, hb1, hc1⟩
        · have := HNK.out; omega
        have p0 := hc1 jn (by rw [← HNK.out]; exact hlt)
        have hmem : ks.getD jn 0 ∈ ks := getD_mem (by rw [← HNK.out]; exact hlt)
        have hxk := HOKI.out.lt (x := ks.getD jn 0) (by rw [← HKS.out]; exact hmem)
        obtain ⟨z, hz⟩ : ∃ z : Nat, ks.getD jn 0 = z := ⟨(ks.getD jn 0).toNat, by omega⟩
        rw [hz] at p0 hxk
        have HZ := hid hz
        rcases r2 with h0 | ⟨b2, o2, rfl, hb2, hc2⟩
        · have := HL.out; omega
        obtain ⟨_, _, k0, _⟩ := hc2 z (by rw [← HL.out]; omega)
        obtain ⟨kk, hkk⟩ : ∃ kk, kk = (pt T z).kind := ⟨_, rfl⟩
        rw [← hkk] at k0
        have HKK := hid hkk
        have hxw : wr.heap[Bx]? = _ := (HG.out.block Bx (lt_blk HXB.out) (by simp; omega)).trans HXB.out
        have ⟨x0, x1, x2, x3⟩ := cells4 hxw
        have nb := (grown_box HG4.out N4.out (by omega)).cell
        have pb := (grown_box HG4.out P4.out (by omega)).cell
        obtain ⟨v, hv⟩ : ∃ v, v = ms.getD i 0 := ⟨_, rfl⟩
        have c1 := (own_cell OW.out HLN.out.symm i hil2).1
        have c2 := (own_cell OW.out HLN.out.symm z (by omega)).1
        have f2 := (own_cell OW.out HLN.out.symm z (by omega)).2
        obtain ⟨v0, hv0⟩ : ∃ v0, v0 = ms.getD z 0 := ⟨_, rfl⟩
        rw [← hv] at c1
        rw [← hv0] at c2
        have hub := HSM.out i (by rw [HLN.out]; exact hil2)
        rw [← hv] at hub
        have hu0 : 0 ≤ v := hub.1
        have hu1 : v ≤ 2000 := by omega
        have HU := hid hv
        have hzi : z < i := by omega
        have HLK := hid (show ks.drop jn = (z : Int) :: ks.drop (jn + 1) by
          rw [List.drop_eq_getElem_cons (by rw [← HNK.out]; exact hlt)]
          have hz2 := HZ.out
          rw [List.getD_eq_getElem?_getD, List.getElem?_eq_getElem (by rw [← HNK.out]; exact hlt)] at hz2
          rw [← hz2]
          rfl)
        have HJ1 := hid (show jn + 1 ≤ nk by omega)
        have HJ2 := hid (show nk - (jn + 1) < nk - jn by omega)
        obtain ⟨bt, hbt⟩ : ∃ bt, bt = btw kd kk := ⟨_, rfl⟩
        have hbl := btw_le kd kk
        rw [← hbt] at hbl
        have hb0 : 0 ≤ bt := hbl.1
        have hb1 : bt ≤ 2 := hbl.2
        have HBC := HBT.out kd kk
        rw [show ((if opB kd = true then (1 : Int) else 0) + (if brB kd kk = true then 1 else 0)) = bt by rw [hbt]; rfl] at HBC
        have HBC2 := hid HBC
        have HBB := hid hbt
        clear hc1 hc2 hmem hxk hz hkk hv hv0 hub hbt hbl HBC hxw
        have g3 : (jn : Int) < (nk : Int) := by omega
        have g4 : (0 : Int) ≤ (jn : Int) := by omega
        have g5 : (z : Int) < (L : Int) := by omega
        have g6 : (0 : Int) ≤ (z : Int) := by omega
        have g7 : (i : Int) < (L : Int) := by omega
        have g8 : (0 : Int) ≤ (i : Int) := by omega
        gi_wp2
        refine quiet_last_round (F := Fence.wide) (by simp) rfl (by kernel_rfl) (by kernel_rfl) (by kernel_rfl) (by kernel_rfl) ?_
        simp only [List.dropLast, List.getLast_cons_cons, List.getLast_singleton]
        repeat (gi_big_quiet_step (fail))
        refine BigFrame.wpQuietIn_want (fun _ _ _ _ => trivial) rfl (fun K hK => ?_)
        gi_big_quiet_op
        refine ⟨.int .i64 bt, fun _ => ⟨fun h => absurd h (by decide), CallsIn.quiet_of_same (callsIn_wide.2 (HBC2.out _))⟩, hK _ ?_⟩
        clear hK
        repeat (gi_big_quiet_step (fail))
        refine wpQuietIn_nil ?_
        rintro _ ⟨nq, rfl⟩
        refine ⟨fun _ _ => trivial, ?_⟩
        go_simp
        (try simp only [Exit.inBlock, Exit.then])
        gi_wp2
        have OD : OwnI (wr.drewN nq) (w.heap.size + 1) (.slice (some ⟨w.heap.size + 1, 0, none⟩) L L) ms := OW.out
        have S1 := own_set OD HLN.out.symm z (v + bt)
        have hv : v + bt = ms.getD i 0 + btw (pt T i).kind (pt T z).kind := by rw [← HU.out, HBB.out, HKD.out, HKK.out]
        refine ⟨⟨jn + 1, ms.set z (v + bt), HJ1.out, by go_num, hid (grown_trans HG.out (grown_trans (show wr.grownBy (wr.drewN nq) (some (w.heap.size + 1)) from ⟨rfl, rfl, rfl, Nat.le_refl _, fun _ _ _ => rfl⟩) S1.2)), hid S1.1, hid (by rw [List.length_set]; exact HLN.out), hid (HSM.out.set (by rw [HLN.out]; exact hil2) hzi (by rw [← HU.out]; omega)), hid ?_⟩, ?_⟩
        · rw [← HIN.out, HLK.out, inn_cons, Int.toNat_natCast, hv]
        · have h2 := HJ2.out
          have h3 := HJ1.out
          simp [intOf]
          omega
      · obtain rfl : jn = nk := by omega
        have h5 := HIN.out
        rw [HNK.out, List.drop_length] at h5
        have HEND := hid (show Ns w4 wr (w.heap.size + 1) T L i ms from ⟨HG4.out, OW.out, HLN.out, HSM.out, by
          rw [← HNW.out.eq]
          show nsts T i ms = nsts T i (inn T i (pt T i).kids ns)
          rw [← HKS.out, ← h5]
          rfl⟩)
        have HKB := hid (grown_kb HG.out (base := w4.heap.size) (by have := Z4.out; omega))
        clear h5
        gi_wp2
        exact ⟨HKB.out, _, HEND.out⟩
  case done =>
    rintro D W hD ⟨ns, hn⟩ hdf
    have nb := (grown_box hn.grown N4.out (by omega)).cell
    have HN := hid hn
    have HD := hid hdf
    have Z4' := Z4.out
    clear hn hdf
    gi_wp2
    have hrow := ownsRow_putObj HN.out.row (.deferred none) HD.out rfl
    have hlow : Below w.heap.size w (W.putObj D (.deferred none)) := (B4.out.trans (grown_low HN.out.grown (by omega) B4.out.size)).trans (below_putL (by omega))
    refine ⟨by simp, .inl ⟨_, _, rfl, run_takeDeferred HD.out, ?_⟩⟩
    simp [LeavesInM, LeavesIn, results, Tryz.results27, go_sem]
    refine ⟨own_mono (show OwnI _ (w.heap.size + 1) _ (nests T) by rw [← HN.out.eq]; exact hrow) (by omega), hlow⟩
end Go.Proofs.YtlhlpamciafocaaGreatDoor.L.Sw
