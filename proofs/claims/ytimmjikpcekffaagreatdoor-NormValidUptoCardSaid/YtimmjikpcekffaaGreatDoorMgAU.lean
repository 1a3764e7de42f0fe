import Derived.RangeFuncNested
import Derived.RangeFuncBound
import Derived.RangeFuncCalls
import Derived.RangeFuncLeaves
import Derived.Shelf.RegionOpen
import Derived.WalkKit
import Derived.WalkMore
import Derived.OwnWalkIn
import Derived.TacticsInMore
import Derived.LoopNIn
import Derived.LoopIn
import Derived.Deep.Cut
import Derived.Test.YtimmjikpcekffaaGreatDoorMgAT
import Derived.Sort.QuietIn
namespace Go.Proofs.YtimmjikpcekffaaGreatDoor.L
open Go.RowKit Go.Shelf
set_option linter.unusedVariables false
attribute [local go_sem] Oper.semAt_some
/-- A block in which a loop keeps its books. -/
def isBk : Obj → Bool
  | .loop _ => true
  | .deferred _ => true
  | _ => false
/-- The books from base on lie as they lay. -/
structure Kb (base : Nat) (W W' : World) : Prop where
  size : W.heap.size ≤ W'.heap.size
  same : ∀ k o, base ≤ k → W.heap[k]? = some o → isBk o = true → W'.heap[k]? = some o
theorem Kb.trans {base : Nat} {A B C : World} (h : Kb base A B) (k : Kb base B C) : Kb base A C := ⟨Nat.le_trans h.size k.size, fun j o hj h1 h2 => k.same j o hj (h.same j o hj h1 h2) h2⟩
theorem Kb.refl (base : Nat) (A : World) : Kb base A A := ⟨Nat.le_refl _, fun _ _ _ h _ => h⟩
theorem Kb.low {base : Nat} {W W' : World} (h : Below W.heap.size W W') : Kb base W W' := ⟨h.size, fun k o _ h1 _ => (h.block k (lt_blk h1)).trans h1⟩
/-- All but the walk's own record lies as it lay. -/
structure Lk (l : Nat) (W W' : World) : Prop where
  os : W'.os = W.os
  tape : W'.tape = W.tape
  output : W'.output = W.output
  size : W.heap.size ≤ W'.heap.size
  block : ∀ k, k < W.heap.size → k ≠ l → W'.heap[k]? = W.heap[k]?
theorem boxed_put {W : World} {B : Nat} {t : TypeId} {v : Value} {l : Nat} {r : Loop} {o : Obj} (h : Boxed W B t v) (hl : W.heap[l]? = some (.loop r)) : Boxed (W.putObj l o) B t v := by
  unfold Boxed at h ⊢
  rw [World.putObj_heap_other (by intro e; rw [e, hl] at h; cases h)]
  exact h
theorem below_putL {W : World} {B l : Nat} {o : Obj} (hb : B ≤ l) : Below B W (W.putObj l o) :=
  ⟨rfl, rfl, rfl, by rw [World.putObj_size]; exact Nat.le_refl _, fun k hk => World.putObj_heap_other (by omega)⟩
theorem boxed_lk {W W' : World} {B : Nat} {t : TypeId} {v : Value} {l : Nat} (h : Boxed W B t v) (hk : Lk l W W') (hl : B ≠ l) : Boxed W' B t v := (hk.block B h.lt hl).trans h
theorem boxed_low {W W' : World} {B : Nat} {t : TypeId} {v : Value} (h : Boxed W B t v) (hk : Below W.heap.size W W') : Boxed W' B t v := (hk.block B h.lt).trans h
/-- A part as a value. -/
def ptv (p : Pt) (ka : Option Addr) (kc : Nat) : Value := .agg #[.int .i64 p.kind, .string p.text, .int .i64 p.num, .slice ka p.kids.length kc]
/-- Backward's func over the box X. -/
def backB (X : Nat) : Value := .func (.func 119) #[] #[.pointer (some ⟨X, 0, none⟩)]
set_option maxHeartbeats 2000000 in
theorem back_any (va : Option Addr) (vn vc : Nat) (w : World) : Calls Tryz.prog 97 #[.slice va vn vc] w fun e w' => e = .returned (backB w.heap.size) ∧ Boxed w' w.heap.size 33 (.slice va vn vc) ∧ Below w.heap.size w w' := by
  go_enter Tryz.func97, Tryz.ntmps97
  go_wp2_with fail
  go_ret
  exact ⟨rfl, Boxed.new w _ _, belowA w _⟩
set_option maxHeartbeats 4000000 in
set_option maxRecDepth 100000 in
theorem back_px (n : Nat) (hn : 1 ≤ n) (l X : Nat) (T : List Pt) (pa : Option Addr) (cap : Nat) (hL : T.length ≤ 1000) (h1 : 1 ≤ T.length) (J : Nat → World → Prop)
    (hJ : ∀ k W, J k W → PL W pa T ∧ W.cell? ⟨X, 0, none⟩ = some (.slice pa T.length cap))
    (hY : ∀ m i ka kc W, J (i + 1) W → i < T.length → RdI W ka (pt T i).kids → (∃ b off, pa = some ⟨b, off, none⟩ ∧ W.cell? ⟨b, off + i * 4 + 3, none⟩ = some (.slice ka (pt T i).kids.length kc)) → YieldAt Fence.wide m Tryz.prog l #[.int .i64 (i : Int), ptv (pt T i) ka kc] W fun e W' => e = .returned (.bool true) ∧ J i W')
    (W : World) (h0 : J T.length W) :
    CallsIn Fence.wide n Tryz.prog 119 #[.func (.yield l) #[] #[], .pointer (some ⟨X, 0, none⟩)] W fun e W' => (∃ v, e = .returned v) ∧ J 0 W' := by
  have HY := hid hY
  have HJ := hid hJ
  have H0 := hid h0
  obtain ⟨L, hLe⟩ : ∃ L, L = T.length := ⟨_, rfl⟩
  have HL := hid hLe
  have q0 := (hJ _ _ h0).2
  rw [← hLe] at hL h1 q0
  have HLI : ((L : Int) - 1) = ((L - 1 : Nat) : Int) := by omega
  clear hY hJ h0 hLe
  refine callsIn_wide.2 ?_
  go_enter Tryz.func119, Tryz.ntmps119
  go_wp2_with fail
  go_loopw [3] (fun i wr => ∃ k : Nat, k ≤ L ∧ i = .int .i64 ((k : Int) - 1) ∧ Hid (J k wr)) (fun i _ => (intOf i + 1).toNat)
  case atStart => exact ⟨L, Nat.le_refl _, by rw [HLI], by rw [HL.out]; exact H0⟩
  case round =>
    clear q0
    obtain ⟨k, hk, rfl, HK⟩ := hrel
    cases k with
    | zero =>
      rw [show (((0 : Nat) : Int) - 1) = -1 from rfl]
      go_wp2_with fail
      go_end0
      exact ⟨⟨_, rfl⟩, HK.out⟩
    | succ i =>
      have hki : (((i + 1 : Nat) : Int) - 1) = (i : Int) := by omega
      rw [hki]
      clear hki
      obtain ⟨r2, q0⟩ := HJ.out _ _ HK.out
      rw [← HL.out] at q0
      rcases r2 with h0 | ⟨b2, o2, rfl, hb2, hc2⟩
      · have := HL.out; omega
      obtain ⟨ka, kc, c0, c1, c2, c3, rk⟩ := hc2 i (by rw [← HL.out]; omega)
      obtain ⟨fn, tmps, assign, body, hy, hR⟩ := HY.out (n - 1) i ka kc wr HK.out (by rw [← HL.out]; omega) rk ⟨b2, o2, rfl, c3⟩
      have HR := hid hR
      unfold ptv at hy
      generalize (pt T i).kids.length = nk at *
      generalize (pt T i).kind = kd at *
      generalize (pt T i).text = tx at *
      generalize (pt T i).num = nu at *
      clear hc2 hR rk
      have g1 : (i : Int) < (L : Int) := by omega
      have g2 : (0 : Int) ≤ (i : Int) := by omega
      go_upto_region 3 with (fail)
      refine (wpIn_wide (n := n)).1 ?_
      gi_wp2
      refine HR.out.mono ?_
      rintro e W2 ⟨rfl, hJ2⟩
      have HJ2 := hid hJ2
      clear hJ2 HR hy c0 c1 c2 c3 q0
      gi_wp2
      go_wp2_with fail
      exact ⟨⟨i, by omega, by first | rfl | go_num, HJ2⟩, by simp only [intOf]; omega⟩
set_option maxHeartbeats 4000000 in
/-- A walk over Backward's func; its body runs to its end. -/
theorem backO {n : Nat} (hn : 2 ≤ n) {gf : Operand} {ps : Array Tmp} {assign body : Code} {Q : Exit → Act → World → Prop} {a : Act} {w : World} (X : Nat) (T : List Pt) (pa : Option Addr) (cap : Nat) (hL : T.length ≤ 1000) (h1 : 1 ≤ T.length)
    (hg : a.eval gf = backB X) (hps : ps.size = 2)
    (I : Nat → World → Prop) (hI : ∀ k W, I k W → PL W pa T ∧ W.cell? ⟨X, 0, none⟩ = some (.slice pa T.length cap)) (h0 : ∀ W', Below w.heap.size w W' → I T.length W')
    (hput : ∀ k W l r r', I k W → w.heap.size ≤ l → W.heap[l]? = some (.loop r) → I k (W.putObj l (.loop r')))
    (A : Nat → Value → Act → World → Prop) (hA : ∀ t v a' W l r r', A t v a' W → W.heap[l]? = some (.loop r) → A t v a' (W.putObj l (.loop r')))
    (hassign : ∀ m l i ka kc W K, w.heap.size ≤ W.heap.size → (∀ a' W', A i (ptv (pt T i) ka kc) a' W' → Below W.heap.size W W' → K a' W') → assign.wpIn (Fence.wide.inRound l) m Tryz.prog (Exit.then K (fun _ _ _ => False)) { tmps := (ps.zip #[.int .i64 (i : Int), ptv (pt T i) ka kc]).foldl (fun t (p, v) => t.setIfInBounds p v) a.tmps, defers := [] } W)
    (hbody : ∀ m l i ka kc a' W0 W, A i (ptv (pt T i) ka kc) a' W → w.heap.size ≤ l → (∃ r, W0.heap[l]? = some (.loop r)) → Lk l W0 W → I (i + 1) W0 → i < T.length → RdI W0 ka (pt T i).kids → (∃ b off, pa = some ⟨b, off, none⟩ ∧ W0.cell? ⟨b, off + i * 4 + 3, none⟩ = some (.slice ka (pt T i).kids.length kc)) → body.wpIn (Fence.wide.inRound l) m Tryz.prog (fun e _ W' => e = .normal ∧ Kb w.heap.size W W' ∧ I i W') a' W)
    (hdone : ∀ D W, w.heap.size ≤ D → I 0 W → W.heap[D]? = some (.deferred (some [])) → Q .normal { a with defers := { target := .collected D, args := #[] } :: a.defers } W) :
    (Code.rangeFunc gf ps assign body).wpIn Fence.wide n Tryz.prog Q a w := by
  refine wpIn_rangeFunc ?_
  intro fn hfn
  obtain ⟨rc, hrc⟩ : ∃ rc : LoopState → Option Code → Loop, rc = fun s p => { state := s, pending := p, fn, tmps := a.tmps, params := ps, assign, body, defers := w.heap.size } := ⟨_, rfl⟩
  obtain ⟨V, hV'⟩ : ∃ V, V = (w.alloc (.deferred (some []))).alloc (.loop (rc .ready none)) := ⟨_, rfl⟩
  have al : Below w.heap.size w V := by rw [hV']; exact ((Below.refl _ w).alloc (Nat.le_refl _) _).alloc (by simp) _
  have vd : V.heap[w.heap.size]? = some (.deferred (some [])) := by
    rw [hV']; exact (Below.heap_alloc _ _ _ (by simp)).trans (World.alloc_heap_new w _)
  have vl : V.heap[w.heap.size + 1]? = some (.loop (rc .ready none)) := by
    rw [hV']
    have := World.alloc_heap_new (w.alloc (.deferred (some []))) (.loop (rc .ready none))
    rwa [World.size_alloc] at this
  -- one round
  have ONE : ∀ m i ka kc (W : World) (RO : Ending → World → Prop), W.heap[w.heap.size + 1]? = some (.loop (rc .ready none)) → W.heap[w.heap.size]? = some (.deferred (some [])) →
      (∀ a' W2, A i (ptv (pt T i) ka kc) a' W2 → Lk (w.heap.size + 1) W W2 → body.wpIn (Fence.wide.inRound (w.heap.size + 1)) m Tryz.prog (fun e _ W' => Kb w.heap.size W2 W' ∧ e = .normal ∧ (W'.heap[w.heap.size + 1]? = some (.loop (rc .busy none)) → W'.heap[w.heap.size]? = some (.deferred (some [])) → RO (.returned (.bool true)) (W'.putObj (w.heap.size + 1) (.loop (rc .ready none))))) a' W2) →
      YieldAt Fence.wide m Tryz.prog (w.heap.size + 1) #[.int .i64 (i : Int), ptv (pt T i) ka kc] W RO := by
    intro m i ka kc W RO hL hD hbd
    have hy := run_yield (P := Tryz.prog) (args := #[.int .i64 (i : Int), ptv (pt T i) ka kc]) hL (by rw [hrc]; simp [hps])
    rw [hrc] at hy
    refine ⟨fn, _, assign, body, hy, roundIn_of_wpIn hfn (hassign m _ i ka kc W _ (by have := lt_blk hL; omega) ?_)⟩
    intro a' W1 ha' hW1
    have hltW := lt_blk hL
    have hDW := lt_blk hD
    replace hD := (hW1.block _ hDW).trans hD
    replace hL := (hW1.block _ hltW).trans hL
    have hlt := lt_blk hL
    refine ⟨_, run_beginRound hL (by rw [hrc]), ?_⟩
    have L2 : (W1.putObj (w.heap.size + 1) (.loop { rc .ready none with state := .busy })).heap[w.heap.size + 1]? = some (.loop { rc .ready none with state := .busy }) := World.putObj_heap_same hlt
    have D2 : (W1.putObj (w.heap.size + 1) (.loop { rc .ready none with state := .busy })).heap[w.heap.size]? = some (.deferred (some [])) := (World.putObj_heap_other (by omega)).trans hD
    have hlk : Lk (w.heap.size + 1) W (W1.putObj (w.heap.size + 1) (.loop { rc .ready none with state := .busy })) := by
      refine ⟨hW1.os, hW1.tape, hW1.output, by rw [World.putObj_size]; exact hW1.size, fun k hk hne => ?_⟩
      rw [World.putObj_heap_other hne, hW1.block k hk]
    refine wpIn_mono (hbd a' _ (hA _ _ _ _ _ _ _ ha' hL) hlk) ?_
    rintro e a3 W3 ⟨hk, rfl, hi3⟩
    have L3 := hk.same _ _ (by omega) L2 rfl
    have D3 := hk.same _ _ (Nat.le_refl _) D2 rfl
    have L3' : W3.heap[w.heap.size + 1]? = some (.loop (rc .busy none)) := by rw [L3, hrc]
    have hr := run_endRound (P := Tryz.prog) none L3'
    refine ⟨_, _, hr, ?_⟩
    have := hi3 L3' D3
    rw [hrc] at this ⊢
    exact this
  refine ⟨w.heap.size + 1, [{ target := .collected w.heap.size, args := #[] }], V, { target := .fn (.func 119) #[.pointer (some ⟨X, 0, none⟩)], args := #[.func (.yield (w.heap.size + 1)) #[] #[]] }, V, 119,
    #[.func (.yield (w.heap.size + 1)) #[] #[], .pointer (some ⟨X, 0, none⟩)], V, ?_, ?_, fun f' _ => trivial, ?_, fun _ => by omega, ?_⟩
  · rw [hV', hrc]
    exact run_enterLoop_outer _ _ _ _ _
  · simp only [resolve, hg, backB]
    simp [go_sem]
  · simp [invoke, go_sem]
  · refine (back_px (n - 1) (by omega) (w.heap.size + 1) X T pa cap hL h1
      (fun k W => I k W ∧ W.heap[w.heap.size + 1]? = some (.loop (rc .ready none)) ∧ W.heap[w.heap.size]? = some (.deferred (some [])))
      (fun k W h => hI k W h.1) ?_ V ⟨h0 _ al, vl, vd⟩).mono ?_
    · rintro m i ka kc W ⟨hi, hL, hD⟩ hil hrd hce
      refine ONE m i ka kc W _ hL hD ?_
      intro a' W2 hA2 hlk
      refine wpIn_mono (hbody m (w.heap.size + 1) i ka kc a' W W2 hA2 (by omega) ⟨_, hL⟩ hlk hi hil hrd hce) ?_
      rintro e a3 W' ⟨he, hk, hi'⟩
      exact ⟨hk, he, fun L3 D3 => ⟨rfl, hput _ _ _ _ _ hi' (by omega) L3, World.putObj_heap_same (lt_blk L3), (World.putObj_heap_other (by omega)).trans D3⟩⟩
    · rintro e W2 ⟨⟨v', rfl⟩, hi, hL, hD⟩
      have he := run_endLoop (P := Tryz.prog) hL (by rw [hrc]; simp)
      rw [hrc] at he
      exact ⟨none, _, he, hdone _ _ (Nat.le_refl _) (hput _ _ _ _ _ hi (by omega) hL) ((World.putObj_heap_other (by omega)).trans hD)⟩
end Go.Proofs.YtimmjikpcekffaaGreatDoor.L
namespace Go.RowKit
open Go
/-- No operation of the region is a defer. -/
def noDefer (ops : Array Oper) : Bool := ops.toList.all fun o => match o.op with | .defer _ => false | _ => true
theorem noDefer_spec {ops : Array Oper} (h : noDefer ops = true) {i : Nat} {o : Oper} (ho : ops[i]? = some o) (c) : o.op ≠ .defer c := by
  intro e
  have hm : o ∈ ops.toList := by
    rw [← Array.getElem?_toList] at ho
    exact List.mem_of_getElem? ho
  have := List.all_eq_true.1 h o hm
  rw [e] at this
  cases this
section
variable {n : Nat} {P : Program} {ops : Array Oper} {Q : Exit → Act → World → Prop} {md : Region.Mode} {l : Nat} {F : Fence}
/-- An operation that is no defer goes in a round as outside. -/
theorem op_round {o : Oper} {a : Act} {w : World} {K : Act → World → Prop} (hd : ∀ c, o.op ≠ .defer c) (hr : F.round = none) (h : o.wpIn F n P a w K Q) : o.wpIn (F.inRound l) n P a w K Q := by
  unfold Oper.wpIn at *
  rw [hr, Oper.semAt_none] at h
  rw [Oper.semAt_eq _ _ _ hd]
  refine ⟨h.1, ?_⟩
  exact h.2
theorem opn_round {i : Nat} {a : Act} {w : World} {K K' : Act → World → Prop} (hd : noDefer ops = true) (hr : F.round = none) (hk : ∀ a w, K a w → K' a w) (h : wpOpIn F n P ops Q i K a w) : wpOpIn (F.inRound l) n P ops Q i K' a w := by
  have h := wpOpIn_mono hk h
  unfold wpOpIn at *
  cases ho : ops[i]? with
  | none => simp only [ho] at h; exact h
  | some o =>
    simp only [ho] at h
    by_cases hw : Region.wanted o (yielded ops a.tmps) = true
    · simp only [hw, if_true] at h ⊢
      exact op_round (noDefer_spec hd ho) hr h
    · simp only [hw] at h ⊢
      exact h
theorem any_round (hd : noDefer ops = true) (hr : F.round = none) : ∀ (fuel : Nat) (listed : Array Bool) (a : Act) (w : World), wpAnyIn F n P md ops Q fuel listed a w → wpAnyIn (F.inRound l) n P md ops Q fuel listed a w
  | 0, _, _, _, h => h
  | fuel + 1, _, _, _, h => ⟨h.1, fun i hi => opn_round hd hr (fun a w => any_round hd hr fuel _ a w) (h.2 i hi)⟩
theorem getD_push_lt {l : Array Bool} {j : Nat} {d b : Bool} (h : j < l.size) : (l.push b).getD j d = l.getD j d := by
  rw [Array.getD_eq_getD_getElem?, Array.getD_eq_getD_getElem?, Array.getElem?_push_lt h, Array.getElem?_eq_getElem h]
theorem getD_push_eq {l : Array Bool} {d b : Bool} : (l.push b).getD l.size d = b := by
  rw [Array.getD_eq_getD_getElem?, Array.getElem?_push_size]
  rfl
theorem getD_any {l : Array Bool} {j : Nat} {d e : Bool} (h : j < l.size) : l.getD j d = l.getD j e := by
  rw [Array.getD_eq_getD_getElem?, Array.getD_eq_getD_getElem?, Array.getElem?_eq_getElem h]
  rfl
theorem least {p : Nat → Prop} : ∀ n, p n → ∃ m, m ≤ n ∧ p m ∧ ∀ k, k < m → ¬ p k := by
  intro n
  induction n using Nat.strongRecOn with
  | ind n ih =>
    intro hn
    by_cases h : ∃ k, k < n ∧ p k
    · obtain ⟨k, hk, hp⟩ := h
      obtain ⟨m, h1, h2, h3⟩ := ih k hk hp
      exact ⟨m, by omega, h2, h3⟩
    · exact ⟨n, Nat.le_refl _, hn, fun k hk hp => h ⟨k, hk, hp⟩⟩
/-- A region whose last operation comes behind all others, which only read. -/
theorem any_last {o : Oper} {C : World → Prop} {Q0 : Act → Prop} (hro : F.round = none) (hg : ∀ (j : Nat) (x : Oper), ops[j]? = some x → x.guard = none) (ho : o.guard = none)
    (hcov : ∀ j, j < ops.size → ∃ e, e ∈ o.after ∧ Region.binds md e = true ∧ e.on = j) (hlo : ∀ e, e ∈ o.after → e.on < ops.size)
    (hlex : ∀ (j : Nat) (x : Oper), ops[j]? = some x → ∀ e, e ∈ x.after → e.on < j)
    (hQ : ∀ a w, C w → Q0 a → o.wpIn F n P a w (fun a' w' => Q .normal a' w') Q) :
    ∀ (fuel : Nat) (listed : Array Bool) (a : Act) (w : World), listed.size = ops.size → C w → wpAnyQIn F n P md ops C Q0 fuel listed a → wpAnyIn F n P md (ops.push o) Q (fuel + 1) (listed.push false) a w := by
  intro fuel
  induction fuel with
  | zero =>
    intro listed a w hz hw h
    have key : ∀ j, j < ops.size → listed.getD j true = true := by
      intro j hj
      apply Classical.byContradiction
      intro hn
      obtain ⟨m, hm1, hm2, hm3⟩ := least (p := fun j => ¬ listed.getD j true = true) j hn
      have : m ∈ Region.ready md ops listed := by
        refine mem_ready.2 ⟨by simpa using hm2, ops[m]'(by omega), Array.getElem?_eq_getElem _, fun e he _ => ?_⟩
        have hl := hlex m _ (Array.getElem?_eq_getElem (by omega)) e he
        have := Classical.byContradiction (hm3 e.on hl)
        rw [getD_any (e := true) (by omega)]
        exact this
      rw [h.1] at this
      cases this
    refine ⟨fun h0 => ?_, fun i hi => ?_⟩
    · exfalso
      have : ops.size ∈ Region.ready md (ops.push o) (listed.push false) := by
        refine mem_ready.2 ⟨by rw [← hz]; exact getD_push_eq, o, Array.getElem?_push_size, fun e he _ => ?_⟩
        have hl := hlo e he
        rw [getD_push_lt (by omega), getD_any (e := true) (by omega)]
        exact key _ hl
      rw [h0] at this
      cases this
    · obtain ⟨h1, x, hx, h2⟩ := mem_ready.1 hi
      by_cases hlt : i < ops.size
      · rw [getD_push_lt (by omega), key i hlt] at h1
        cases h1
      · have hie : i = ops.size := by
          have := (Array.getElem?_eq_some_iff.1 hx).1
          rw [Array.size_push] at this
          omega
        subst hie
        rw [Array.getElem?_push_size] at hx
        cases hx
        unfold wpOpIn
        rw [Array.getElem?_push_size]
        simp only [Region.wanted, ho, if_true]
        refine Oper.wpIn_mono (fun a' w' hq => ?_) (hQ a w hw h.2)
        refine ⟨?_, hq⟩
        apply List.eq_nil_iff_forall_not_mem.2
        intro k hk
        obtain ⟨k1, y, hy, _⟩ := mem_ready.1 hk
        have hks := (Array.getElem?_eq_some_iff.1 hy).1
        rw [Array.size_push] at hks
        by_cases hkl : k < ops.size
        · rw [Array.getD_eq_getD_getElem?, Array.getElem?_setIfInBounds_ne (by omega), ← Array.getD_eq_getD_getElem?, getD_push_lt (by omega), key k hkl] at k1
          cases k1
        · have : k = ops.size := by omega
          subst this
          rw [Array.getD_eq_getD_getElem?, Array.getElem?_setIfInBounds_self_of_lt (by rw [Array.size_push]; omega)] at k1
          cases k1
  | succ fuel ih =>
    intro listed a w hz hw h
    refine ⟨fun h0 => ?_, fun i hi => ?_⟩
    · exfalso
      by_cases hall : ∀ j, j < ops.size → listed.getD j true = true
      · have : ops.size ∈ Region.ready md (ops.push o) (listed.push false) := by
          refine mem_ready.2 ⟨by rw [← hz]; exact getD_push_eq, o, Array.getElem?_push_size, fun e he _ => ?_⟩
          have hl := hlo e he
          rw [getD_push_lt (by omega), getD_any (e := true) (by omega)]
          exact hall _ hl
        rw [h0] at this
        cases this
      · have : ∃ j, j < ops.size ∧ ¬ listed.getD j true = true := by
          apply Classical.byContradiction
          intro hn
          exact hall fun j hj => Classical.byContradiction fun hc => hn ⟨j, hj, hc⟩
        obtain ⟨j, hj, hn⟩ := this
        obtain ⟨m, hm1, hm2, hm3⟩ := least (p := fun j => ¬ listed.getD j true = true) j hn
        have : m ∈ Region.ready md (ops.push o) (listed.push false) := by
          refine mem_ready.2 ⟨by rw [getD_push_lt (by omega)]; simpa using hm2, ops[m]'(by omega), by rw [Array.getElem?_push_lt (by omega)], fun e he _ => ?_⟩
          have hl := hlex m _ (Array.getElem?_eq_getElem (by omega)) e he
          have := Classical.byContradiction (hm3 e.on hl)
          rw [getD_push_lt (by omega), getD_any (e := true) (by omega)]
          exact this
        rw [h0] at this
        cases this
    · obtain ⟨h1, x, hx, h2⟩ := mem_ready.1 hi
      by_cases hlt : i < ops.size
      · have hx0 : ops[i]? = some x := by rw [Array.getElem?_push_lt hlt] at hx; rw [Array.getElem?_eq_getElem hlt]; exact hx
        have hr : i ∈ Region.ready md ops listed := by
          refine mem_ready.2 ⟨by rw [getD_push_lt (by omega)] at h1; exact h1, x, hx0, fun e he hb => ?_⟩
          have hl := hlex i x hx0 e he
          have := h2 e he hb
          rw [getD_push_lt (by omega)] at this
          exact this
        have hq := h.2 i hr
        unfold qOpIn at hq
        rw [hx0] at hq
        have hgx := hg i x hx0
        simp only [Region.wanted, hgx, if_true] at hq
        unfold wpOpIn
        rw [hx]
        simp only [Region.wanted, hgx, if_true]
        refine Oper.wpIn_of_quiet hro hw (fun a' w' hw' hk => ?_) hq.1 hq.2
        have := ih (listed.setIfInBounds i true) a' w' (by simpa using hz) hw' hk
        have e : (listed.setIfInBounds i true).push false = (listed.push false).setIfInBounds i true := by
          apply Array.ext_getElem?
          intro k
          rw [Array.getElem?_push, Array.getElem?_setIfInBounds, Array.getElem?_setIfInBounds, Array.getElem?_push]
          simp only [Array.size_setIfInBounds, Array.size_push]
          by_cases e1 : k = listed.size
          · have hne : ¬ i = k := by omega
            rw [if_pos e1, if_neg hne, if_pos e1]
          · rw [if_neg e1]
            by_cases e2 : i = k
            · rw [if_pos e2, if_pos e2]
              by_cases e3 : i < listed.size
              · rw [if_pos e3, if_pos (by omega)]
              · omega
            · rw [if_neg e2, if_neg e2, if_neg e1]
        rw [e] at this
        exact this
      · have hie : i = ops.size := by
          have := (Array.getElem?_eq_some_iff.1 hx).1
          rw [Array.size_push] at this
          omega
        subst hie
        rw [Array.getElem?_push_size] at hx
        cases hx
        have key : ∀ j, j < ops.size → listed.getD j true = true := by
          intro j hj
          obtain ⟨e, he, hb, rfl⟩ := hcov j hj
          have := h2 e he hb
          rw [getD_push_lt (by omega)] at this
          rw [getD_any (e := false) (by omega)]
          exact this
        have hr0 : Region.ready md ops listed = [] := by
          apply List.eq_nil_iff_forall_not_mem.2
          intro k hk
          obtain ⟨k1, y, hy, _⟩ := mem_ready.1 hk
          rw [key k (Array.getElem?_eq_some_iff.1 hy).1] at k1
          cases k1
        unfold wpOpIn
        rw [Array.getElem?_push_size]
        simp only [Region.wanted, ho, if_true]
        refine Oper.wpIn_mono (fun a' w' hq => ?_) (hQ a w hw (h.1 hr0))
        refine wpAnyIn_done ?_ hq _
        apply List.eq_nil_iff_forall_not_mem.2
        intro k hk
        obtain ⟨k1, y, hy, _⟩ := mem_ready.1 hk
        have hks := (Array.getElem?_eq_some_iff.1 hy).1
        rw [Array.size_push] at hks
        by_cases hkl : k < ops.size
        · rw [Array.getD_eq_getD_getElem?, Array.getElem?_setIfInBounds_ne (by omega), ← Array.getD_eq_getD_getElem?, getD_push_lt (by omega), key k hkl] at k1
          cases k1
        · have : k = ops.size := by omega
          subst this
          rw [Array.getD_eq_getD_getElem?, Array.getElem?_setIfInBounds_self_of_lt (by rw [Array.size_push]; omega)] at k1
          cases k1
end
/-- The last operation comes behind all others, nothing is guarded, and everything comes behind what stands ahead of it. -/
def lastOk (md : Region.Mode) (L : List Oper) (o : Oper) : Bool :=
  L.all (fun x => x.guard.isNone) && o.guard.isNone && (List.range L.length).all (fun j => o.after.toList.any (fun e => Region.binds md e && e.on == j)) && o.after.toList.all (fun e => decide (e.on < L.length)) && (List.range L.length).all (fun j => match L[j]? with | none => true | some x => x.after.toList.all (fun e => decide (e.on < j)))
theorem lastOk_spec {md : Region.Mode} {L : List Oper} {o : Oper} (h : lastOk md L o = true) :
    (∀ (j : Nat) (x : Oper), L.toArray[j]? = some x → x.guard = none) ∧ o.guard = none ∧ (∀ j, j < L.toArray.size → ∃ e, e ∈ o.after ∧ Region.binds md e = true ∧ e.on = j) ∧ (∀ e, e ∈ o.after → e.on < L.toArray.size) ∧ (∀ (j : Nat) (x : Oper), L.toArray[j]? = some x → ∀ e, e ∈ x.after → e.on < j) := by
  unfold lastOk at h
  simp only [Bool.and_eq_true] at h
  obtain ⟨⟨⟨⟨h1, h2⟩, h3⟩, h4⟩, h5⟩ := h
  refine ⟨fun j x hx => ?_, by simpa using h2, fun j hj => ?_, fun e he => ?_, fun j x hx e he => ?_⟩
  · have hm : x ∈ L := by
      rw [List.getElem?_toArray] at hx
      exact List.mem_of_getElem? hx
    have := List.all_eq_true.1 h1 x hm
    simpa using this
  · have := List.all_eq_true.1 h3 j (List.mem_range.2 (by simpa using hj))
    obtain ⟨e, he, hb⟩ := List.any_eq_true.1 this
    simp only [Bool.and_eq_true, beq_iff_eq] at hb
    exact ⟨e, by simpa using he, hb.1, hb.2⟩
  · have := List.all_eq_true.1 h4 e (by simpa using he)
    simpa using this
  · rw [List.getElem?_toArray] at hx
    have hj : j < L.length := (List.getElem?_eq_some_iff.1 hx).1
    have := List.all_eq_true.1 h5 j (List.mem_range.2 hj)
    simp only [hx] at this
    have := List.all_eq_true.1 this e (by simpa using he)
    simpa using this
/-- A region that draws, reads, and writes at its end, in a round. -/
theorem quiet_last_round {F : Fence} {n l : Nat} {P : Program} {Q : Exit → Act → World → Prop} {id : Nat} {a : Act} {w : World} {LL : List Oper} (hne : LL ≠ []) (hr : F.round = none) (hd : noDefer LL.toArray = true) (hm : P.follows .mixedOrders = true)
    (hB : Region.lexB .any LL.dropLast.toArray = true) (hk : lastOk .any LL.dropLast (LL.getLast hne) = true)
    (h : wpQuietIn F n P LL.dropLast.toArray (fun w' => ∃ n, w' = w.drewN n) (fun a' => ∀ w', (∃ n, w' = w.drewN n) → (LL.getLast hne).wpIn F n P a' w' (fun a'' w'' => Q .normal a'' w'') Q) LL.dropLast a) : (Code.region id LL.toArray true).wpIn (F.inRound l) n P Q a w := by
  have e : LL.toArray = LL.dropLast.toArray.push (LL.getLast hne) := by
    rw [List.push_toArray, List.dropLast_concat_getLast hne]
  obtain ⟨k1, k2, k3, k4, k5⟩ := lastOk_spec hk
  simp only [Region.lexB, Bool.and_eq_true] at hB
  refine wpIn_region_any hm (any_round hd hr _ _ _ _ ?_)
  have hq := wpAnyQIn_lex (F := F) (n := n) (C := fun w' => ∃ n, w' = w.drewN n) (md := .any) hB.1 LL.dropLast 0 (Array.replicate LL.dropLast.length false) a (by simp) (by simpa using hB.2) h
  have := any_last (md := .any) (Q := Q) hr k1 k2 k3 k4 k5 (fun a' w' hw' h0 => h0 w' hw') LL.dropLast.length (Array.replicate LL.dropLast.length false) a { w with drawn := w.drawn + 1 } (by simp) ⟨1, rfl⟩ hq
  rw [← e] at this
  have hz : LL.toArray.size = LL.dropLast.length + 1 := by
    rw [e]
    simp
  rw [hz, Array.replicate_succ]
  exact this
end Go.RowKit
