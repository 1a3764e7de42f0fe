import Derived.Sort.QuietIn
import Derived.RangeFuncCalls
import Derived.Test.YtlhlpamciafocaaGreatDoorMgAO
import Derived.Test.YtlhlpamciafocaaGreatDoorMgAD
import Derived.Test.YtlhlpamciafocaaGreatDoorMgAR
import Derived.Test.YtlhlpamciafocaaGreatDoorMgAX
namespace Go.RowKit
open Go
/-- No operation of the region is a defer. -/
def noDefer (ops : Array Oper) : Bool := ops.toList.all fun o => match o.op with | .defer _ => false | _ => true
theorem noDefer_spec {ops : Array Oper} (h : noDefer ops = true) {i : Nat} {o : Oper} (ho : ops[i]? = some o) (c) : o.op ≠ .defer c := by
  intro e
  have hm : o ∈ ops.toList := by
    rw [← Array.getElem?_toList] at ho
    exact List.mem_of_getElem? ho
  have := List.all_eq_true.1 h o hm
  rw [e] at this
  cases this
section
variable {n : Nat} {P : Program} {ops : Array Oper} {Q : Exit → Act → World → Prop} {md : Region.Mode} {l : Nat} {F : Fence}
/-- An operation that is no defer goes in a round as outside. -/
theorem op_round {o : Oper} {a : Act} {w : World} {K : Act → World → Prop} (hd : ∀ c, o.op ≠ .defer c) (hr : F.round = none) (h : o.wpIn F n P a w K Q) : o.wpIn (F.inRound l) n P a w K Q := by
  unfold Oper.wpIn at *
  rw [hr, Oper.semAt_none] at h
  rw [Oper.semAt_eq _ _ _ hd]
  refine ⟨h.1, ?_⟩
  exact h.2
theorem opn_round {i : Nat} {a : Act} {w : World} {K K' : Act → World → Prop} (hd : noDefer ops = true) (hr : F.round = none) (hk : ∀ a w, K a w → K' a w) (h : wpOpIn F n P ops Q i K a w) : wpOpIn (F.inRound l) n P ops Q i K' a w := by
  have h := wpOpIn_mono hk h
  unfold wpOpIn at *
  cases ho : ops[i]? with
  | none => simp only [ho] at h; exact h
  | some o =>
    simp only [ho] at h
    by_cases hw : Region.wanted o (yielded ops a.tmps) = true
    · simp only [hw, if_true] at h ⊢
      exact op_round (noDefer_spec hd ho) hr h
    · simp only [hw] at h ⊢
      exact h
theorem any_round (hd : noDefer ops = true) (hr : F.round = none) : ∀ (fuel : Nat) (listed : Array Bool) (a : Act) (w : World), wpAnyIn F n P md ops Q fuel listed a w → wpAnyIn (F.inRound l) n P md ops Q fuel listed a w
  | 0, _, _, _, h => h
  | fuel + 1, _, _, _, h => ⟨h.1, fun i hi => opn_round hd hr (fun a w => any_round hd hr fuel _ a w) (h.2 i hi)⟩
theorem getD_push_lt {l : Array Bool} {j : Nat} {d b : Bool} (h : j < l.size) : (l.push b).getD j d = l.getD j d := by
  rw [Array.getD_eq_getD_getElem?, Array.getD_eq_getD_getElem?, Array.getElem?_push_lt h, Array.getElem?_eq_getElem h]
theorem getD_push_eq {l : Array Bool} {d b : Bool} : (l.push b).getD l.size d = b := by
  rw [Array.getD_eq_getD_getElem?, Array.getElem?_push_size]
  rfl
theorem getD_any {l : Array Bool} {j : Nat} {d e : Bool} (h : j < l.size) : l.getD j d = l.getD j e := by
  rw [Array.getD_eq_getD_getElem?, Array.getD_eq_getD_getElem?, Array.getElem?_eq_getElem h]
  rfl
theorem least {p : Nat → Prop} : ∀ n, p n → ∃ m, m ≤ n ∧ p m ∧ ∀ k, k < m → ¬ p k := by
  intro n
  induction n using Nat.strongRecOn with
  | ind n ih =>
    intro hn
    by_cases h : ∃ k, k < n ∧ p k
    · obtain ⟨k, hk, hp⟩ := h
      obtain ⟨m, h1, h2, h3⟩ := ih k hk hp
      exact ⟨m, by omega, h2, h3⟩
    · exact ⟨n, Nat.le_refl _, hn, fun k hk hp => h ⟨k, hk, hp⟩⟩
/-- A region whose last operation comes behind all others, which only read. -/
theorem any_last {o : Oper} {C : World → Prop} {Q0 : Act → Prop} (hro : F.round = none) (hg : ∀ (j : Nat) (x : Oper), ops[j]? = some x → x.guard = none) (ho : o.guard = none)
    (hcov : ∀ j, j < ops.size → ∃ e, e ∈ o.after ∧ Region.binds md e = true ∧ e.on = j) (hlo : ∀ e, e ∈ o.after → e.on < ops.size)
    (hlex : ∀ (j : Nat) (x : Oper), ops[j]? = some x → ∀ e, e ∈ x.after → e.on < j)
    (hQ : ∀ a w, C w → Q0 a → o.wpIn F n P a w (fun a' w' => Q .normal a' w') Q) :
    ∀ (fuel : Nat) (listed : Array Bool) (a : Act) (w : World), listed.size = ops.size → C w → wpAnyQIn F n P md ops C Q0 fuel listed a → wpAnyIn F n P md (ops.push o) Q (fuel + 1) (listed.push false) a w := by
  intro fuel
  induction fuel with
  | zero =>
    intro listed a w hz hw h
    have key : ∀ j, j < ops.size → listed.getD j true = true := by
      intro j hj
      apply Classical.byContradiction
      intro hn
      obtain ⟨m, hm1, hm2, hm3⟩ := least (p := fun j => ¬ listed.getD j true = true) j hn
      have : m ∈ Region.ready md ops listed := by
        refine mem_ready.2 ⟨by simpa using hm2, ops[m]'(by omega), Array.getElem?_eq_getElem _, fun e he _ => ?_⟩
        have hl := hlex m _ (Array.getElem?_eq_getElem (by omega)) e he
        have := Classical.byContradiction (hm3 e.on hl)
        rw [getD_any (e := true) (by omega)]
        exact this
      rw [h.1] at this
      cases this
    refine ⟨fun h0 => ?_, fun i hi => ?_⟩
    · exfalso
      have : ops.size ∈ Region.ready md (ops.push o) (listed.push false) := by
        refine mem_ready.2 ⟨by rw [← hz]; exact getD_push_eq, o, Array.getElem?_push_size, fun e he _ => ?_⟩
        have hl := hlo e he
        rw [getD_push_lt (by omega), getD_any (e := true) (by omega)]
        exact key _ hl
      rw [h0] at this
      cases this
    · obtain ⟨h1, x, hx, h2⟩ := mem_ready.1 hi
      by_cases hlt : i < ops.size
      · rw [getD_push_lt (by omega), key i hlt] at h1
        cases h1
      · have hie : i = ops.size := by
          have := (Array.getElem?_eq_some_iff.1 hx).1
          rw [Array.size_push] at this
          omega
        subst hie
        rw [Array.getElem?_push_size] at hx
        cases hx
        unfold wpOpIn
        rw [Array.getElem?_push_size]
        simp only [Region.wanted, ho, if_true]
        refine Oper.wpIn_mono (fun a' w' hq => ?_) (hQ a w hw h.2)
        refine ⟨?_, hq⟩
        apply List.eq_nil_iff_forall_not_mem.2
        intro k hk
        obtain ⟨k1, y, hy, _⟩ := mem_ready.1 hk
        have hks := (Array.getElem?_eq_some_iff.1 hy).1
        rw [Array.size_push] at hks
        by_cases hkl : k < ops.size
        · rw [Array.getD_eq_getD_getElem?, Array.getElem?_setIfInBounds_ne (by omega), ← Array.getD_eq_getD_getElem?, getD_push_lt (by omega), key k hkl] at k1
          cases k1
        · have : k = ops.size := by omega
          subst this
          rw [Array.getD_eq_getD_getElem?, Array.getElem?_setIfInBounds_self_of_lt (by rw [Array.size_push]; omega)] at k1
          cases k1
  | succ fuel ih =>
    intro listed a w hz hw h
    refine ⟨fun h0 => ?_, fun i hi => ?_⟩
    · exfalso
      by_cases hall : ∀ j, j < ops.size → listed.getD j true = true
      · have : ops.size ∈ Region.ready md (ops.push o) (listed.push false) := by
          refine mem_ready.2 ⟨by rw [← hz]; exact getD_push_eq, o, Array.getElem?_push_size, fun e he _ => ?_⟩
          have hl := hlo e he
          rw [getD_push_lt (by omega), getD_any (e := true) (by omega)]
          exact hall _ hl
        rw [h0] at this
        cases this
      · have : ∃ j, j < ops.size ∧ ¬ listed.getD j true = true := by
          apply Classical.byContradiction
          intro hn
          exact hall fun j hj => Classical.byContradiction fun hc => hn ⟨j, hj, hc⟩
        obtain ⟨j, hj, hn⟩ := this
        obtain ⟨m, hm1, hm2, hm3⟩ := least (p := fun j => ¬ listed.getD j true = true) j hn
        have : m ∈ Region.ready md (ops.push o) (listed.push false) := by
          refine mem_ready.2 ⟨by rw [getD_push_lt (by omega)]; simpa using hm2, ops[m]'(by omega), by rw [Array.getElem?_push_lt (by omega)], fun e he _ => ?_⟩
          have hl := hlex m _ (Array.getElem?_eq_getElem (by omega)) e he
          have := Classical.byContradiction (hm3 e.on hl)
          rw [getD_push_lt (by omega), getD_any (e := true) (by omega)]
          exact this
        rw [h0] at this
        cases this
    · obtain ⟨h1, x, hx, h2⟩ := mem_ready.1 hi
      by_cases hlt : i < ops.size
      · have hx0 : ops[i]? = some x := by rw [Array.getElem?_push_lt hlt] at hx; rw [Array.getElem?_eq_getElem hlt]; exact hx
        have hr : i ∈ Region.ready md ops listed := by
          refine mem_ready.2 ⟨by rw [getD_push_lt (by omega)] at h1; exact h1, x, hx0, fun e he hb => ?_⟩
          have hl := hlex i x hx0 e he
          have := h2 e he hb
          rw [getD_push_lt (by omega)] at this
          exact this
        have hq := h.2 i hr
        unfold qOpIn at hq
        rw [hx0] at hq
        have hgx := hg i x hx0
        simp only [Region.wanted, hgx, if_true] at hq
        unfold wpOpIn
        rw [hx]
        simp only [Region.wanted, hgx, if_true]
        refine Oper.wpIn_of_quiet hro hw (fun a' w' hw' hk => ?_) hq.1 hq.2
        have := ih (listed.setIfInBounds i true) a' w' (by simpa using hz) hw' hk
        have e : (listed.setIfInBounds i true).push false = (listed.push false).setIfInBounds i true := by
          apply Array.ext_getElem?
          intro k
          rw [Array.getElem?_push, Array.getElem?_setIfInBounds, Array.getElem?_setIfInBounds, Array.getElem?_push]
          simp only [Array.size_setIfInBounds, Array.size_push]
          by_cases e1 : k = listed.size
          · have hne : ¬ i = k := by omega
            rw [if_pos e1, if_neg hne, if_pos e1]
          · rw [if_neg e1]
            by_cases e2 : i = k
            · rw [if_pos e2, if_pos e2]
              by_cases e3 : i < listed.size
              · rw [if_pos e3, if_pos (by omega)]
              · omega
            · rw [if_neg e2, if_neg e2, if_neg e1]
        rw [e] at this
        exact this
      · have hie : i = ops.size := by
          have := (Array.getElem?_eq_some_iff.1 hx).1
          rw [Array.size_push] at this
          omega
        subst hie
        rw [Array.getElem?_push_size] at hx
        cases hx
        have key : ∀ j, j < ops.size → listed.getD j true = true := by
          intro j hj
          obtain ⟨e, he, hb, rfl⟩ := hcov j hj
          have := h2 e he hb
          rw [getD_push_lt (by omega)] at this
          rw [getD_any (e := false) (by omega)]
          exact this
        have hr0 : Region.ready md ops listed = [] := by
          apply List.eq_nil_iff_forall_not_mem.2
          intro k hk
          obtain ⟨k1, y, hy, _⟩ := mem_ready.1 hk
          rw [key k (Array.getElem?_eq_some_iff.1 hy).1] at k1
          cases k1
        unfold wpOpIn
        rw [Array.getElem?_push_size]
        simp only [Region.wanted, ho, if_true]
        refine Oper.wpIn_mono (fun a' w' hq => ?_) (hQ a w hw (h.1 hr0))
        refine wpAnyIn_done ?_ hq _
        apply List.eq_nil_iff_forall_not_mem.2
        intro k hk
        obtain ⟨k1, y, hy, _⟩ := mem_ready.1 hk
        have hks := (Array.getElem?_eq_some_iff.1 hy).1
        rw [Array.size_push] at hks
        by_cases hkl : k < ops.size
        · rw [Array.getD_eq_getD_getElem?, Array.getElem?_setIfInBounds_ne (by omega), ← Array.getD_eq_getD_getElem?, getD_push_lt (by omega), key k hkl] at k1
          cases k1
        · have : k = ops.size := by omega
          subst this
          rw [Array.getD_eq_getD_getElem?, Array.getElem?_setIfInBounds_self_of_lt (by rw [Array.size_push]; omega)] at k1
          cases k1
end
/-- The last operation comes behind all others, nothing is guarded, and everything comes behind what stands ahead of it. -/
def lastOk (md : Region.Mode) (L : List Oper) (o : Oper) : Bool :=
  L.all (fun x => x.guard.isNone) && o.guard.isNone && (List.range L.length).all (fun j => o.after.toList.any (fun e => Region.binds md e && e.on == j)) && o.after.toList.all (fun e => decide (e.on < L.length)) && (List.range L.length).all (fun j => match L[j]? with | none => true | some x => x.after.toList.all (fun e => decide (e.on < j)))
theorem lastOk_spec {md : Region.Mode} {L : List Oper} {o : Oper} (h : lastOk md L o = true) :
    (∀ (j : Nat) (x : Oper), L.toArray[j]? = some x → x.guard = none) ∧ o.guard = none ∧ (∀ j, j < L.toArray.size → ∃ e, e ∈ o.after ∧ Region.binds md e = true ∧ e.on = j) ∧ (∀ e, e ∈ o.after → e.on < L.toArray.size) ∧ (∀ (j : Nat) (x : Oper), L.toArray[j]? = some x → ∀ e, e ∈ x.after → e.on < j) := by
  unfold lastOk at h
  simp only [Bool.and_eq_true] at h
  obtain ⟨⟨⟨⟨h1, h2⟩, h3⟩, h4⟩, h5⟩ := h
  refine ⟨fun j x hx => ?_, by simpa using h2, fun j hj => ?_, fun e he => ?_, fun j x hx e he => ?_⟩
  · have hm : x ∈ L := by
      rw [List.getElem?_toArray] at hx
      exact List.mem_of_getElem? hx
    have := List.all_eq_true.1 h1 x hm
    simpa using this
  · have := List.all_eq_true.1 h3 j (List.mem_range.2 (by simpa using hj))
    obtain ⟨e, he, hb⟩ := List.any_eq_true.1 this
    simp only [Bool.and_eq_true, beq_iff_eq] at hb
    exact ⟨e, by simpa using he, hb.1, hb.2⟩
  · have := List.all_eq_true.1 h4 e (by simpa using he)
    simpa using this
  · rw [List.getElem?_toArray] at hx
    have hj : j < L.length := (List.getElem?_eq_some_iff.1 hx).1
    have := List.all_eq_true.1 h5 j (List.mem_range.2 hj)
    simp only [hx] at this
    have := List.all_eq_true.1 this e (by simpa using he)
    simpa using this
/-- A region that draws, reads, and writes at its end, in a round. -/
theorem quiet_last_round {F : Fence} {n l : Nat} {P : Program} {Q : Exit → Act → World → Prop} {id : Nat} {a : Act} {w : World} {LL : List Oper} (hne : LL ≠ []) (hr : F.round = none) (hd : noDefer LL.toArray = true) (hm : P.follows .mixedOrders = true)
    (hB : Region.lexB .any LL.dropLast.toArray = true) (hk : lastOk .any LL.dropLast (LL.getLast hne) = true)
    (h : wpQuietIn F n P LL.dropLast.toArray (fun w' => ∃ n, w' = w.drewN n) (fun a' => ∀ w', (∃ n, w' = w.drewN n) → (LL.getLast hne).wpIn F n P a' w' (fun a'' w'' => Q .normal a'' w'') Q) LL.dropLast a) : (Code.region id LL.toArray true).wpIn (F.inRound l) n P Q a w := by
  have e : LL.toArray = LL.dropLast.toArray.push (LL.getLast hne) := by
    rw [List.push_toArray, List.dropLast_concat_getLast hne]
  obtain ⟨k1, k2, k3, k4, k5⟩ := lastOk_spec hk
  simp only [Region.lexB, Bool.and_eq_true] at hB
  refine wpIn_region_any hm (any_round hd hr _ _ _ _ ?_)
  have hq := wpAnyQIn_lex (F := F) (n := n) (C := fun w' => ∃ n, w' = w.drewN n) (md := .any) hB.1 LL.dropLast 0 (Array.replicate LL.dropLast.length false) a (by simp) (by simpa using hB.2) h
  have := any_last (md := .any) (Q := Q) hr k1 k2 k3 k4 k5 (fun a' w' hw' h0 => h0 w' hw') LL.dropLast.length (Array.replicate LL.dropLast.length false) a { w with drawn := w.drawn + 1 } (by simp) ⟨1, rfl⟩ hq
  rw [← e] at this
  have hz : LL.toArray.size = LL.dropLast.length + 1 := by
    rw [e]
    simp
  rw [hz, Array.replicate_succ]
  exact this
end Go.RowKit
namespace Go.Proofs.YtlhlpamciafocaaGreatDoor.L.Sw
open Go.RowKit
set_option linter.unusedVariables false
theorem loadFm (W : World) (N : Nat) (a b c d e f g : Value) (h : W.heap[N]? = some (.cells #[a, b, c, d, e, f, g] 88 (0, 0))) : (loadVar 88 ⟨N, 0, none⟩).run Tryz.prog W = .ok (.agg #[a, b, c, d, e, f, g]) W := by
  have h0 : W.cell? ⟨N, 0, none⟩ = some a := by unfold World.cell?; rw [h]; rfl
  have h1 : W.cell? ⟨N, 1, none⟩ = some b := by unfold World.cell?; rw [h]; rfl
  have h2 : W.cell? ⟨N, 2, none⟩ = some c := by unfold World.cell?; rw [h]; rfl
  have h3 : W.cell? ⟨N, 3, none⟩ = some d := by unfold World.cell?; rw [h]; rfl
  have h4 : W.cell? ⟨N, 4, none⟩ = some e := by unfold World.cell?; rw [h]; rfl
  have h5 : W.cell? ⟨N, 5, none⟩ = some f := by unfold World.cell?; rw [h]; rfl
  have h6 : W.cell? ⟨N, 6, none⟩ = some g := by unfold World.cell?; rw [h]; rfl
  go_simp
theorem res_fm {fn : Func} {p : Tmp} (hr : fn.results = #[.cell p 88]) (tmps : Array Value) (W : World) (N : Nat) (a b c d e f g : Value) (hp : tmps.getD p undef = .pointer (some ⟨N, 0, none⟩)) (h : W.heap[N]? = some (.cells #[a, b, c, d, e, f, g] 88 (0, 0))) :
    (results fn tmps).run Tryz.prog W = .ok (.agg #[a, b, c, d, e, f, g]) W := by
  rw [results_cell1 hr, hp]
  have := loadFm W N a b c d e f g h
  simp [asAddr, this, Result.andThen]
set_option maxHeartbeats 4000000 in
theorem formof_any (k : Int) (w : World) : Calls Tryz.prog 39 #[.int .i64 k] w fun e w' => e = .returned (fmv (fmO k)) ∧ Below w.heap.size w w' := by
  rcases kind_cases k with (rfl | rfl | rfl | rfl | rfl | rfl | rfl | rfl | rfl | rfl | rfl | rfl | rfl | rfl | rfl | rfl | rfl | rfl | rfl | rfl) | h
  case inr =>
    have e1 : (k == 1) = false := by simp; omega
    have e2 : (k == 2) = false := by simp; omega
    have e3 : (k == 3) = false := by simp; omega
    have e4 : (k == 4) = false := by simp; omega
    have e5 : (k == 5) = false := by simp; omega
    have e6 : (k == 6) = false := by simp; omega
    have e7 : (k == 7) = false := by simp; omega
    have e8 : (k == 8) = false := by simp; omega
    have e9 : (k == 9) = false := by simp; omega
    have e10 : (k == 10) = false := by simp; omega
    have e11 : (k == 11) = false := by simp; omega
    have e12 : (k == 12) = false := by simp; omega
    have e13 : (k == 13) = false := by simp; omega
    have e14 : (k == 14) = false := by simp; omega
    have e15 : (k == 15) = false := by simp; omega
    have e16 : (k == 16) = false := by simp; omega
    have e17 : (k == 17) = false := by simp; omega
    have e18 : (k == 18) = false := by simp; omega
    have e19 : (k == 19) = false := by simp; omega
    have e20 : (k == 20) = false := by simp; omega
    have ef : fmO k = ⟨0, 0, 0, 0, false, 0, 0⟩ := by unfold fmO; repeat rw [if_neg (by omega)]
    rw [ef]
    clear ef h
    go_enter Tryz.func39, Tryz.ntmps39
    go_wp2
    (try simp only [Exit.inBlock, Exit.then])
    refine bodyPost_ret (res_fm rfl _ _ w.heap.size _ _ _ _ _ _ _ rfl (heap_alloc_new w _)) rfl ⟨rfl, belowA w _⟩
  all_goals
    go_enter Tryz.func39, Tryz.ntmps39
    go_wp2
    (try simp only [Exit.inBlock, Exit.then])
    refine bodyPost_ret (res_fm rfl _ _ w.heap.size _ _ _ _ _ _ _ rfl (heap_alloc_new w _)) rfl ⟨rfl, belowA w _⟩
end Go.Proofs.YtlhlpamciafocaaGreatDoor.L.Sw
namespace Go.Proofs.YtlhlpamciafocaaGreatDoor.L.Sw
open Go.RowKit
set_option linter.unusedVariables false
set_option maxHeartbeats 4000000 in
theorem fits_any (f : Fm) (kd nu : Int) (tx : ByteArray) (a : Option Addr) (n c : Nat) (w : World) : Calls Tryz.prog 56 #[fmv f, .agg #[.int .i64 kd, .string tx, .int .i64 nu, .slice a n c]] w fun e w' => e = .returned (.bool (fitsB f tx nu n)) ∧ Below w.heap.size w w' := by
  unfold fmv
  go_enter Tryz.func56, Tryz.ntmps56
  go_wp2
  all_goals go_ret
  all_goals refine ⟨ret_bool ?_, (belowA w _).alloc (by simp) _⟩
  all_goals unfold fitsB
  all_goals first | (simp_all; done) | (simp_all; omega) | (rw [Bool.eq_iff_iff]; simp_all; done) | (rw [Bool.eq_iff_iff]; simp_all; omega)
set_option maxHeartbeats 4000000 in
theorem takes_any (f : Fm) (c : Int) (w : World) : Calls Tryz.prog 55 #[fmv f, .int .i64 c] w fun e w' => e = .returned (.bool (takesB f c)) ∧ Below w.heap.size w w' := by
  unfold fmv
  go_enter Tryz.func55, Tryz.ntmps55
  go_wp2
  all_goals go_ret
  all_goals refine ⟨ret_bool ?_, belowA w _⟩
  all_goals unfold takesB
  all_goals first | (simp_all; done) | (simp_all; omega) | (rw [Bool.eq_iff_iff]; simp_all; done) | (rw [Bool.eq_iff_iff]; simp_all; omega)
end Go.Proofs.YtlhlpamciafocaaGreatDoor.L.Sw
namespace Go.Proofs.YtlhlpamciafocaaGreatDoor.L.Sw
open Go.RowKit
set_option linter.unusedVariables false
set_option maxHeartbeats 4000000 in
theorem toodeep_any (k : Int) (w : World) : Calls Tryz.prog 29 #[.int .i64 k] w fun e w' => e = .returned (.bool (decide (32 < k))) ∧ w' = w := by
  go_enter Tryz.func29, Tryz.ntmps29
  go_wp2
  all_goals go_ret
  all_goals refine ⟨ret_bool ?_, rfl⟩
  all_goals first | (simp_all; done) | (simp_all; omega) | (rw [Bool.eq_iff_iff]; simp_all; done) | (rw [Bool.eq_iff_iff]; simp_all; omega)
set_option maxHeartbeats 4000000 in
theorem grouped_any (k n : Int) (w : World) : Calls Tryz.prog 49 #[.int .i64 k, .int .i64 n] w fun e w' => e = .returned (.bool (brB k n)) ∧ w' = w := by
  rcases kind_cases k with (rfl | rfl | rfl | rfl | rfl | rfl | rfl | rfl | rfl | rfl | rfl | rfl | rfl | rfl | rfl | rfl | rfl | rfl | rfl | rfl) | h
  case inr =>
    have e1 : (k == 1) = false := by simp; omega
    have e2 : (k == 2) = false := by simp; omega
    have e3 : (k == 3) = false := by simp; omega
    have e4 : (k == 4) = false := by simp; omega
    have e5 : (k == 5) = false := by simp; omega
    have e6 : (k == 6) = false := by simp; omega
    have e7 : (k == 7) = false := by simp; omega
    have e8 : (k == 8) = false := by simp; omega
    have e9 : (k == 9) = false := by simp; omega
    have e10 : (k == 10) = false := by simp; omega
    have e11 : (k == 11) = false := by simp; omega
    have e12 : (k == 12) = false := by simp; omega
    have e13 : (k == 13) = false := by simp; omega
    have e14 : (k == 14) = false := by simp; omega
    have e15 : (k == 15) = false := by simp; omega
    have e16 : (k == 16) = false := by simp; omega
    have e17 : (k == 17) = false := by simp; omega
    have e18 : (k == 18) = false := by simp; omega
    have e19 : (k == 19) = false := by simp; omega
    have e20 : (k == 20) = false := by simp; omega
    have ef : brB k n = false := by unfold brB; repeat rw [if_neg (by omega)]
    rw [ef]
    clear ef h
    go_enter Tryz.func49, Tryz.ntmps49
    go_wp2
    all_goals go_ret
    all_goals refine ⟨ret_bool ?_, rfl⟩
    all_goals first | (simp_all; done) | (simp_all; omega) | (rw [Bool.eq_iff_iff]; simp_all; done) | (rw [Bool.eq_iff_iff]; simp_all; omega)
  all_goals
    go_enter Tryz.func49, Tryz.ntmps49
    go_wp2
    all_goals go_ret
    all_goals refine ⟨ret_bool ?_, rfl⟩
    all_goals unfold brB
    all_goals first | (simp_all; done) | (simp_all; omega) | (rw [Bool.eq_iff_iff]; simp_all; done) | (rw [Bool.eq_iff_iff]; simp_all; omega)
set_option maxHeartbeats 4000000 in
theorem opens_any (k : Int) (w : World) : Calls Tryz.prog 58 #[.int .i64 k] w fun e w' => e = .returned (.bool (opB k)) ∧ w' = w := by
  rcases kind_cases k with (rfl | rfl | rfl | rfl | rfl | rfl | rfl | rfl | rfl | rfl | rfl | rfl | rfl | rfl | rfl | rfl | rfl | rfl | rfl | rfl) | h
  case inr =>
    have e1 : (k == 1) = false := by simp; omega
    have e2 : (k == 2) = false := by simp; omega
    have e3 : (k == 3) = false := by simp; omega
    have e4 : (k == 4) = false := by simp; omega
    have e5 : (k == 5) = false := by simp; omega
    have e6 : (k == 6) = false := by simp; omega
    have e7 : (k == 7) = false := by simp; omega
    have e8 : (k == 8) = false := by simp; omega
    have e9 : (k == 9) = false := by simp; omega
    have e10 : (k == 10) = false := by simp; omega
    have e11 : (k == 11) = false := by simp; omega
    have e12 : (k == 12) = false := by simp; omega
    have e13 : (k == 13) = false := by simp; omega
    have e14 : (k == 14) = false := by simp; omega
    have e15 : (k == 15) = false := by simp; omega
    have e16 : (k == 16) = false := by simp; omega
    have e17 : (k == 17) = false := by simp; omega
    have e18 : (k == 18) = false := by simp; omega
    have e19 : (k == 19) = false := by simp; omega
    have e20 : (k == 20) = false := by simp; omega
    have ef : opB k = false := by unfold opB; repeat rw [if_neg (by omega)]
    rw [ef]
    clear ef h
    go_enter Tryz.func58, Tryz.ntmps58
    go_wp2
    all_goals go_ret
    all_goals refine ⟨ret_bool ?_, rfl⟩
    all_goals first | (simp_all; done) | (simp_all; omega) | (rw [Bool.eq_iff_iff]; simp_all; done) | (rw [Bool.eq_iff_iff]; simp_all; omega)
  all_goals
    go_enter Tryz.func58, Tryz.ntmps58
    go_wp2
    all_goals go_ret
    all_goals refine ⟨ret_bool ?_, rfl⟩
    all_goals unfold opB
    all_goals first | (simp_all; done) | (simp_all; omega) | (rw [Bool.eq_iff_iff]; simp_all; done) | (rw [Bool.eq_iff_iff]; simp_all; omega)
set_option maxHeartbeats 4000000 in
theorem between_any (k n : Int) (w : World) : Calls Tryz.prog 41 #[.int .i64 k, .int .i64 n] w fun e w' => e = .returned (.int .i64 ((if opB k then 1 else 0) + (if brB k n then 1 else 0))) ∧ w' = w := by
  have HO := hid opens_any
  have HG := hid grouped_any
  go_enter Tryz.func41, Tryz.ntmps41
  go_wp2_with (first | (go_at_call 58; refine (HO.out _ _).mono ?_; rintro e w1 ⟨rfl, hww⟩; have hw2 := hww.symm; clear hww; subst hw2) | (go_at_call 49; refine (HG.out _ _ _).mono ?_; rintro e w1 ⟨rfl, hww⟩; have hw2 := hww.symm; clear hww; subst hw2))
  all_goals go_ret
  all_goals simp_all
end Go.Proofs.YtlhlpamciafocaaGreatDoor.L.Sw
namespace Go.Proofs.YtlhlpamciafocaaGreatDoor.L.Sw
open Go.RowKit
set_option linter.unusedVariables false
set_option maxHeartbeats 4000000 in
set_option maxRecDepth 100000 in
/-- slices.Equal of two lists of numbers. -/
theorem equal_any (a b : Option Addr) (A B : List Int) (ca cb : Nat) (w : World) (ha : RdI w a A) (hb : RdI w b B) (hA : A.length ≤ 140737488355328) :
    Calls Tryz.prog 37 #[.slice a A.length ca, .slice b B.length cb] w fun e w' => e = .returned (.bool (decide (A = B))) ∧ ∃ m, w' = w.drewN m := by
  by_cases hl : A.length = B.length
  · have HAB : A = B ↔ ∀ j, j < A.length → A.getD j 0 = B.getD j 0 := by
      constructor
      · intro h j _
        rw [h]
      · intro h
        refine List.ext_getElem hl fun j h1 h2 => ?_
        have := h j h1
        rw [List.getD_eq_getElem?_getD, List.getD_eq_getElem?_getD, List.getElem?_eq_getElem h1, List.getElem?_eq_getElem h2] at this
        exact this
    have hbl : B.length = A.length := hl.symm
    rw [hbl]
    obtain ⟨L, hL⟩ : ∃ L, L = A.length := ⟨_, rfl⟩
    rw [← hL] at hA HAB hbl ⊢
    have HEQ := hid HAB
    have RA := hid ha
    have RB := hid hb
    have HLA := hid hL
    have HLB := hid hbl
    clear HAB ha hb hL hbl hl
    go_enter Tryz.func37, Tryz.ntmps37
    go_wp2
    go_loopw [13] (fun i wr => ∃ k : Nat, k ≤ L ∧ i = .int .i64 k ∧ Hid (∃ m, wr = w.drewN m) ∧ Hid (∀ j, j < k → A.getD j 0 = B.getD j 0)) (fun i _ => L - (intOf i).toNat)
    case atStart => exact ⟨0, Nat.zero_le _, rfl, hid ⟨0, rfl⟩, hid (fun j hj => by omega)⟩
    case round =>
      obtain ⟨k, hk, rfl, HB, HE⟩ := hrel
      by_cases hlt : k < L
      · obtain ⟨m0, hm0⟩ := HB.out
        have r1 : RdI wr a A := by rw [hm0]; exact RA.out
        have r2 : RdI wr b B := by rw [hm0]; exact RB.out
        have HM := hid hm0
        clear hm0
        rcases r1 with h0 | ⟨b1, o1, rfl, hb1, hc1⟩
        · have := HLA.out; omega
        rcases r2 with h0 | ⟨b2, o2, rfl, hb2, hc2⟩
        · have := HLB.out; omega
        have p0 := hc1 k (by rw [← HLA.out]; exact hlt)
        have q0 := hc2 k (by rw [HLB.out]; exact hlt)
        obtain ⟨x, hx⟩ : ∃ x, x = A.getD k 0 := ⟨_, rfl⟩
        obtain ⟨y, hy⟩ : ∃ y, y = B.getD k 0 := ⟨_, rfl⟩
        rw [← hx] at p0
        rw [← hy] at q0
        have HX := hid hx
        have HY := hid hy
        clear hc1 hc2 hx hy
        have g1 : (k : Int) < (L : Int) := by omega
        have g2 : (0 : Int) ≤ (k : Int) := by omega
        by_cases exy : x = y
        · have HXY := hid exy
          have e1 : (x != y) = false := by simp [exy]
          clear exy
          go_wp2_with fail
          go_quiet (fail)
          go_wp2_with fail
          refine ⟨⟨k + 1, by omega, by go_num, hid ⟨m0 + nq, by rw [HM.out, World.drewN_drewN]⟩, hid (fun j hj => ?_)⟩, by simp [intOf]; omega⟩
          by_cases e : j = k
          · rw [e, ← HX.out, ← HY.out, HXY.out]
          · exact HE.out j (by omega)
        · have e1 : (x != y) = true := by simp [exy]
          go_wp2_with fail
          go_quiet (fail)
          go_wp2_with fail
          go_ret
          refine ⟨ret_bool ?_, m0 + nq, by rw [HM.out, World.drewN_drewN]⟩
          have hne : ¬ A = B := fun h => exy (by rw [HX.out, HY.out, h])
          simp [hne]
      · have hkl : k = L := by omega
        subst hkl
        go_wp2_with fail
        go_ret
        refine ⟨ret_bool ?_, HB.out⟩
        have he := HEQ.out.2 HE.out
        simp [he]
  · have hne : ¬ A = B := fun h => hl (by rw [h])
    have h1 : ((A.length : Int) != (B.length : Int)) = true := by simp; omega
    go_enter Tryz.func37, Tryz.ntmps37
    go_wp2
    go_ret
    exact ⟨ret_bool (by simp [hne]), 0, rfl⟩
end Go.Proofs.YtlhlpamciafocaaGreatDoor.L.Sw
