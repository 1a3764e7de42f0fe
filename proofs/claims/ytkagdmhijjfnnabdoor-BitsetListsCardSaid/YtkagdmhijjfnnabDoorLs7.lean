import Derived.Test.YtkagdmhijjfnnabDoorLs6
import Derived.Test.YtkagdmhijjfnnabDoorAls
namespace Go.Proofs.YtkagdmhijjfnnabDoor
open Go.RowKit Bs
set_option linter.unusedVariables false
theorem results_cell1 {fn : Func} {p : Tmp} {ty : TypeId} (h : fn.results = #[.cell p ty]) (tmps : Array Value) (P : Program) (w : World) :
    (results fn tmps).run P w = ((asAddr (tmps.getD p undef)).run P w).andThen fun a w₁ => (loadVar ty a).run P w₁ := by
  simp only [results, h]
  simp [Sem.run_bind, Result.andThen]
theorem oi_keep {W W' : World} {base a : Nat} {v : Value} {zs : List Int} (h : OwnI W base v zs) (k : Chg a W W') (hg : v.ownBlock ≠ some a) : OwnI W' base v zs :=
  World.ownsRow.kept (row := some a) h ⟨k.os, k.tape, k.output, k.size, fun i hi hr => k.block i hi (fun e => hr (by rw [e]))⟩ (Or.inr hg)
theorem oi_same {W W' : World} {base : Nat} {v : Value} {zs : List Int} (h : OwnI W base v zs) (hb : ∀ g, v.ownBlock = some g → W'.heap[g]? = W.heap[g]?) : OwnI W' base v zs := by
  refine ⟨h.1, ?_⟩
  rcases h.2 with e | ⟨g', cap', cur, e, hg, hh, r⟩
  · exact Or.inl e
  · exact Or.inr ⟨g', cap', cur, e, hg, (hb g' (by rw [e]; rfl)).trans hh, r⟩
theorem oi_ow {W : World} {base : Nat} {v : Value} {zs : List Int} (h : OwnI W base v zs) : Ap.Ow 3 W base v (zs.map (Value.int .i64)) := by
  unfold Ap.Ow
  rw [List.length_map]
  exact h
theorem XAll.same' {w w' : World} {X : Nat} {n : Int} {vA vB vC : Value} (h : XAll w X n vA vB vC) (k : w'.heap[X]? = w.heap[X]?) : XAll w' X n vA vB vC :=
  ⟨(World.cell?_of_block k).trans h.c0, (World.cell?_of_block k).trans h.c1, (World.cell?_of_block k).trans h.c2, (World.cell?_of_block k).trans h.c3⟩
theorem oi_set {W : World} {base g cap k L : Nat} {z : Int} {zs : List Int} (h : OwnI W base (.slice (some ⟨g, 0, none⟩) L cap) zs) (hL : zs.length = L) (hk : k < L) : OwnI (W.setCell ⟨g, k, none⟩ (.int .i64 z)) base (.slice (some ⟨g, 0, none⟩) L cap) (zs.set k z) := by
  subst hL
  have o := oi_ow h
  have o2 := Ap.ow_set (e := 3) (n := 0) (k := k) (l := zs.map (Value.int .i64)) (cp := cap) (.int .i64 z) (by rw [List.length_map]; exact o) (by rw [List.length_map]; exact hk)
  unfold Ap.Ow at o2
  unfold OwnI
  rw [List.map_set, List.length_set]
  rw [List.length_set, List.length_map] at o2
  exact o2
theorem oi_cell {W : World} {base g cap k L : Nat} {zs : List Int} (h : OwnI W base (.slice (some ⟨g, 0, none⟩) L cap) zs) (hL : zs.length = L) (hk : k < L) : W.cell? ⟨g, k, none⟩ = some (.int .i64 (zs.getD k 0)) ∧ W.frozen? ⟨g, k, none⟩ = false := by
  subst hL
  refine ⟨(Ap.ow_at (e := 3) (k := k) h ?_).1, ?_⟩
  · simp [List.getElem?_eq_getElem hk, List.getD_eq_getElem?_getD]
  · rcases h.2 with ⟨e, _⟩ | ⟨g', cap', cur, e, hg, hh, hc, _⟩
    · cases e
    · injection e with e1 _ _
      injection e1 with e1
      injection e1 with e1 _ _
      subst e1
      exact frozen_of_row W g k _ _ hh
/-- Where a row's block lies. -/
def Bd (v : Value) (lo hi : Nat) : Prop := ∀ g, v.ownBlock = some g → lo ≤ g ∧ g < hi
theorem bd_of {W : World} {base : Nat} {v : Value} {zs : List Int} (h : OwnI W base v zs) : Bd v base W.heap.size := fun g e => own_lt h e
theorem Bd.apart {v v' : Value} {lo hi lo' hi' : Nat} (h : Bd v lo hi) (h' : Bd v' lo' hi') (hl : hi ≤ lo') : v.ownBlock = none ∨ v.ownBlock ≠ v'.ownBlock := by
  cases e : v.ownBlock with
  | none => exact Or.inl rfl
  | some g => exact Or.inr (fun e' => by have := h g e; have := h' g e'.symm; omega)
theorem Bd.apart' {v v' : Value} {lo hi lo' hi' : Nat} (h : Bd v lo hi) (h' : Bd v' lo' hi') (hl : hi' ≤ lo) : v.ownBlock = none ∨ v.ownBlock ≠ v'.ownBlock := by
  cases e : v.ownBlock with
  | none => exact Or.inl rfl
  | some g => exact Or.inr (fun e' => by have := h g e; have := h' g e'.symm; omega)
theorem Bd.ne {v : Value} {lo hi g : Nat} (h : Bd v lo hi) (hg : g < lo ∨ hi ≤ g) : v.ownBlock ≠ some g := fun e => by have := h g e; omega
theorem SetAt.same' {W W' : World} {p q n : Nat} {S : Nat → Bool} (h : SetAt W p q n S) (hp : W'.heap[p]? = W.heap[p]?) (hq : W'.heap[q]? = W.heap[q]?) : SetAt W' p q n S := by
  obtain ⟨ws, x, hx⟩ := h
  exact ⟨ws, x.same' hp hq, hx⟩
theorem members_ow {p q n : Nat} {S : Nat → Bool} (w : World) (h : SetAt w p q n S) (ht : Tab w) :
    Calls Tryd.prog 23 #[.pointer (some ⟨p, 0, none⟩)] w fun e w' => ∃ v, e = .returned v ∧ OwnI w' w.heap.size v (msR n S) ∧ Below w.heap.size w w' := by
  have hb := h.bound
  obtain ⟨ws, x, hx⟩ := h
  have e : mem ws = S := funext hx
  subst e
  refine (members_words p q n ws w x ht).mono ?_
  rintro e w' ⟨v, rfl, own, hbl⟩
  have M : MsOf n (mem ws) (msL ws.length ws) := by
    refine ⟨?_, ?_⟩
    · rw [length_msL ws _ (Nat.le_refl _), isSet_card x]
    · intro t ht
      rw [length_msL ws _ (Nat.le_refl _)] at ht
      obtain ⟨i, h1, h2, h3⟩ := msL_get ws x.wd ws.length (Nat.le_refl _) t ht
      exact ⟨i, h1, hb i h2, h2, h3⟩
  rw [M.one (msR_is n (mem ws))] at own
  exact ⟨v, rfl, own, hbl⟩
set_option maxRecDepth 100000 in
set_option maxHeartbeats 1000000 in
theorem set_any (n : Nat) (a : Option Addr) (cap : Nat) (zs : List Int) (w : World) (hn : n ≤ 65536) (h : Rd w a zs) (hL : zs.length ≤ 9223372036854775807) (hz : ∀ z ∈ zs, 0 ≤ z ∧ z < n) :
    Calls Tryd.prog 40 #[.int .i64 (n : Int), .slice a zs.length cap] w fun e w' => ∃ v, e = .returned (.agg #[.int .i64 (n : Int), v]) ∧ OwnI w' w.heap.size v (msR n (fun i => decide ((i : Int) ∈ zs))) ∧ Below w.heap.size w w' := by
  have HB := hid (lowAlloc w (.cells #[.int .i64 0, .slice none 0 0] 50))
  have D := hid (dfrom n a cap zs _ hn (h.alloc (.cells #[.int .i64 0, .slice none 0 0] 50)) hL hz)
  obtain ⟨L, hL'⟩ : ∃ L, L = zs.length := ⟨_, rfl⟩
  rw [← hL'] at D ⊢
  clear h hz hL hL'
  go_enter Tryd.func40, Tryd.ntmps40
  go_wp2_with fail
  refine D.out.mono ?_
  rintro e w1 ⟨v, rfl, o1, b1⟩
  obtain ⟨av, lv, cv, rfl⟩ := own_form9 o1
  have X := Fx.new b1 (n : Int) (.slice av lv cv)
  have s0 := X.s0
  have s1 := X.s1
  have r0 := X.r0
  have r1 := X.r1
  have f0 := X.rf 0
  have f1 := X.rf 1
  have hs1 : w.heap.size + 1 ≤ w1.heap.size := by have := b1.size; simpa using this
  have F9 := hid (fun e => by have := (own_lt o1 e).1; simp at this; omega : Value.ownBlock (.slice av lv cv) ≠ some w.heap.size)
  have O9 := hid (own_mono (own_low o1 (lowAlloc w1 (.cells #[.int .i64 (n : Int), .slice av lv cv] 50))) (show w.heap.size ≤ _ by simp))
  have XL := hid X.low
  clear o1 b1 D X
  go_wp2_with fail
  refine bodyPost_ret (v := .agg #[.int .i64 (n : Int), .slice av lv cv]) ?_ rfl ⟨_, rfl, own_set (own_set O9.out _ F9.out) _ F9.out, below_st (below_st XL.out _ _ _ (by omega)) _ _ _ (by omega)⟩
  rw [results_cell1 rfl]
  go_simp
theorem all_three (w : World) (a b c : Addr) : Calls Tryd.prog 32 #[.slice (some ⟨w.heap.size, 0, none⟩) 3 3] (w.alloc (.cells #[.pointer (some a), .pointer (some b), .pointer (some c)] 27)) fun e w' => e = .returned (.bool true) ∧ w' = w.alloc (.cells #[.pointer (some a), .pointer (some b), .pointer (some c)] 27) := by
  refine all_any w.heap.size 3 3 (fun j => match j with | 0 => a | 1 => b | _ => c) _ (by decide) ?_
  intro j hj
  match j, hj with
  | 0, _ => simp
  | 1, _ => simp
  | 2, _ => simp
theorem make_cap (W : World) (L : Nat) (hL : L ≤ 17592186043904) : (Instr.makeSlice 22 (.int .i64 0) (.int .i64 ((L : Int) + 9))).run Tryd.prog W = .ok (.slice (some ⟨W.heap.size, 0, none⟩) 0 (L + 9)) (W.alloc (.cells (madeCells #[.int .i64 0] (L + 9)) 3)) := by
  obtain ⟨i0, hi, hz0, hz1, hz2⟩ := info_prts infoI
  have h := run_make (P := Tryd.prog) W 22 3 i0 (.int .i64 0) Tryd.underlying22 hi hz0 .i64 .i64 0 ((L : Int) + 9) (by omega) (by omega) (by rw [hz2]; omega) (by omega)
  rw [hz1, Nat.mul_one, show ((L : Int) + 9).toNat = L + 9 by omega] at h
  exact h
set_option maxRecDepth 100000 in
set_option maxHeartbeats 1000000 in
theorem same_long (lo lo' : Nat) (v v' : Value) (zs : List Int) (w : World) (hL : zs.length ≤ 17592186044000) (h : Hl w lo v zs) (h' : Hl w lo' v' zs) :
    Calls Tryd.prog 38 #[v, v'] w fun e w' => e = .returned (.bool true) ∧ ∃ m, w' = w.drewN m := by
  obtain ⟨a, cap, rfl, h⟩ := h
  obtain ⟨a', cap', rfl, h'⟩ := h'
  obtain ⟨L, hLe⟩ : ∃ L, L = zs.length := ⟨_, rfl⟩
  have HL := hid hLe
  have H := hid h
  have H' := hid h'
  rw [← hLe] at hL ⊢
  clear hLe h h'
  go_enter Tryd.func38, Tryd.ntmps38
  go_wp2
  go_loopw [5] (fun i wr => ∃ k : Nat, k ≤ L ∧ i = .int .i64 k ∧ ∃ m, wr = w.drewN m) (fun i _ => L - (intOf i).toNat)
  case atStart => exact ⟨0, Nat.zero_le _, rfl, 0, rfl⟩
  case round =>
    obtain ⟨k, hk, rfl, m, rfl⟩ := hrel
    by_cases hlt : k < L
    · have hk2 : k < zs.length := by rw [← HL.out]; exact hlt
      rcases H.out with e | ⟨b, off, rfl, _, _, hc⟩
      · rw [e] at hk2; cases hk2
      rcases H'.out with e | ⟨b', off', rfl, _, _, hc'⟩
      · rw [e] at hk2; cases hk2
      have hx := hc k hk2
      have hy := hc' k hk2
      generalize zs.getD k 0 = z at hx hy
      clear hc hc' hk2
      go_wp2_with fail
      go_quiet (fail)
      go_wp2_with fail
      go_roundw
      case rel => exact ⟨k + 1, by omega, by go_num, _, rfl⟩
      case measure => simp [intOf]; omega
    · go_wp2_with fail
      go_ret
      exact ⟨rfl, _, rfl⟩
end Go.Proofs.YtkagdmhijjfnnabDoor
