import Derived.Test.YtkagdmhijjfnnabDoorLs4
import Derived.Test.YtkagdmhijjfnnabDoorLt1
import Derived.Test.YtkagdmhijjfnnabDoorFromW
namespace Go.Proofs.YtkagdmhijjfnnabDoor
open Go.RowKit Bs
set_option linter.unusedVariables false
/-- A row of words of one's own, as it lies. -/
structure Wo (W : World) (base : Nat) (g cap : Nat) (us : List Nat) : Prop where
  own : W.ownsRow base 56 1 (.slice (some ⟨g, 0, none⟩) us.length cap) us.length (vals us)
theorem Wo.lt {W : World} {base g cap : Nat} {us : List Nat} (h : Wo W base g cap us) : base ≤ g ∧ g < W.heap.size := h.own.lt g rfl
theorem Wo.low {W W' : World} {base g cap : Nat} {us : List Nat} (h : Wo W base g cap us) (k : Below W.heap.size W W') : Wo W' base g cap us :=
  ⟨by have := Ap.ow_low (e := 56) (l := vals us) (by unfold Ap.Ow; rw [length_vals]; exact h.own) k; unfold Ap.Ow at this; rwa [length_vals] at this⟩
theorem Wo.keep {W W' : World} {base g cap a : Nat} {us : List Nat} (h : Wo W base g cap us) (k : Chg a W W') (hg : g ≠ a) : Wo W' base g cap us :=
  ⟨World.ownsRow.kept (row := some a) h.own ⟨k.os, k.tape, k.output, k.size, fun i hi hr => k.block i hi (fun e => hr (by rw [e]))⟩ (Or.inr (fun e => hg (Option.some.inj e)))⟩
theorem Wo.ow {W : World} {base g cap : Nat} {us : List Nat} (h : Wo W base g cap us) : Ap.Ow 56 W base (.slice (some ⟨g, 0, none⟩) us.length cap) (vals us) := by
  unfold Ap.Ow
  rw [length_vals]
  exact h.own
theorem Wo.cell {W : World} {base g cap : Nat} {us : List Nat} (h : Wo W base g cap us) (j : Nat) (hj : j < us.length) : W.cell? ⟨g, j, none⟩ = some (.int .u64 ((us.getD j 0 : Nat) : Int)) := by
  refine (Ap.ow_at (e := 56) (k := j) (l := vals us) h.own ?_).1
  simp [vals, List.getElem?_eq_getElem hj, List.getD_eq_getElem?_getD]
theorem Wo.sl {W : World} {base g cap : Nat} {us : List Nat} (h : Wo W base g cap us) : WSlice W (.slice (some ⟨g, 0, none⟩) us.length cap) g cap us := ⟨rfl, h.lt.2, h.cell⟩
theorem Wo.rw {W : World} {base g cap : Nat} {us : List Nat} (h : Wo W base g cap us) : Rw W (some ⟨g, 0, none⟩) us := Or.inr ⟨g, 0, rfl, h.lt.2, fun j hj => by rw [Nat.zero_add]; exact h.cell j hj⟩
theorem Wo.drew {W : World} {base g cap : Nat} {us : List Nat} (h : Wo W base g cap us) (m : Nat) : Wo (W.drewN m) base g cap us := h.low (belowDrewN m)
theorem Wo.mono {W : World} {base base' g cap : Nat} {us : List Nat} (h : Wo W base g cap us) (hb : base' ≤ base) : Wo W base' g cap us := by
  refine ⟨h.own.1, ?_⟩
  rcases h.own.2 with ⟨e, _⟩ | ⟨g', cap', cur, e, hg, r⟩
  · cases e
  · exact Or.inr ⟨g', cap', cur, e, Nat.le_trans hb hg, r⟩
theorem Wo.same {W W' : World} {base g cap : Nat} {us : List Nat} (h : Wo W base g cap us) (hb : W'.heap[g]? = W.heap[g]?) : Wo W' base g cap us := by
  refine ⟨h.own.1, ?_⟩
  rcases h.own.2 with ⟨e, _⟩ | ⟨g', cap', cur, e, hg, hh, r⟩
  · cases e
  · have e' := e
    injection e' with e1 _ _
    injection e1 with e1
    injection e1 with e1 _ _
    subst e1
    exact Or.inr ⟨g, cap', cur, e, hg, hb.trans hh, r⟩
theorem Wo.cap {W : World} {base g cap : Nat} {us : List Nat} (h : Wo W base g cap us) : us.length ≤ cap := by
  rcases h.own.2 with ⟨e, _⟩ | ⟨g', cap', cur, e, hg, hh, hc, _⟩
  · cases e
  · injection e with _ _ e3
    omega
theorem Wo.fz {W : World} {base g cap : Nat} {us : List Nat} (h : Wo W base g cap us) (j : Nat) : W.frozen? ⟨g, j, none⟩ = false := by
  rcases h.own.2 with ⟨e, _⟩ | ⟨g', cap', cur, e, hg, hh, hc, _⟩
  · cases e
  · injection e with e1 _ _
    injection e1 with e1
    injection e1 with e1 _ _
    subst e1
    exact frozen_of_row W g j _ _ hh
theorem Wo.set {W : World} {base g cap k x : Nat} {us : List Nat} (h : Wo W base g cap us) (hk : k < us.length) : Wo (W.setCell ⟨g, k, none⟩ (.int .u64 (x : Int))) base g cap (us.set k x) := by
  have o := h.ow
  have o2 := Ap.ow_set (e := 56) (n := 0) (k := k) (l := vals us) (cp := cap) (.int .u64 (x : Int)) (by rw [length_vals]; exact o) (by rw [length_vals]; exact hk)
  unfold Ap.Ow at o2
  constructor
  have e : vals (us.set k x) = (vals us).set k (.int .u64 (x : Int)) := by simp [vals, List.map_set]
  rw [e, List.length_set]
  rw [List.length_set, length_vals] at o2
  exact o2
theorem IsSet.same' {W W' : World} {p q n : Nat} {ws : List Nat} (h : IsSet W p q n ws) (hp : W'.heap[p]? = W.heap[p]?) (hq : W'.heap[q]? = W.heap[q]?) : IsSet W' p q n ws := ⟨hp.trans h.hp, hq.trans h.hq, h.ne, h.hn, h.hl, h.wd, h.cl⟩
theorem chg_grown {w w' : World} {g : Nat} (h : w.grownBy w' (some g)) : Chg g w w' := ⟨h.os, h.tape, h.output, h.size, fun k hk ha => h.block k hk (fun e => ha (Option.some.inj e))⟩
theorem wo_of {W : World} {base n : Nat} {v : Value} {us : List Nat} (h : W.ownsRow base 56 1 v n (vals us)) (hn : n = us.length) (hv : v ≠ .slice none 0 0) : ∃ g cap, v = .slice (some ⟨g, 0, none⟩) us.length cap ∧ Wo W base g cap us := by
  subst hn
  rcases h.2 with ⟨e, _⟩ | ⟨g, cap, cur, e, _⟩
  · exact absurd e hv
  · subst e
    exact ⟨g, cap, rfl, ⟨h⟩⟩
set_option maxRecDepth 100000 in
set_option maxHeartbeats 1000000 in
/-- Words: a row of one's own. -/
theorem words_o (p q n : Nat) (ws : List Nat) (w : World) (h : IsSet w p q n ws) :
    Calls Tryd.prog 24 #[.pointer (some ⟨p, 0, none⟩)] w fun e w' => ∃ g cap, e = .returned (.slice (some ⟨g, 0, none⟩) ws.length cap) ∧ Wo w' w.heap.size g cap ws ∧ Below w.heap.size w w' := by
  have hc1 := h.c1
  have hlen := h.len
  have HI := hid h
  have hmk := make_len ws.length h.len w
  have hb0 := lowAlloc w (.cells (row (List.replicate ws.length 0)) 56)
  have h2 := h.low hb0
  have hd1 := h2.c1
  have hrow : (w.alloc (.cells (row (List.replicate ws.length 0)) 56)).heap[w.heap.size]? = some (.cells (vals (List.replicate ws.length 0)).toArray 56 (0, 0)) := heap_alloc_new w _
  have H2 := hid h2
  have HB0 := hid hb0
  have HROW := hid hrow
  have HMIN := hid (show (vals ws).length = Nat.min ws.length ws.length by rw [length_vals]; exact (Nat.min_self _).symm)
  clear h hb0 h2 hrow
  go_enter Tryd.func24, Tryd.ntmps24
  go_wp2_with fail
  refine (list_cell p _ _ _ _ hc1).mono ?_
  rintro e w1 ⟨rfl, hww⟩
  subst hww
  go_wp2_with fail
  refine (list_cell p _ _ _ _ hd1).mono ?_
  rintro e w2 ⟨rfl, hww⟩
  rw [hww]
  clear hww
  go_wp2_with (refine wpList_copy_splice rfl (.tmp 8) (.tmp 10) 36 36 rfl 56 Tryd.underlying36 (by kernel_rfl) (some ⟨w1.heap.size, 0, none⟩) (some ⟨q, 0, none⟩) ws.length ws.length ws.length ws.length rfl rfl w1.heap.size 0 (vals (List.replicate ws.length 0)) 56 HROW.out (vals ws) HMIN.out (fun _ => ⟨rfl, _, rfl, H2.out.src⟩) (by simp [length_vals]) (one_vals ws) w1.heap.size w1 HB0.out (Nat.le_refl _) ?_; intro w4 hg4 hb4)
  go_ret
  have e4 := hg4.out
  rw [splice_wid] at e4
  have ew : widW ws.length ws = ws := by unfold widW; simp
  rw [ew] at e4
  refine ⟨_, _, rfl, ⟨⟨by rw [length_vals, Nat.mul_one], Or.inr ⟨_, _, _, rfl, Nat.le_refl _, e4, Nat.le_refl _, by unfold maxLen; omega, by simp [length_vals], ?_⟩⟩⟩, hb4⟩
  rw [Nat.mul_one, List.take_of_length_le (by simp [length_vals])]
/-- words: a copy. -/
theorem copy_o (base g cap : Nat) (us : List Nat) (w : World) (h : Wo w base g cap us) (hL : us.length ≤ 2000) :
    Calls Tryd.prog 58 #[.slice (some ⟨g, 0, none⟩) us.length cap] w fun e w' => ∃ g' cap', e = .returned (.slice (some ⟨g', 0, none⟩) us.length cap') ∧ Wo w' w.heap.size g' cap' us ∧ Below w.heap.size w w' := by
  refine (copy_own _ g cap us w h.sl hL).mono ?_
  rintro e w' ⟨v', rfl, ho, hn, hb⟩
  obtain ⟨g', cap', rfl, hw⟩ := wo_of ho rfl hn
  exact ⟨g', cap', rfl, hw, hb⟩
end Go.Proofs.YtkagdmhijjfnnabDoor
