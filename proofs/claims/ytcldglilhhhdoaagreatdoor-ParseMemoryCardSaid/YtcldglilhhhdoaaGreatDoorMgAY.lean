import Derived.Test.YtcldglilhhhdoaaGreatDoorPfT
import Derived.Test.YtcldglilhhhdoaaGreatDoorMgAS
import Derived.Test.YtcldglilhhhdoaaGreatDoorMgAT
namespace Go.Proofs.YtcldglilhhhdoaaGreatDoor.L
open Go.RowKit
set_option linter.unusedVariables false
set_option linter.unusedSimpArgs false
/-- The parts and the offsets that are read; none beside a fault. -/
def rdp (src : ByteArray) : List Pt := match parR src with
 | .ok s => s.ps
 | .error _ => []
def rdo (src : ByteArray) : List Int := match parR src with
 | .ok s => s.os
 | .error _ => []
theorem rdp_most (src : ByteArray) : (rdp src).length ≤ 1000 ∧ (rdo src).length ≤ 1000 ∧ ∀ j, j < (rdp src).length → (pt (rdp src) j).kids.length ≤ 1000000 := by
 unfold rdp rdo
 cases h : parR src with
 | error e => exact ⟨by simp, by simp, fun j hj => absurd hj (by simp)⟩
 | ok s =>
  have r := either_ok h
  refine ⟨r.most, ?_, fun j hj => ?_⟩
  ·show s.os.length ≤ 1000
   have h1 := r.len; have h2 := r.most; omega
  ·have h5 := (r.ok j hj).1; have h6 := fre_len s.ps j; have h7 := r.most; show (pt s.ps j).kids.length ≤ _; have h8 : j < s.ps.length := hj; omega
end Go.Proofs.YtcldglilhhhdoaaGreatDoor.L
namespace Go.Proofs.YtcldglilhhhdoaaGreatDoor.L
open Go.RowKit
set_option linter.unusedVariables false
set_option linter.unusedSimpArgs false
/-- A tree that was read and its offsets, as rows of one's own. -/
structure Tre (W : World) (B : Nat) (v o : Value) (ks : Nat → Value) (src : ByteArray) : Prop where
 tree : OwnP W B v (rdp src) ks (rdp src).length
 offs : OwnI W B o (rdo src)
/-- Their lists of kids lie apart. -/
structure Twa (n : Nat) (ks : Nat → Value) (o : Value) : Prop where
 two : ∀ i j, i < n → j < n → i ≠ j → ∀ k, (ks i).ownBlock = some k → (ks j).ownBlock ≠ some k
 offs : ∀ j, j < n → ∀ k, (ks j).ownBlock = some k → o.ownBlock ≠ some k
theorem Tre.keep {W W' : World} {B : Nat} {v o : Value} {ks : Nat → Value} {src : ByteArray} (h : Tre W B v o ks src) (hk : ∀ k, B ≤ k → k < W.heap.size → W'.heap[k]? = W.heap[k]?) : Tre W' B v o ks src :=
 ⟨⟨row_kept h.tree.row (fun k e => hk k (row_at h.tree.row e).1 (row_at h.tree.row e).2.1), fun j hj => row_kept (h.tree.kids j hj) (fun k e => hk k (row_at (h.tree.kids j hj) e).1 (row_at (h.tree.kids j hj) e).2.1)⟩, row_kept h.offs (fun k e => hk k (row_at h.offs e).1 (row_at h.offs e).2.1)⟩
theorem Tre.low {W W' : World} {B : Nat} {v o : Value} {ks : Nat → Value} {src : ByteArray} (h : Tre W B v o ks src) (hb : Below W.heap.size W W') : Tre W' B v o ks src := h.keep fun k _ hk => hb.block k hk
theorem par_three {src : ByteArray} {W1 W2 : World} {e : Ending} (h : PaR src W1 e W2) (hs : W1.heap.size ≤ W2.heap.size) : ∃ va vc oa oc er B ks, e = .returned (.tuple #[.agg #[.slice va (rdp src).length vc], .slice oa (rdo src).length oc, er]) ∧ W1.heap.size ≤ B ∧ B ≤ W2.heap.size ∧ Tre W2 B (.slice va (rdp src).length vc) (.slice oa (rdo src).length oc) ks src ∧ Twa (rdp src).length ks (.slice oa (rdo src).length oc) := by
 unfold PaR at h
 cases hp : parR src with
 | ok s =>
  have e1 : rdp src = s.ps := by unfold rdp; rw [hp]
  have e2 : rdo src = s.os := by unfold rdo; rw [hp]
  rw [hp] at h
  obtain ⟨pb, B, Nb, tv, T, v, o, ks, hB, rfl, pm⟩ := h
  obtain ⟨va, vc, rfl⟩ := own_len pm.parts.row
  obtain ⟨oa, oc, rfl⟩ := own_form pm.offs
  rw [e1, e2]
  have hb := pm.pbB
  have hl := lt_blk pm.box
  exact ⟨va, vc, oa, oc, _, B, ks, rfl, hB, by omega, ⟨by rw [e1]; exact pm.parts, by rw [e2]; exact pm.offs⟩, ⟨pm.apx.two, pm.apart⟩⟩
 | error q =>
  obtain ⟨c, x⟩ := q
  have e1 : rdp src = [] := by unfold rdp; rw [hp]
  have e2 : rdo src = [] := by unfold rdo; rw [hp]
  rw [hp] at h
  obtain ⟨N, rfl, hf⟩ := h
  rw [e1, e2]
  exact ⟨none, 0, none, 0, _, W1.heap.size, fun _ => .slice none 0 0, rfl, Nat.le_refl _, hs, ⟨by rw [e1]; exact ⟨World.ownsRow_nil _ _ _ _, fun j hj => absurd hj (Nat.not_lt_zero _)⟩, by rw [e2]; exact World.ownsRow_nil _ _ _ _⟩, ⟨fun i j hi => absurd hi (Nat.not_lt_zero _), fun j hj => absurd hj (Nat.not_lt_zero _)⟩⟩
theorem rpr_three {src : ByteArray} {W1 W2 : World} {e : Ending} (h : RpR src W1 e W2) : ∃ va vc oa oc FC B ks, e = .returned (.tuple #[.agg #[.slice va (rdp src).length vc], .slice oa (rdo src).length oc, .agg FC]) ∧ FC = f19 (rdc src).1 (rdc src).2 ∧ W1.heap.size ≤ B ∧ Tre W2 B (.slice va (rdp src).length vc) (.slice oa (rdo src).length oc) ks src := by
 unfold RpR at h
 cases hp : parR src with
 | ok s =>
  have e1 : rdp src = s.ps := by unfold rdp; rw [hp]
  have e2 : rdo src = s.os := by unfold rdo; rw [hp]
  rw [hp] at h
  obtain ⟨mb, B, tv, T, ws, fr, fl, wv, v, o, f, ks, hB, rfl, pm⟩ := h
  obtain ⟨va, vc, rfl⟩ := own_len pm.parts.row
  obtain ⟨oa, oc, rfl⟩ := own_form pm.offs
  rw [e1, e2]
  exact ⟨va, vc, oa, oc, _, B, ks, rfl, by unfold rdc; rw [hp], hB, ⟨by rw [e1]; exact pm.parts, by rw [e2]; exact pm.offs⟩⟩
 | error q =>
  obtain ⟨c, x⟩ := q
  have e1 : rdp src = [] := by unfold rdp; rw [hp]
  have e2 : rdo src = [] := by unfold rdo; rw [hp]
  rw [hp] at h
  rw [e1, e2]
  exact ⟨none, 0, none, 0, _, W1.heap.size, fun _ => .slice none 0 0, h, by unfold rdc; rw [hp], Nat.le_refl _, ⟨by rw [e1]; exact ⟨World.ownsRow_nil _ _ _ _, fun j hj => absurd hj (Nat.not_lt_zero _)⟩, by rw [e2]; exact World.ownsRow_nil _ _ _ _⟩⟩
/-- Only blocks from lo on and below hi, and new ones, are others. -/
structure Md (lo hi : Nat) (W W' : World) : Prop where
 os : W'.os = W.os
 tape : W'.tape = W.tape
 output : W'.output = W.output
 size : W.heap.size ≤ W'.heap.size
 block : ∀ k, k < W.heap.size → k < lo ∨ hi ≤ k → W'.heap[k]? = W.heap[k]?
theorem Md.refl (lo hi : Nat) (W : World) : Md lo hi W W := ⟨rfl, rfl, rfl, Nat.le_refl _, fun _ _ _ => rfl⟩
theorem Md.wp {lo hi : Nat} {v : Value} {W W1 W2 : World} (h : Md lo hi W W1) (k : Wp v W1 W2) (hv : ∀ b, v.ownBlock = some b → lo ≤ b ∧ b < hi) : Md lo hi W W2 :=
 ⟨k.os.trans h.os, k.tape.trans h.tape, k.output.trans h.output, Nat.le_trans h.size k.size, fun j hj hl => (k.block j (Nat.lt_of_lt_of_le hj h.size) (fun e => by have := hv j e; omega)).trans (h.block j hj hl)⟩
theorem Md.low {lo hi : Nat} {W W1 W2 : World} (h : Md lo hi W W1) (k : Below W1.heap.size W1 W2) : Md lo hi W W2 :=
 ⟨k.os.trans h.os, k.tape.trans h.tape, k.output.trans h.output, Nat.le_trans h.size k.size, fun j hj hl => (k.block j (Nat.lt_of_lt_of_le hj h.size)).trans (h.block j hj hl)⟩
theorem Md.tre {lo hi : Nat} {W W' : World} (h : Md lo hi W W') {B : Nat} {v o : Value} {ks : Nat → Value} {src : ByteArray} (t : Tre W B v o ks src) (hB : hi ≤ B) : Tre W' B v o ks src := t.keep fun k h1 h2 => h.block k h2 (Or.inr (Nat.le_trans hB h1))
theorem Md.box {lo hi : Nat} {W W' : World} (h : Md lo hi W W') {b : Nat} {x : Obj} (hx : W.heap[b]? = some x) (hb : hi ≤ b) : W'.heap[b]? = some x := (h.block b (lt_blk hx) (Or.inr hb)).trans hx
theorem Md.below {lo hi : Nat} {w W W' : World} (h : Md lo hi W W') (k : Below w.heap.size w W) (hl : w.heap.size ≤ lo) : Below w.heap.size w W' :=
 ⟨h.os.trans k.os, h.tape.trans k.tape, h.output.trans k.output, Nat.le_trans k.size h.size, fun j hj => (h.block j (Nat.lt_of_lt_of_le hj k.size) (Or.inl (by omega))).trans (k.block j hj)⟩
theorem part_kid {W : World} {B : Nat} {va : Option Addr} {n vc i : Nat} {P : List Pt} {ks : Nat → Value} (h : W.ownsRow B 46 4 (.slice va n vc) n (CP P ks n)) (hi : i < n) : ∃ g, va = some ⟨g, 0, none⟩ ∧ g < W.heap.size ∧ W.cell? ⟨g, i * 4 + 3, none⟩ = some (ks i) := by
 rcases h.2 with ⟨_, n0⟩ | ⟨g, cap, cur, e, hb, hg, h3, h4, h5, h6⟩
 ·omega
 ·injection e with e1 _ e3
  refine ⟨g, e1, lt_blk hg, ?_⟩
  have h7 := CP_get P ks i 3 (by decide) hi
  rw [cell_of_row _ _ _ _ _ _ hg, ← Array.getElem?_toList]
  rw [← h6, List.getElem?_take_of_lt (by omega)] at h7
  exact h7
/-- The kids as they are once the first i lists have been written over. -/
def wl (P : List Pt) (i j : Nat) : List Int := if j < i then List.replicate (pt P j).kids.length (-1000 - (j : Int)) else (pt P j).kids
theorem wl_len (P : List Pt) (i j : Nat) : (wl P i j).length = (pt P j).kids.length := by unfold wl; split <;> simp
theorem wl_lt {P : List Pt} {i j : Nat} (h : j < i) : wl P i j = List.replicate (pt P j).kids.length (-1000 - (j : Int)) := if_pos h
theorem wl_ge {P : List Pt} {i j : Nat} (h : ¬ j < i) : wl P i j = (pt P j).kids := if_neg h
end Go.Proofs.YtcldglilhhhdoaaGreatDoor.L
