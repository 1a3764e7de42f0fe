import Derived.Test.YtkbjjbgmnfngjaaGreatDoorMs2
namespace Go.Proofs.YtkbjjbgmnfngjaaGreatDoor.L
open Go.RowKit
set_option linter.unusedVariables false
theorem own_in {W W' : World} {base B : Nat} {v : Value} {l : List Lb} (h : Own W base v l) (hv : ∀ k, v.ownBlock = some k → k < B) (hb : Below B W W') : Own W' base v l := by
  obtain ⟨h1, h2⟩ := h
  refine ⟨h1, ?_⟩
  rcases h2 with h2 | ⟨g, cap, cur, rfl, hg, hh, r⟩
  · exact Or.inl h2
  · refine Or.inr ⟨g, cap, cur, rfl, hg, ?_, r⟩
    rw [hb.block g (hv g rfl)]
    exact hh
theorem own_lt {W : World} {base : Nat} {v : Value} {l : List Lb} (h : Own W base v l) : ∀ k, v.ownBlock = some k → k < W.heap.size := fun k hk => (World.ownsRow.lt h k hk).2
/-- The law's box and its roomy list. -/
structure Ap (w W : World) (fs : List Value) (g cap L : Nat) (l : List Lb) (B : Nat) : Prop where
  bel : Below w.heap.size w W
  bx : ∀ i v, fs[i]? = some v → W.cell? ⟨w.heap.size, i, none⟩ = some v
  all : Own W (w.heap.size + 1) (.slice (some ⟨g, 0, none⟩) (L + 80) cap) (l ++ spr 80)
  len : L = l.length
  top : B ≤ W.heap.size
  gl : g < B
  bl : w.heap.size < B
theorem Ap.lowB {w W W' : World} {fs : List Value} {g cap L : Nat} {l : List Lb} {B : Nat} (h : Ap w W fs g cap L l B) (hb : Below B W W') : Ap w W' fs g cap L l B :=
  ⟨h.bel.trans (hb.mono (Nat.le_of_lt h.bl)), fun i v hi => (hb.cell (p := ⟨w.heap.size, i, none⟩) h.bl).trans (h.bx i v hi), own_in h.all (fun k hk => by simp [Value.ownBlock] at hk; rw [← hk]; exact h.gl) hb, h.len, Nat.le_trans h.top hb.size, h.gl, h.bl⟩
theorem Ap.low {w W W' : World} {fs : List Value} {g cap L : Nat} {l : List Lb} {B : Nat} (h : Ap w W fs g cap L l B) (hb : Below W.heap.size W W') : Ap w W' fs g cap L l B := h.lowB (hb.mono h.top)
theorem gby_below {W W' : World} {r : Option Nat} {B : Nat} (hg : W.grownBy W' r) (hr : ∀ k, r = some k → B ≤ k) (hB : B ≤ W.heap.size) : Below B W W' :=
  ⟨hg.os, hg.tape, hg.output, hg.size, fun k hk => hg.block k (Nat.lt_of_lt_of_le hk hB) (fun e => by have := hr k e.symm; omega)⟩
theorem came_part {w : World} {base g N cap : Nat} {l x : List Lb} (h : Own w base (.slice (some ⟨g, 0, none⟩) N cap) (l ++ x)) (L : Nat) (hL : L = l.length) : Came w (.slice (some ⟨g, 0, none⟩) L cap) l := by
  have hp := own_part h L hL
  subst hL
  obtain ⟨a', c', e, hr⟩ := hp
  injection e with e1 _ e3
  refine Or.inr ⟨_, cap, rfl, ?_, ?_⟩
  · rcases h.2 with ⟨e, _⟩ | ⟨g', cap', cur, e, _, _, hc, hm, _⟩
    · cases e
    · injection e with _ _ e4
      rw [List.length_append] at hc
      omega
  · rcases hr with h0 | ⟨b, off, ea, hb, hc⟩
    · exact Or.inl h0
    · rw [ea] at e1
      injection e1 with e1
      exact Or.inr ⟨b, off, e1, hb, hc⟩
theorem Ap.came {w W : World} {fs : List Value} {g cap L : Nat} {l : List Lb} {B : Nat} (h : Ap w W fs g cap L l B) : Came W (.slice (some ⟨g, 0, none⟩) L cap) l := came_part h.all L h.len
theorem put2_gby (W : World) (g o : Nat) (a b : Value) : W.grownBy (put2 W g o a b) (some g) :=
  ⟨rfl, rfl, rfl, by rw [put2_size]; exact Nat.le_refl _, fun k hk hn => put2_other _ _ _ (fun e => hn (by rw [e]))⟩
theorem put2_cell {W : World} {g o b i : Nat} {v : Value} (x y : Value) (h : W.cell? ⟨b, i, none⟩ = some v) (hne : b ≠ g) : (put2 W g o x y).cell? ⟨b, i, none⟩ = some v :=
  (World.cell?_of_block (put2_other W x y hne)).trans h
theorem below_put2 {B : Nat} {a w : World} {g : Nat} (h : Below B a w) (hB : B ≤ g) (o : Nat) (x y : Value) : Below B a (put2 w g o x y) :=
  ⟨h.os, h.tape, h.output, by rw [put2_size]; exact h.size, fun k hk => by rw [put2_other _ _ _ (by omega)]; exact h.block k hk⟩
/-- The first k of one list, the rest of another. -/
def mixL (u x : List Lb) (k : Nat) : List Lb := u.take k ++ x.drop k
theorem mix_len (u x : List Lb) (k : Nat) (h1 : k ≤ u.length) (h2 : k ≤ x.length) : (mixL u x k).length = x.length := by
  unfold mixL
  rw [List.length_append, List.length_take, List.length_drop]
  omega
theorem mix_next (u x : List Lb) (k : Nat) (h1 : k < u.length) (h2 : k < x.length) : (mixL u x k).set k (ky u k, vl u k) = mixL u x (k + 1) := by
  unfold mixL
  have e : x.drop k = x[k] :: x.drop (k + 1) := List.drop_eq_getElem_cons h2
  rw [e, List.set_append_right _ _ (by rw [List.length_take]; omega), List.length_take, Nat.min_eq_left (by omega), Nat.sub_self, take_kv u k h1, List.set_cons_zero, List.append_assoc]
  rfl
theorem mix_zero (u x : List Lb) : mixL u x 0 = x := by simp [mixL]
theorem mix_end (u l y : List Lb) (h : u.length = l.length) : mixL u (l ++ y) l.length = u ++ y := by
  unfold mixL
  rw [List.take_of_length_le (by omega), List.drop_append_of_le_length (by omega)]
  simp
theorem mix_full (u x : List Lb) (k : Nat) (h : u.length = k) (h2 : x.length = k) : mixL u x k = u := by
  unfold mixL
  rw [List.take_of_length_le (by omega), List.drop_of_length_le (by omega), List.append_nil]
theorem Ap.put {w W : World} {fs : List Value} {g cap L : Nat} {M : List Lb} {B : Nat} (h : Ap w W fs g cap L M B) (k : Nat) (x y : ByteArray) (hk : k < L) : Ap w (put2 W g (k * 2) (.string x) (.string y)) fs g cap L (M.set k (x, y)) B := by
  have hg := own_base h.all g rfl
  have hl := h.len
  refine ⟨below_put2 h.bel (by omega) _ _ _, fun i v hi => put2_cell _ _ (h.bx i v hi) (by omega), ?_, by rw [List.length_set]; exact h.len, by rw [put2_size]; exact h.top, h.gl, h.bl⟩
  have := own_put2 (k := k) x y h.all (by rw [List.length_append]; omega)
  rwa [List.set_append_left _ _ (by omega)] at this
theorem own_put {W : World} {base g o : Nat} {v : Value} {l : List Lb} (h : Own W base v l) (hg : g < base) (x y : Value) : Own (put2 W g o x y) base v l := own_grown h (put2_gby W g o x y) (fun k hk => by injection hk with hk; omega)
theorem own_came_take {W : World} {base L m co : Nat} {ao : Option Addr} {lo : List Lb} (h : Own W base (.slice ao m co) lo) (hm : m = lo.length) (hL : L ≤ m) : Came W (.slice ao L co) (lo.take L) := by
  rcases h.2 with ⟨e, h0⟩ | ⟨g', cp', cur, e, _⟩
  · injection e with e1 e2 e3
    subst e1 e3
    have : L = 0 := by omega
    subst this
    exact Or.inl ⟨rfl, by simp⟩
  · injection e with e1 e2 e3
    subst e1 e3
    have h' : Own W base (.slice (some ⟨g', 0, none⟩) m co) (lo.take L ++ lo.drop L) := by rw [List.take_append_drop]; exact h
    exact came_part h' L (by rw [List.length_take]; omega)
theorem ky_take {lo : List Lb} {L k : Nat} (h : k < L) : ky (lo.take L) k = ky lo k ∧ vl (lo.take L) k = vl lo k := by
  unfold ky vl
  simp [h]
end Go.Proofs.YtkbjjbgmnfngjaaGreatDoor.L
