import Derived.Test.YtodamoblnlcodaaDoorLw2
namespace Go.Proofs.YtodamoblnlcodaaDoor.L
open Go.RowKit
set_option linter.unusedVariables false
/-- Two cells behind one another written over. -/
def put2 (W : World) (g o : Nat) (a b : Value) : World := (W.setCell ⟨g, o, none⟩ a).setCell ⟨g, o + 1, none⟩ b
theorem set_block {W : World} {g o : Nat} {cur : Array Value} {t : TypeId} {fr : Nat × Nat} (v : Value) (h : W.heap[g]? = some (.cells cur t fr)) : (W.setCell ⟨g, o, none⟩ v).heap[g]? = some (.cells (cur.setIfInBounds o v) t fr) := by
  rw [Go.Sort.setCell_eq]
  show (W.heap.modify g _)[g]? = _
  rw [Array.getElem?_modify, if_pos rfl, h]
  rfl
theorem set_other (W : World) {g o k : Nat} (v : Value) (h : k ≠ g) : (W.setCell ⟨g, o, none⟩ v).heap[k]? = W.heap[k]? := by
  rw [Go.Sort.setCell_eq]
  show (W.heap.modify g _)[k]? = _
  rw [Array.getElem?_modify, if_neg (fun e => h e.symm)]
theorem set_size (W : World) (g o : Nat) (v : Value) : (W.setCell ⟨g, o, none⟩ v).heap.size = W.heap.size := by
  rw [Go.Sort.setCell_eq]
  show (W.heap.modify g _).size = _
  simp
theorem put2_other (W : World) {g o k : Nat} (a b : Value) (h : k ≠ g) : (put2 W g o a b).heap[k]? = W.heap[k]? := by
  unfold put2
  rw [set_other _ _ h, set_other _ _ h]
theorem put2_size (W : World) (g o : Nat) (a b : Value) : (put2 W g o a b).heap.size = W.heap.size := by
  unfold put2
  rw [set_size, set_size]
theorem put2_block {W : World} {g o : Nat} {cur : Array Value} {t : TypeId} {fr : Nat × Nat} (a b : Value) (h : W.heap[g]? = some (.cells cur t fr)) : (put2 W g o a b).heap[g]? = some (.cells ((cur.setIfInBounds o a).setIfInBounds (o + 1) b) t fr) :=
  set_block b (set_block a h)
/-- A row of one's own with one of its elements written over. -/
theorem own_put2 {W : World} {base g cp N : Nat} {l : List Lb} {k : Nat} (x y : ByteArray) (h : Own W base (.slice (some ⟨g, 0, none⟩) N cp) l) (hk : k < l.length) : Own (put2 W g (k * 2) (.string x) (.string y)) base (.slice (some ⟨g, 0, none⟩) N cp) (l.set k (x, y)) := by
  rcases h.2 with ⟨e, _⟩ | ⟨g', cap', cur, e, hb, hg, hnc, hcm, hcs, htake⟩
  · cases e
  injection e with e1 e2 e3
  injection e1 with e1
  injection e1 with e1 _ _
  subst e1 e3
  refine ⟨cellsF_len _, Or.inr ⟨g, cp, _, by rw [List.length_set, e2], hb, put2_block _ _ hg, by rw [List.length_set]; exact hnc, hcm, by simpa using hcs, ?_⟩⟩
  apply List.ext_getElem?
  intro j
  rw [List.getElem?_take]
  by_cases hj : j < (l.set k (x, y)).length * 2
  · rw [if_pos hj]
    rw [List.length_set] at hj
    have hd : j / 2 < l.length := by omega
    have hsz : j < cur.size := by rw [hcs]; omega
    have a' := cellsF_at l (j / 2) hd
    have a := cellsF_at (l.set k (x, y)) (j / 2) (by rw [List.length_set]; exact hd)
    rw [← htake, List.getElem?_take, List.getElem?_take, if_pos (by omega), if_pos (by omega)] at a'
    have hky : ky (l.set k (x, y)) (j / 2) = if k = j / 2 then x else ky l (j / 2) := by
      unfold ky
      rw [List.getD_eq_getElem?_getD, List.getElem?_set]
      by_cases e : k = j / 2
      · simp [e, hd]
      · simp [e]
    have hvl : vl (l.set k (x, y)) (j / 2) = if k = j / 2 then y else vl l (j / 2) := by
      unfold vl
      rw [List.getD_eq_getElem?_getD, List.getElem?_set]
      by_cases e : k = j / 2
      · simp [e, hd]
      · simp [e]
    rw [hky, hvl] at a
    rw [Array.getElem?_toList, Array.getElem?_setIfInBounds, Array.getElem?_setIfInBounds]
    simp only [Array.size_setIfInBounds]
    by_cases e2 : j % 2 = 0
    · rw [show j / 2 * 2 = j by omega] at a a'
      rw [a.1]
      by_cases e : k = j / 2
      · rw [if_neg (by omega), if_pos (by omega), if_pos (by omega), if_pos e]
      · rw [if_neg (by omega), if_neg (by omega), if_neg e]
        simpa using a'.1
    · rw [show j / 2 * 2 + 1 = j by omega] at a a'
      rw [a.2]
      by_cases e : k = j / 2
      · rw [if_pos (by omega), if_pos (by omega), if_pos e]
      · rw [if_neg (by omega), if_neg (by omega), if_neg e]
        simpa using a'.2
  · rw [if_neg hj, List.getElem?_eq_none (by rw [cellsF_len]; omega)]
theorem gby_refl (w : World) (r : Option Nat) : w.grownBy w r := ⟨rfl, rfl, rfl, Nat.le_refl _, fun _ _ _ => rfl⟩
theorem gby_step {w wr w3 : World} {r row : Option Nat} (h : w.grownBy wr r) (h3 : wr.grownBy w3 row) (hrow : row = r ∨ ∀ b, row = some b → w.heap.size ≤ b) : w.grownBy w3 r :=
  ⟨h3.os.trans h.os, h3.tape.trans h.tape, h3.output.trans h.output, Nat.le_trans h.size h3.size, fun k hk hn => (h3.block k (Nat.lt_of_lt_of_le hk h.size) (by
    rcases hrow with e | e
    · rw [e]; exact hn
    · intro e'
      have := e k e'.symm
      omega)).trans (h.block k hk hn)⟩
theorem gby_alloc {w wr : World} {r : Option Nat} (h : w.grownBy wr r) (o : Obj) : w.grownBy (wr.alloc o) r :=
  gby_step h (row := none) ⟨rfl, rfl, rfl, by simp, fun k hk _ => heap_alloc_old wr _ hk⟩ (Or.inr (by intro b e; cases e))
theorem gby_put2 {w wr : World} {r : Option Nat} {g : Nat} (h : w.grownBy wr r) (hg : some g = r ∨ w.heap.size ≤ g) (o : Nat) (a b : Value) : w.grownBy (put2 wr g o a b) r := by
  refine gby_step h (row := some g) ⟨rfl, rfl, rfl, by rw [put2_size]; exact Nat.le_refl _, fun k hk hn => put2_other _ _ _ (fun e => hn (by rw [e]))⟩ ?_
  rcases hg with e | e
  · exact Or.inl e
  · exact Or.inr (fun b' e' => by injection e' with e'; omega)
theorem own_form {w : World} {base : Nat} {v : Value} {l : List Lb} (h : Own w base v l) : ∃ a cap, v = .slice a l.length cap := by
  obtain ⟨a, c, e, _⟩ := own_items h
  exact ⟨a, c, e⟩
theorem own_real {w : World} {base n : Nat} {v : Value} {l : List Lb} (h : Own w base v l) (hn : l.length = n) (h0 : 0 < n) : ∃ g cap cur, v = .slice (some ⟨g, 0, none⟩) n cap ∧ base ≤ g ∧ w.heap[g]? = some (.cells cur 27 (0, 0)) ∧ n ≤ cap ∧ cur.size = cap * 2 := by
  subst hn
  rcases h.2 with ⟨_, e⟩ | ⟨g, cap, cur, e, hb, hg, hnc, hcm, hcs, htake⟩
  · omega
  · exact ⟨g, cap, cur, e, hb, hg, hnc, hcs⟩
theorem cell_of {w : World} {g o : Nat} {cur : Array Value} {t : TypeId} (h : w.heap[g]? = some (.cells cur t (0, 0))) (ho : o < cur.size) : ∃ u, w.cell? ⟨g, o, none⟩ = some u ∧ w.frozen? ⟨g, o, none⟩ = false := by
  refine ⟨cur[o], ?_, ?_⟩
  · simp [World.cell?, h, ho]
  · simp [World.frozen?, h]
theorem own_cells {w : World} {base g n cap : Nat} {l : List Lb} (h : Own w base (.slice (some ⟨g, 0, none⟩) n cap) l) : ∀ j u, (cellsF l)[j]? = some u → w.cell? ((⟨g, 0, none⟩ : Addr).add j) = some u := by
  obtain ⟨a, c, e⟩ := own_form h
  injection e with _ e2 _
  subst e2
  exact World.ownsRow.cells h rfl
end Go.Proofs.YtodamoblnlcodaaDoor.L
