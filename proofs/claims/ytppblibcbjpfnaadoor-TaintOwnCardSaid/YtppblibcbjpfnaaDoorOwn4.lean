import Derived.Test.YtppblibcbjpfnaaDoorOwn2
namespace Go.Proofs.YtppblibcbjpfnaaDoor.L
open Go.RowKit
set_option linter.unusedVariables false
/-- Three cells behind one another written over. -/
def put3 (W : World) (g o : Nat) (a b c : Value) : World := ((W.setCell ⟨g, o, none⟩ a).setCell ⟨g, o + 1, none⟩ b).setCell ⟨g, o + 2, none⟩ c
theorem set_block {W : World} {g o : Nat} {cur : Array Value} {t : TypeId} {fr : Nat × Nat} (v : Value) (h : W.heap[g]? = some (.cells cur t fr)) : (W.setCell ⟨g, o, none⟩ v).heap[g]? = some (.cells (cur.setIfInBounds o v) t fr) := by
  rw [Go.Sort.setCell_eq]
  show (W.heap.modify g _)[g]? = _
  rw [Array.getElem?_modify, if_pos rfl, h]
  rfl
theorem set_other (W : World) {g o k : Nat} (v : Value) (h : k ≠ g) : (W.setCell ⟨g, o, none⟩ v).heap[k]? = W.heap[k]? := by
  rw [Go.Sort.setCell_eq]
  show (W.heap.modify g _)[k]? = _
  rw [Array.getElem?_modify, if_neg (fun e => h e.symm)]
theorem set_size (W : World) (g o : Nat) (v : Value) : (W.setCell ⟨g, o, none⟩ v).heap.size = W.heap.size := by
  rw [Go.Sort.setCell_eq]
  show (W.heap.modify g _).size = _
  simp
theorem put3_other (W : World) {g o k : Nat} (a b c : Value) (h : k ≠ g) : (put3 W g o a b c).heap[k]? = W.heap[k]? := by
  unfold put3
  rw [set_other _ _ h, set_other _ _ h, set_other _ _ h]
theorem put3_size (W : World) (g o : Nat) (a b c : Value) : (put3 W g o a b c).heap.size = W.heap.size := by
  unfold put3
  rw [set_size, set_size, set_size]
theorem put3_block {W : World} {g o : Nat} {cur : Array Value} {t : TypeId} {fr : Nat × Nat} (a b c : Value) (h : W.heap[g]? = some (.cells cur t fr)) : (put3 W g o a b c).heap[g]? = some (.cells (((cur.setIfInBounds o a).setIfInBounds (o + 1) b).setIfInBounds (o + 2) c) t fr) :=
  set_block c (set_block b (set_block a h))
/-- A row of one's own with one of its elements written over. -/
theorem own_put3 {W : World} {base g cp : Nat} {l : List Tn} {k : Nat} (x y z : ByteArray) (h : OwnT W base (.slice (some ⟨g, 0, none⟩) l.length cp) l) (hk : k < l.length) : OwnT (put3 W g (k * 3) (.string x) (.string y) (.string z)) base (.slice (some ⟨g, 0, none⟩) l.length cp) (l.set k (x, y, z)) := by
  rcases h.2 with ⟨e, _⟩ | ⟨g', cap', cur, e, hb, hg, hnc, hcm, hcs, htake⟩
  · cases e
  injection e with e1 _ e3
  injection e1 with e1
  injection e1 with e1 _ _
  subst e1 e3
  refine ⟨cellsG_len _ _ _, Or.inr ⟨g, cp, _, by rw [List.length_set], hb, put3_block _ _ _ hg, by rw [List.length_set]; exact hnc, hcm, by simpa using hcs, ?_⟩⟩
  apply List.ext_getElem?
  intro j
  rw [List.getElem?_take]
  by_cases hj : j < (l.set k (x, y, z)).length * 3
  · rw [if_pos hj]
    rw [List.length_set] at hj
    have hd : j / 3 < l.length := by omega
    have hm : j % 3 < 3 := Nat.mod_lt _ (by decide)
    have a := cellsG_at 3 tf (l.set k (x, y, z)) (j / 3) (by rw [List.length_set]; exact hd) (j % 3) hm
    rw [Nat.div_add_mod' j 3] at a
    rw [a]
    have a' := cellsG_at 3 tf l (j / 3) hd (j % 3) hm
    rw [Nat.div_add_mod' j 3, ← htake, List.getElem?_take, if_pos hj] at a'
    have hsz : j < cur.size := by rw [hcs]; omega
    have hcur : cur[j]? = some (.string (tf l[j / 3] (j % 3))) := by simpa using a'
    rw [Array.getElem?_toList, Array.getElem?_setIfInBounds, Array.getElem?_setIfInBounds, Array.getElem?_setIfInBounds]
    simp only [Array.size_setIfInBounds, List.getElem_set]
    by_cases e : k = j / 3
    · subst e
      simp only [if_true]
      have h3 : j % 3 = 0 ∨ j % 3 = 1 ∨ j % 3 = 2 := by omega
      rcases h3 with h3 | h3 | h3
      · rw [if_neg (by omega), if_neg (by omega), if_pos (by omega), if_pos (by omega), h3]; rfl
      · rw [if_neg (by omega), if_pos (by omega), if_pos (by omega), h3]; rfl
      · rw [if_pos (by omega), if_pos (by omega), h3]; rfl
    · rw [if_neg (by omega), if_neg (by omega), if_neg (by omega), if_neg e]
      exact hcur
  · rw [if_neg hj, List.getElem?_eq_none (by rw [cellsG_len]; omega)]
end Go.Proofs.YtppblibcbjpfnaaDoor.L
