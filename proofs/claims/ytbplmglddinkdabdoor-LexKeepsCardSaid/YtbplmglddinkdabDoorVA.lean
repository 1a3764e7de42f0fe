import Derived.Test.YtbplmglddinkdabDoorApr
import Derived.Test.YtbplmglddinkdabDoorXW
namespace Go.Proofs.YtbplmglddinkdabDoor.L
open Go.RowKit Go.Shelf
set_option linter.unusedVariables false
def mk9 (j i : Nat) : Tok := ⟨9, ⟨#[]⟩, (j : Int), i, 0⟩
def mk8 (j i : Nat) : Tok := ⟨8, ⟨#[]⟩, (j : Int), i, 0⟩
def mk7 (j : Nat) : Tok := ⟨7, ⟨#[]⟩, (j : Int), 0, 0⟩
def w9 (j m : Nat) : List Tok := (List.range m).map (mk9 j)
def w8 (j m : Nat) : List Tok := (List.range m).map (mk8 j)
theorem w9_len (j m : Nat) : (w9 j m).length = m := by simp [w9]
theorem w8_len (j m : Nat) : (w8 j m).length = m := by simp [w8]
theorem w9_succ (j m : Nat) : w9 j (m + 1) = w9 j m ++ [mk9 j m] := by simp [w9, List.range_succ]
theorem w8_succ (j m : Nat) : w8 j (m + 1) = w8 j m ++ [mk8 j m] := by simp [w8, List.range_succ]
theorem w9_get (j m i : Nat) (h : i < m) : tk (w9 j m) i = mk9 j i := by
  unfold tk w9
  rw [List.getD_eq_getElem?_getD, List.getElem?_map, List.getElem?_range h]
  rfl
/-- The list while it is written over. -/
def mix (T : List Tok) (j i : Nat) : List Tok := w9 j i ++ T.drop i
theorem mix_len (T : List Tok) (j i : Nat) (h : i ≤ T.length) : (mix T j i).length = T.length := by
  unfold mix
  rw [List.length_append, w9_len, List.length_drop]
  omega
theorem mix_zero (T : List Tok) (j : Nat) : mix T j 0 = T := rfl
theorem mix_all (T : List Tok) (j : Nat) : mix T j T.length = w9 j T.length := by
  unfold mix
  rw [List.drop_length, List.append_nil]
theorem mix_set (T : List Tok) (j i : Nat) (h : i < T.length) : (mix T j i).set i (mk9 j i) = mix T j (i + 1) := by
  unfold mix
  rw [w9_succ, List.set_append_right _ _ (by rw [w9_len]; exact Nat.le_refl _), w9_len, Nat.sub_self, List.drop_eq_getElem_cons h, List.append_assoc]
  rfl
/-- Five cells written into a row. -/
def putT (W : World) (g o : Nat) (t : Tok) : World := ((((W.setCell ⟨g, o, none⟩ (.int .i64 t.kind)).setCell ⟨g, o + 1, none⟩ (.string t.text)).setCell ⟨g, o + 2, none⟩ (.int .i64 t.num)).setCell ⟨g, o + 3, none⟩ (.int .i64 t.a)).setCell ⟨g, o + 4, none⟩ (.int .i64 t.e)
theorem putT_grown (W : World) (g o : Nat) (t : Tok) : W.grownBy (putT W g o t) (some g) := by
  have one : ∀ (W : World) (o : Nat) (v : Value), W.grownBy (W.setCell ⟨g, o, none⟩ v) (some g) := fun W o v => Ap.grown_set W g o v
  have tr : ∀ {A B C : World}, A.grownBy B (some g) → B.grownBy C (some g) → A.grownBy C (some g) := fun h k => ⟨k.os.trans h.os, k.tape.trans h.tape, k.output.trans h.output, Nat.le_trans h.size k.size, fun j hj hn => (k.block j (Nat.lt_of_lt_of_le hj h.size) hn).trans (h.block j hj hn)⟩
  exact tr (tr (tr (tr (one _ _ _) (one _ _ _)) (one _ _ _)) (one _ _ _)) (one _ _ _)
theorem putT_block (W : World) (g o : Nat) (t : Tok) (cur : Array Value) (ty : TypeId) (h : W.heap[g]? = some (.cells cur ty (0, 0))) :
    (putT W g o t).heap[g]? = some (.cells (((((cur.setIfInBounds o (.int .i64 t.kind)).setIfInBounds (o + 1) (.string t.text)).setIfInBounds (o + 2) (.int .i64 t.num)).setIfInBounds (o + 3) (.int .i64 t.a)).setIfInBounds (o + 4) (.int .i64 t.e)) ty (0, 0)) :=
  Ap.set_block _ (Ap.set_block _ (Ap.set_block _ (Ap.set_block _ (Ap.set_block _ h))))
theorem cellsT_set : ∀ (l : List Tok) (i : Nat) (t : Tok), i < l.length → cellsT (l.set i t) = ((((((cellsT l).set (i * 5) (.int .i64 t.kind)).set (i * 5 + 1) (.string t.text)).set (i * 5 + 2) (.int .i64 t.num)).set (i * 5 + 3) (.int .i64 t.a)).set (i * 5 + 4) (.int .i64 t.e))
  | [], i, t, h => by simp at h
  | x :: r, 0, t, h => rfl
  | x :: r, i + 1, t, h => by
    have ih := cellsT_set r i t (by simpa using h)
    have e1 : cellsT (x :: r) = [Value.int .i64 x.kind, .string x.text, .int .i64 x.num, .int .i64 x.a, .int .i64 x.e] ++ cellsT r := rfl
    have e2 : cellsT ((x :: r).set (i + 1) t) = [Value.int .i64 x.kind, .string x.text, .int .i64 x.num, .int .i64 x.a, .int .i64 x.e] ++ cellsT (r.set i t) := rfl
    rw [e2, ih, e1]
    have sh : ∀ (m : List Value) (j : Nat) (v : Value), ([Value.int .i64 x.kind, .string x.text, .int .i64 x.num, .int .i64 x.a, .int .i64 x.e] ++ m).set ((i + 1) * 5 + j) v = [Value.int .i64 x.kind, .string x.text, .int .i64 x.num, .int .i64 x.a, .int .i64 x.e] ++ m.set (i * 5 + j) v := by
      intro m j v
      rw [List.set_append_right _ _ (by simp; omega)]
      congr 2
      simp
      omega
    have s0 := sh (cellsT r) 0 (.int .i64 t.kind)
    rw [Nat.add_zero, Nat.add_zero] at s0
    rw [s0, sh, sh, sh, sh]
    rfl
theorem OwnT.put {W : World} {base g cap i : Nat} {l : List Tok} (t : Tok) (h : OwnT W base (.slice (some ⟨g, 0, none⟩) l.length cap) l) (hi : i < l.length) : OwnT (putT W g (i * 5) t) base (.slice (some ⟨g, 0, none⟩) l.length cap) (l.set i t) := by
  obtain ⟨h1, h2⟩ := h
  rcases h2 with ⟨e, _⟩ | ⟨g', cap', cur, e, hb, hg, h3, h4, h5, h6⟩
  · cases e
  · cases e
    refine ⟨by rw [cellsT_len], .inr ⟨g, cap, _, by rw [List.length_set], hb, putT_block W g (i * 5) t cur _ hg, by rw [List.length_set]; exact h3, h4, by simp; exact h5, ?_⟩⟩
    rw [List.length_set, cellsT_set l i t hi, ← h6]
    simp only [Array.toList_setIfInBounds]
    have hz : cur.toList.length = cap * 5 := by rw [Array.length_toList]; exact h5
    have tk : ∀ (m : List Value) (j : Nat) (v : Value), (m.set j v).take (l.length * 5) = (m.take (l.length * 5)).set j v := fun m j v => List.take_set ..
    rw [tk, tk, tk, tk, tk]
theorem row_ne {W : World} {b b' s s' n n' : Nat} {e e' : TypeId} {v v' : Value} {xs ys : List Value} (h : W.ownsRow b e s v n xs) (h' : W.ownsRow b' e' s' v' n' ys) (hne : e ≠ e') : v.ownBlock = none ∨ v.ownBlock ≠ v'.ownBlock := by
  rcases h.2 with ⟨rfl, _⟩ | ⟨g, cap, cur, rfl, _, hg, _⟩
  · exact .inl rfl
  · right
    intro e1
    rcases h'.2 with ⟨rfl, _⟩ | ⟨g', cap', cur', rfl, _, hg', _⟩
    · cases e1
    · have : g = g' := by simpa [Value.ownBlock] using e1
      subst this
      rw [hg] at hg'
      have := Option.some.inj hg'
      simp at this
      exact hne this.2
theorem row_lt {W : World} {b s n : Nat} {e : TypeId} {v : Value} {xs : List Value} (h : W.ownsRow b e s v n xs) {k : Nat} (hk : v.ownBlock = some k) : b ≤ k ∧ k < W.heap.size := by
  rcases h.2 with ⟨rfl, _⟩ | ⟨g, cap, cur, rfl, hb, hg, _⟩
  · cases hk
  · cases hk
    exact ⟨hb, lt_blk hg⟩
theorem grown_below {W W' : World} {row : Option Nat} {B : Nat} (h : W.grownBy W' row) (hB : B ≤ W.heap.size) (hr : ∀ k, row = some k → B ≤ k) : Below B W W' :=
  ⟨h.os, h.tape, h.output, h.size, fun k hk => h.block k (by omega) (fun e => by have := hr k e.symm; omega)⟩
end Go.Proofs.YtbplmglddinkdabDoor.L
