import Derived.Test.YtnclpdgbjefpmaaE0
namespace Go.Proofs.Ytnclpdgbjefpmaa.L
open Go.RowKit
set_option linter.unusedVariables false
set_option linter.unusedSimpArgs false
theorem risP_succ {α : Type} [Inhabited α] (C : Cod α) (lt : α → α → Bool) (n : Nat) (p : Option α) (B : List UInt8) (k : Nat) :
    (C.ris lt (n + 1) p).P B k = dbnd (C.P B k) fun x k1 => if okB lt p x = true then dbnd ((C.ris lt n (some x)).P B k1) (fun r k2 => .ok (x :: r, k2)) else .error (204, k) := by
  show dbnd (dbnd (dbnd (C.P B k) fun x k1 => if okB lt p x = true then .ok (x, k1) else .error (204, k)) fun x k1 => dbnd ((C.ris lt n (some x)).P B k1) fun r k2 => .ok ((x, r), k2)) (fun x k2 => .ok (x.1 :: x.2, k2)) = _
  cases C.P B k with
  | error e => rfl
  | ok y =>
    obtain ⟨x, k1⟩ := y
    show dbnd (dbnd (if okB lt p x = true then (.ok (x, k1) : DR α) else .error (204, k)) fun x k1 => dbnd ((C.ris lt n (some x)).P B k1) fun r k2 => .ok ((x, r), k2)) (fun x k2 => .ok (x.1 :: x.2, k2)) = if okB lt p x = true then dbnd ((C.ris lt n (some x)).P B k1) (fun r k2 => .ok (x :: r, k2)) else .error (204, k)
    split
    · show dbnd (dbnd ((C.ris lt n (some x)).P B k1) fun r k2 => .ok ((x, r), k2)) (fun x k2 => .ok (x.1 :: x.2, k2)) = _
      cases (C.ris lt n (some x)).P B k1 with
      | error e => rfl
      | ok y => rfl
    · rfl
theorem row_gb {g base n size : Nat} {e : TypeId} {v : Value} {xs : List Value} {W W' : World} (h : W.ownsRow base e size v n xs) (k : Gb g W W') (hb : g < base) : W'.ownsRow base e size v n xs :=
  World.ownsRow.kept h k (Or.inr (fun he => by have := (h.lt g he).1; omega))
theorem gb_row {g n size : Nat} {e : TypeId} {v : Value} {xs : List Value} {W W1 W2 : World} (h : W1.ownsRow W.heap.size e size v n xs) (k : Gb g W W1) (hg : W1.grownBy W2 v.ownBlock) : Gb g W W2 :=
  ⟨hg.os.trans k.os, hg.tape.trans k.tape, hg.output.trans k.output, Nat.le_trans k.size hg.size, fun j hj hn => (hg.block j (Nat.lt_of_lt_of_le hj k.size) (fun he => by have := (h.lt j he.symm).1; omega)).trans (k.block j hj hn)⟩
theorem rm_row {g : Nat} {a : Option Addr} {cap : Nat} {B : List UInt8} {W W1 W2 : World} {k room n size : Nat} {e : TypeId} {v : Value} {xs : List Value} (h : Rm g a cap B W1 k room) (hr : W1.ownsRow W.heap.size e size v n xs) (hlt : g < W.heap.size) (hg : W1.grownBy W2 v.ownBlock) : Rm g a cap B W2 k room := by
  have hk : ∀ j, j ≤ g → W2.heap[j]? = W1.heap[j]? := fun j hj => hg.block j (by have := lt_blk h.box; omega) (fun he => by have := (hr.lt j he.symm).1; omega)
  refine ⟨(hk g (Nat.le_refl _)).trans h.box, ?_, h.low, h.le, h.len, h.rm, h.cpl, h.cpm⟩
  rcases h.row with h0 | ⟨b, off, rfl, h1⟩
  · exact Or.inl h0
  · refine Or.inr ⟨b, off, rfl, fun j hj => ?_⟩
    have h3 := h.low b off none rfl
    exact (World.cell?_of_block (a := ⟨b, off + j, none⟩) (hk b (by omega))).trans (h1 j hj)
theorem info_s : (Try.prog.info? 9).map (fun i => (i.zero, i.size, i.bytes)) = some (some (.string ⟨#[]⟩), 1, 16) := by kernel_rfl
theorem wpl_s {w : World} {ops : Array Oper} {rest : List Oper} {o : Oper} {a : Act} {Q : Exit → Act → World → Prop} (hgd : o.guard = none) (s x : Operand)
    (ho : o.op = .call { callee := .builtin .append, args := #[s, x], argTypes := #[24, 24] })
    (base : Nat) (v : Value) (n : Nat) (xs : List Value) (d : Value) (hs : a.eval s = v) (hown : w.ownsRow base 9 1 v n xs) (hx : a.eval x = .slice (some ⟨w.heap.size, 0, none⟩) 1 1) (hm : n ≤ 1000000) (hbase : base ≤ w.heap.size) (hd : d.oneCell' = true)
    (h : ∀ v' w', w'.ownsRow base 9 1 v' (n + 1) (xs ++ [d]) → w.grownBy w' v.ownBlock → wpList Try.prog ops Q rest (a.put o.dst v') w') :
    wpList Try.prog ops Q (o :: rest) a (w.alloc (.cells #[d] 9)) := by
  obtain ⟨i0, hi, hz0, hz1, hz2⟩ := info_parts info_s
  have hown' := World.ownsRow.alloc hown (.cells #[d] 9)
  refine wpList_append_own _ hgd s x 24 ho base 9 i0 (.string ⟨#[]⟩) 1 16 Try.underlying24 hi hz0 hz1 hz2 rfl (by decide) v n _ hs hown' ⟨w.heap.size, 0, none⟩ 1 1 [d] hx rfl (cell_one_new w _ _) (fun u hu => by simp at hu; subst hu; exact hd) (by unfold maxLen; omega) (by omega) (by simp; omega) ?_
  intro v' w' ho' hg _
  exact h v' w' ho' (grow_alloc hg)
theorem info_i : (Try.prog.info? 3).map (fun i => (i.zero, i.size, i.bytes)) = some (some (.int .i64 0), 1, 8) := by kernel_rfl
theorem wpl_i {w : World} {ops : Array Oper} {rest : List Oper} {o : Oper} {a : Act} {Q : Exit → Act → World → Prop} (hgd : o.guard = none) (s x : Operand)
    (ho : o.op = .call { callee := .builtin .append, args := #[s, x], argTypes := #[25, 25] })
    (base : Nat) (v : Value) (n : Nat) (xs : List Value) (d : Value) (hs : a.eval s = v) (hown : w.ownsRow base 3 1 v n xs) (hx : a.eval x = .slice (some ⟨w.heap.size, 0, none⟩) 1 1) (hm : n ≤ 1000000) (hbase : base ≤ w.heap.size) (hd : d.oneCell' = true)
    (h : ∀ v' w', w'.ownsRow base 3 1 v' (n + 1) (xs ++ [d]) → w.grownBy w' v.ownBlock → wpList Try.prog ops Q rest (a.put o.dst v') w') :
    wpList Try.prog ops Q (o :: rest) a (w.alloc (.cells #[d] 3)) := by
  obtain ⟨i0, hi, hz0, hz1, hz2⟩ := info_parts info_i
  have hown' := World.ownsRow.alloc hown (.cells #[d] 3)
  refine wpList_append_own _ hgd s x 25 ho base 3 i0 (.int .i64 0) 1 8 Try.underlying25 hi hz0 hz1 hz2 rfl (by decide) v n _ hs hown' ⟨w.heap.size, 0, none⟩ 1 1 [d] hx rfl (cell_one_new w _ _) (fun u hu => by simp at hu; subst hu; exact hd) (by unfold maxLen; omega) (by omega) (by simp; omega) ?_
  intro v' w' ho' hg _
  exact h v' w' ho' (grow_alloc hg)
theorem info_ss : (Try.prog.info? 24).map (fun i => (i.zero, i.size, i.bytes)) = some (some (.slice none 0 0), 1, 24) := by kernel_rfl
theorem wpl_ss {w : World} {ops : Array Oper} {rest : List Oper} {o : Oper} {a : Act} {Q : Exit → Act → World → Prop} (hgd : o.guard = none) (s x : Operand)
    (ho : o.op = .call { callee := .builtin .append, args := #[s, x], argTypes := #[26, 26] })
    (base : Nat) (v : Value) (n : Nat) (xs : List Value) (d : Value) (hs : a.eval s = v) (hown : w.ownsRow base 24 1 v n xs) (hx : a.eval x = .slice (some ⟨w.heap.size, 0, none⟩) 1 1) (hm : n ≤ 1000000) (hbase : base ≤ w.heap.size) (hd : d.oneCell' = true)
    (h : ∀ v' w', w'.ownsRow base 24 1 v' (n + 1) (xs ++ [d]) → w.grownBy w' v.ownBlock → wpList Try.prog ops Q rest (a.put o.dst v') w') :
    wpList Try.prog ops Q (o :: rest) a (w.alloc (.cells #[d] 24)) := by
  obtain ⟨i0, hi, hz0, hz1, hz2⟩ := info_parts info_ss
  have hown' := World.ownsRow.alloc hown (.cells #[d] 24)
  refine wpList_append_own _ hgd s x 26 ho base 24 i0 (.slice none 0 0) 1 24 Try.underlying26 hi hz0 hz1 hz2 rfl (by decide) v n _ hs hown' ⟨w.heap.size, 0, none⟩ 1 1 [d] hx rfl (cell_one_new w _ _) (fun u hu => by simp at hu; subst hu; exact hd) (by unfold maxLen; omega) (by omega) (by simp; omega) ?_
  intro v' w' ho' hg _
  exact h v' w' ho' (grow_alloc hg)
theorem info_is : (Try.prog.info? 25).map (fun i => (i.zero, i.size, i.bytes)) = some (some (.slice none 0 0), 1, 24) := by kernel_rfl
theorem wpl_is {w : World} {ops : Array Oper} {rest : List Oper} {o : Oper} {a : Act} {Q : Exit → Act → World → Prop} (hgd : o.guard = none) (s x : Operand)
    (ho : o.op = .call { callee := .builtin .append, args := #[s, x], argTypes := #[27, 27] })
    (base : Nat) (v : Value) (n : Nat) (xs : List Value) (d : Value) (hs : a.eval s = v) (hown : w.ownsRow base 25 1 v n xs) (hx : a.eval x = .slice (some ⟨w.heap.size, 0, none⟩) 1 1) (hm : n ≤ 1000000) (hbase : base ≤ w.heap.size) (hd : d.oneCell' = true)
    (h : ∀ v' w', w'.ownsRow base 25 1 v' (n + 1) (xs ++ [d]) → w.grownBy w' v.ownBlock → wpList Try.prog ops Q rest (a.put o.dst v') w') :
    wpList Try.prog ops Q (o :: rest) a (w.alloc (.cells #[d] 25)) := by
  obtain ⟨i0, hi, hz0, hz1, hz2⟩ := info_parts info_is
  have hown' := World.ownsRow.alloc hown (.cells #[d] 25)
  refine wpList_append_own _ hgd s x 27 ho base 25 i0 (.slice none 0 0) 1 24 Try.underlying27 hi hz0 hz1 hz2 rfl (by decide) v n _ hs hown' ⟨w.heap.size, 0, none⟩ 1 1 [d] hx rfl (cell_one_new w _ _) (fun u hu => by simp at hu; subst hu; exact hd) (by unfold maxLen; omega) (by omega) (by simp; omega) ?_
  intro v' w' ho' hg _
  exact h v' w' ho' (grow_alloc hg)
end Go.Proofs.Ytnclpdgbjefpmaa.L
