import Derived.Test.YtfkijmmflpnncaaDoorRf7
import Derived.Test.YtfkijmmflpnncaaDoorRel
namespace Go.Proofs.YtfkijmmflpnncaaDoor.L
open Go.RowKit Bs Go.Maps
set_option linter.unusedVariables false
/-- One box: the table that was handed in. -/
structure Bq (w W : World) (m : Int) (v : Value) : Prop where
  c1 : W.cell? ⟨w.heap.size, 0, none⟩ = some (.int .i64 m)
  c2 : W.cell? ⟨w.heap.size, 1, none⟩ = some v
  sz : w.heap.size < W.heap.size
  lo : Below w.heap.size w W
theorem Bq.mk1 (w : World) (m : Int) (v : Value) (t : TypeId) : Bq w (w.alloc (.cells #[.int .i64 m, v] t)) m v := by
  have h2 : (w.alloc (.cells #[.int .i64 m, v] t)).heap[w.heap.size]? = some (.cells #[.int .i64 m, v] t) := heap_alloc_new w _
  refine ⟨?_, ?_, by simp, (Below.refl _ w).alloc (Nat.le_refl _) _⟩
  · unfold World.cell?; rw [h2]; rfl
  · unfold World.cell?; rw [h2]; rfl
theorem Bq.low {w W W' : World} {m : Int} {v : Value} (h : Bq w W m v) (hb : Below W.heap.size W W') : Bq w W' m v := by
  obtain ⟨a1, a2, a7, a8⟩ := h
  refine ⟨?_, ?_, Nat.lt_of_lt_of_le a7 hb.size, a8.trans (hb.mono (Nat.le_of_lt a7))⟩
  · exact (hb.cell (p := ⟨w.heap.size, 0, none⟩) a7).trans a1
  · exact (hb.cell (p := ⟨w.heap.size, 1, none⟩) a7).trans a2
theorem own_low {w w' : World} {base : Nat} {e : TypeId} {size n : Nat} {v : Value} {xs : List Value} (h : w.ownsRow base e size v n xs) (hb : Below w.heap.size w w') : w'.ownsRow base e size v n xs := own_stays h (fun g hg => hb.block g (h.lt g hg).2)
theorem own_mono {W : World} {base base' : Nat} {e : TypeId} {size : Nat} {v : Value} {k : Nat} {xs : List Value} (h : W.ownsRow base e size v k xs) (hb : base' ≤ base) : W.ownsRow base' e size v k xs := by
  obtain ⟨h1, h2⟩ := h
  refine ⟨h1, ?_⟩
  rcases h2 with h2 | ⟨g, cap, cur, rfl, hg, r⟩
  · exact Or.inl h2
  · exact Or.inr ⟨g, cap, cur, rfl, Nat.le_trans hb hg, r⟩
/-- The rows by their slots, as far as slot k. -/
def bsD (d : List Dr) : Nat → List Dr
  | 0 => []
  | k + 1 => bsD d k ++ (if atD d (k : Int) = -1 then [] else [(ds d (atD d (k : Int)).toNat, dn d (atD d (k : Int)).toNat, dl d (atD d (k : Int)).toNat)])
theorem bsD_len (d : List Dr) : ∀ k, (bsD d k).length ≤ k
  | 0 => Nat.le_refl _
  | k + 1 => by
    rw [bsD, List.length_append]
    have := bsD_len d k
    split <;> simp <;> omega
end Go.Proofs.YtfkijmmflpnncaaDoor.L
namespace Go.Proofs.YtfkijmmflpnncaaDoor.L
open Go.RowKit
set_option linter.unusedVariables false
theorem bless_iff : ∀ x y : List UInt8, Op.bytesLess x y = true ↔ x < y
  | x, [] => by simp [Op.bytesLess]
  | [], b :: y => by simp [Op.bytesLess]
  | a :: x, b :: y => by
    rw [Op.bytesLess, Bool.or_eq_true, Bool.and_eq_true, bless_iff x y, List.cons_lt_cons_iff]
    simp
/-- How many names at the head are below s. -/
def pos : List ByteArray → ByteArray → Nat
  | [], _ => 0
  | x :: r, s => if Op.bytesLess x.toList s.toList = true then pos r s + 1 else 0
theorem pos_le : ∀ (o : List ByteArray) (s : ByteArray), pos o s ≤ o.length
  | [], _ => Nat.le_refl _
  | x :: r, s => by
    unfold pos
    have := pos_le r s
    split <;> simp <;> omega
theorem pos_lt : ∀ (o : List ByteArray) (s : ByteArray) (j : Nat), j < pos o s → Op.bytesLess (nmS o j).toList s.toList = true
  | [], _, j, h => by simp [pos] at h
  | x :: r, s, j, h => by
    unfold pos at h
    split at h
    · rename_i hx
      cases j with
      | zero => exact hx
      | succ j => exact pos_lt r s j (by omega)
    · omega
theorem pos_at : ∀ (o : List ByteArray) (s : ByteArray), pos o s < o.length → Op.bytesLess (nmS o (pos o s)).toList s.toList = false
  | [], _, h => by simp [pos] at h
  | x :: r, s, h => by
    unfold pos at h ⊢
    by_cases hx : Op.bytesLess x.toList s.toList = true
    · rw [if_pos hx] at h ⊢
      exact pos_at r s (by simpa using h)
    · rw [if_neg hx]
      show Op.bytesLess x.toList s.toList = false
      simpa using hx
def insAt (o : List ByteArray) (p : Nat) (s : ByteArray) : List ByteArray := o.take p ++ s :: o.drop p
theorem insAt_len (o : List ByteArray) (p : Nat) (s : ByteArray) : (insAt o p s).length = o.length + 1 := by
  unfold insAt
  rw [List.length_append, List.length_cons, List.length_take, List.length_drop]
  omega
theorem insAt_perm (o : List ByteArray) (p : Nat) (s : ByteArray) : (insAt o p s).Perm (s :: o) := by
  unfold insAt
  refine List.perm_middle.trans ?_
  rw [List.take_append_drop]
def leS (a b : ByteArray) : Prop := a.data.toList ≤ b.data.toList
theorem insAt_up : ∀ (o : List ByteArray) (s : ByteArray), o.Pairwise leS → (insAt o (pos o s) s).Pairwise leS
  | [], s, _ => by simp [insAt]
  | x :: r, s, h => by
    have h1 := (List.pairwise_cons.1 h).1
    have h2 := (List.pairwise_cons.1 h).2
    unfold pos
    by_cases hx : Op.bytesLess x.toList s.toList = true
    · rw [if_pos hx]
      have hxs : leS x s := by
        unfold leS
        have := (bless_iff _ _).1 hx
        rw [bytes_toList, bytes_toList] at this
        exact List.le_of_lt this
      have e : insAt (x :: r) (pos r s + 1) s = x :: insAt r (pos r s) s := rfl
      rw [e]
      refine List.pairwise_cons.2 ⟨fun y hy => ?_, insAt_up r s h2⟩
      rcases List.mem_cons.1 ((insAt_perm r (pos r s) s).mem_iff.1 hy) with c | c
      · rw [c]; exact hxs
      · exact h1 y c
    · rw [if_neg hx]
      have hsx : leS s x := by
        unfold leS
        have : ¬ x.toList < s.toList := fun c => hx ((bless_iff _ _).2 c)
        rw [bytes_toList, bytes_toList] at this
        exact List.not_lt.1 this
      have e : insAt (x :: r) 0 s = s :: x :: r := rfl
      rw [e]
      refine List.pairwise_cons.2 ⟨fun y hy => ?_, h⟩
      rcases List.mem_cons.1 hy with c | c
      · rw [c]; exact hsx
      · exact List.le_trans hsx (h1 y c)
def insL (d : List Dr) : Nat → List ByteArray
  | 0 => []
  | k + 1 => insAt (insL d k) (pos (insL d k) (dn d k)) (dn d k)
theorem insL_len (d : List Dr) : ∀ k, (insL d k).length = k
  | 0 => rfl
  | k + 1 => by rw [insL, insAt_len, insL_len d k]
theorem insL_up (d : List Dr) : ∀ k, (insL d k).Pairwise leS
  | 0 => by simp [insL]
  | k + 1 => insAt_up _ _ (insL_up d k)
theorem insL_perm (d : List Dr) : ∀ k, k ≤ d.length → (insL d k).Perm ((nmD d).take k)
  | 0, _ => by simp [insL]
  | k + 1, h => by
    have hk : k < d.length := by omega
    have e : (nmD d).take (k + 1) = (nmD d).take k ++ [dn d k] := by
      rw [List.take_succ_eq_append_getElem (by unfold nmD; simpa using hk)]
      congr 1
      rw [dn_at hk]
      unfold nmD
      simp
    rw [insL, e]
    exact ((insAt_perm _ _ _).trans ((insL_perm d k (by omega)).cons _)).trans (List.perm_append_singleton _ _).symm
theorem srt_up (a : List ByteArray) : (srt a).Pairwise leS := by
  unfold srt bsL
  rw [List.pairwise_map]
  have : (srtL (lsB a)).Pairwise fun x y => decide (x ≤ y) = true := List.pairwise_mergeSort (fun a b c h1 h2 => by simp at *; exact List.le_trans h1 h2) (fun a b => by simpa using List.le_total a b) _
  refine this.imp (fun {x y} h => ?_)
  unfold leS
  simpa using h
theorem srt_self (a : List ByteArray) : (srt a).Perm a := by
  unfold srt
  have h1 : (srtL (lsB a)).Perm (lsB a) := List.mergeSort_perm _ _
  have h2 := h1.map (fun b : List UInt8 => (⟨b.toArray⟩ : ByteArray))
  have h3 : (lsB a).map (fun b : List UInt8 => (⟨b.toArray⟩ : ByteArray)) = a := by
    unfold lsB
    rw [List.map_map]
    conv => rhs; rw [← List.map_id a]
    apply List.map_congr_left
    intro s hs
    simp
  rw [h3] at h2
  exact h2
theorem insL_srt (d : List Dr) : insL d d.length = srt (nmD d) := by
  refine List.Perm.eq_of_pairwise (le := leS) (fun x y _ _ h1 h2 => bytes_ext (List.le_antisymm h1 h2)) (insL_up d _) (srt_up _) ?_
  have := insL_perm d d.length (Nat.le_refl _)
  rw [List.take_of_length_le (by unfold nmD; simp)] at this
  exact this.trans (srt_self _).symm
/-- The list while it is shifted: above place j each name has gone up by one. -/
def shf (o : List ByteArray) (j : Nat) : List ByteArray := (List.range (o.length + 1)).map fun p => if p ≤ j then nmS o p else nmS o (p - 1)
theorem shf_len (o : List ByteArray) (j : Nat) : (shf o j).length = o.length + 1 := by unfold shf; simp
theorem shf_get (o : List ByteArray) (j p : Nat) (h : p ≤ o.length) : (shf o j)[p]? = some (if p ≤ j then nmS o p else nmS o (p - 1)) := by
  unfold shf
  rw [List.getElem?_map, List.getElem?_range (by omega)]
  rfl
theorem shf_start (o : List ByteArray) : shf o o.length = o ++ [ByteArray.empty] := by
  apply List.ext_getElem?
  intro i
  by_cases hi : i ≤ o.length
  · rw [shf_get o _ i hi, if_pos hi, List.getElem?_append]
    unfold nmS
    split
    · rename_i c; rw [List.getD_eq_getElem?_getD, List.getElem?_eq_getElem c]; rfl
    · rename_i c
      obtain rfl : i = o.length := by omega
      rw [List.getD_eq_getElem?_getD, List.getElem?_eq_none (Nat.le_refl _)]
      simp
  · rw [List.getElem?_eq_none (by rw [shf_len]; omega), List.getElem?_eq_none (by simp; omega)]
theorem shf_step (o : List ByteArray) (j : Nat) (h : j + 1 ≤ o.length) : (shf o (j + 1)).set (j + 1) (nmS o j) = shf o j := by
  apply List.ext_getElem?
  intro i
  rw [List.getElem?_set]
  by_cases hi : i ≤ o.length
  · rw [shf_get o (j + 1) i hi, shf_get o j i hi, shf_len]
    by_cases c : j + 1 = i
    · subst c
      rw [if_pos rfl, if_pos (by omega), if_neg (by omega)]
      simp
    · rw [if_neg c]
      by_cases c2 : i ≤ j
      · rw [if_pos (by omega), if_pos c2]
      · rw [if_neg (by omega), if_neg c2]
  · rw [if_neg (by omega), List.getElem?_eq_none (by rw [shf_len]; omega), List.getElem?_eq_none (by rw [shf_len]; omega)]
theorem shf_end (o : List ByteArray) (p : Nat) (s : ByteArray) (h : p ≤ o.length) : (shf o p).set p s = insAt o p s := by
  apply List.ext_getElem?
  intro i
  unfold insAt
  rw [List.getElem?_set, List.getElem?_append, List.length_take, Nat.min_eq_left h]
  by_cases hi : i ≤ o.length
  · rw [shf_get o p i hi, shf_len]
    by_cases c : p = i
    · subst c
      rw [if_pos rfl, if_pos (by omega), if_neg (by omega), Nat.sub_self]
      rfl
    · rw [if_neg c]
      by_cases c2 : i < p
      · rw [if_pos (by omega), if_pos c2, List.getElem?_take, if_pos c2]
        unfold nmS
        rw [List.getD_eq_getElem?_getD, List.getElem?_eq_getElem (by omega)]
        rfl
      · rw [if_neg (by omega), if_neg c2]
        obtain ⟨q, hq⟩ : ∃ q, i = p + q + 1 := ⟨i - p - 1, by omega⟩
        subst hq
        rw [show p + q + 1 - p = q + 1 by omega, List.getElem?_cons_succ, List.getElem?_drop]
        unfold nmS
        rw [List.getD_eq_getElem?_getD, show p + q + 1 - 1 = p + q by omega, List.getElem?_eq_getElem (by omega)]
        rfl
  · rw [if_neg (by omega), List.getElem?_eq_none (by rw [shf_len]; omega), if_neg (by omega), List.getElem?_eq_none]
    rw [List.length_cons, List.length_drop]
    omega
end Go.Proofs.YtfkijmmflpnncaaDoor.L
