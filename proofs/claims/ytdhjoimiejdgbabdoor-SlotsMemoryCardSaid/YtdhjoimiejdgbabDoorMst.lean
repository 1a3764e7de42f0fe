import Derived.Test.YtdhjoimiejdgbabDoorMgP
namespace Go.Proofs.YtdhjoimiejdgbabDoor.L
open Go.RowKit Bs Go.Maps Go.Shelf
set_option linter.unusedVariables false
/-- The text that is written over the j-th of the k-th list. -/
def mk2 (k j : Nat) : ByteArray := ((⟨#[126]⟩ ++ tx (k : Int)) ++ ⟨#[126]⟩) ++ tx (j : Int)
def mks (k n : Nat) : List ByteArray := (List.range n).map (mk2 k)
theorem mks_len (k n : Nat) : (mks k n).length = n := by unfold mks; simp
/-- The first j written over. -/
def mix (k j : Nat) (t : List ByteArray) : List ByteArray := (mks k t.length).take j ++ t.drop j
theorem mix_len (k j : Nat) (t : List ByteArray) (h : j ≤ t.length) : (mix k j t).length = t.length := by
  unfold mix
  rw [List.length_append, List.length_take, mks_len, List.length_drop]
  omega
theorem mix_zero (k : Nat) (t : List ByteArray) : mix k 0 t = t := by unfold mix; simp
theorem mix_all (k : Nat) (t : List ByteArray) : mix k t.length t = mks k t.length := by
  unfold mix
  rw [List.drop_length, List.append_nil, List.take_of_length_le (by rw [mks_len]; exact Nat.le_refl _)]
theorem mix_set (k j : Nat) (t : List ByteArray) (h : j < t.length) : (mix k j t).set j (mk2 k j) = mix k (j + 1) t := by
  unfold mix
  apply List.ext_getElem?
  intro i
  have l1 : ((mks k t.length).take j).length = j := by rw [List.length_take, mks_len]; omega
  have l2 : ((mks k t.length).take (j + 1)).length = j + 1 := by rw [List.length_take, mks_len]; omega
  rw [List.getElem?_set, List.length_append, l1, List.length_drop]
  by_cases e : j = i
  · subst e
    rw [if_pos rfl, if_pos (by omega), List.getElem?_append_left (by rw [l2]; omega), List.getElem?_take_of_lt (by omega)]
    unfold mks
    rw [List.getElem?_map, List.getElem?_range h]
    rfl
  · rw [if_neg e]
    by_cases hlt : i < j
    · rw [List.getElem?_append_left (by rw [l1]; exact hlt), List.getElem?_append_left (by rw [l2]; omega), List.getElem?_take_of_lt hlt, List.getElem?_take_of_lt (by omega)]
    · rw [List.getElem?_append_right (by rw [l1]; omega), List.getElem?_append_right (by rw [l2]; omega), l1, l2, List.getElem?_drop, List.getElem?_drop]
      congr 1
      omega
theorem Fm.set {W : World} {M n k g j N cap : Nat} {r : Nat → Value} {x : Nat → List ByteArray} (h : Fm W M n r x) (hk : k < n) (hr : r k = .slice (some ⟨g, 0, none⟩) N cap) (s : ByteArray) : Fm (W.setCell ⟨g, j, none⟩ (.string s)) M n r (upN x k ((x k).set j s)) := by
  refine ⟨fun q hq => ?_, h.ap⟩
  by_cases e : q = k
  · subst e
    rw [upN_same]
    have ho := h.own q hq
    obtain ⟨a, c, e1⟩ := own_len ho
    rw [hr] at e1
    injection e1 with e1 e2 e3
    subst e1 e3
    unfold OwnS at ho ⊢
    rw [hr, e2] at ho
    rw [hr, List.length_set, e2, List.map_set]
    exact own_set ho j (.string s)
  · rw [upN_other _ _ e]
    exact ownsRow_setCell_other (h.own q hq) (h.ap k q hk hq (fun c => e c.symm) g (by rw [hr]; rfl)) _
/-- What the lists hold when n of them are written over. -/
def xsN (T : List ByteArray) (n : Nat) : Nat → List ByteArray := fun k => if 0 < k ∧ k ≤ n then mks (k - 1) T.length else T
theorem xsN_zero (T : List ByteArray) : xsN T 0 = fun _ => T := funext fun k => by
  unfold xsN
  rw [if_neg (by omega)]
theorem xsN_at (T : List ByteArray) (n : Nat) : xsN T n (n + 1) = T := by
  unfold xsN
  rw [if_neg (by omega)]
theorem xsN_succ (T : List ByteArray) (n : Nat) : upN (xsN T n) (n + 1) (mks n T.length) = xsN T (n + 1) := funext fun k => by
  unfold upN xsN
  by_cases e : k = n + 1
  · subst e
    rw [if_pos rfl, if_pos (by omega)]
    simp
  · rw [if_neg e]
    by_cases h : 0 < k ∧ k ≤ n
    · rw [if_pos h, if_pos (by omega)]
    · rw [if_neg h, if_neg (by omega)]
end Go.Proofs.YtdhjoimiejdgbabDoor.L
