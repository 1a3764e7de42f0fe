import Derived.Test.YtfbagkajbnomoaaQb
namespace Go.Proofs.Ytfbagkajbnomoaa.Qu
set_option linter.unusedVariables false
set_option linter.unusedSimpArgs false
/-- The new one's place is told by its two marks. -/
theorem ins_at {x : Wt} : ∀ {l : List Wt} {k : Nat} (hk : k ≤ l.length), (∀ (j : Nat) (h : j < k), ahd (l[j]'(Nat.lt_of_lt_of_le h hk)) x) → (∀ h : k < l.length, ¬ ahd (l[k]) x) → ins x l = l.take k ++ x :: l.drop k
  | [], k, hk, _, _ => by
    obtain rfl : k = 0 := Nat.le_zero.1 hk
    rfl
  | y :: r, 0, hk, _, h2 => by
    unfold ins
    rw [if_neg (show ¬ ahd y x from h2 (by rw [List.length_cons]; omega))]
    rfl
  | y :: r, k + 1, hk, h1, h2 => by
    have hy : ahd y x := h1 0 (by omega)
    have ih := ins_at (x := x) (l := r) (k := k) (by rw [List.length_cons] at hk; omega) (fun j h => h1 (j + 1) (by omega)) (fun h => h2 (by rw [List.length_cons]; omega))
    unfold ins
    rw [if_pos hy, ih]
    rfl
/-- In a sorted list what stands ahead stands in front: the marks are there. -/
theorem ins_front {x : Wt} {l : List Wt} (h : l.Pairwise ahd) {j k : Nat} (hj : j < k) (hk : k < l.length) (ha : ahd l[k] x) : ahd (l[j]'(Nat.lt_trans hj hk)) x :=
  ahd_trans (List.pairwise_iff_getElem.1 h j k (Nat.lt_trans hj hk) hk hj) ha
/-- Is it ready? -/
def rdyB (now : Int) (x : Wt) : Bool := !x.asl && decide (x.til ≤ now)
/-- The first that is ready. -/
def rdy (l : List Wt) (now : Int) : Option Wt := if 0 ≤ now ∧ now ≤ 1099511627776 then l.find? (rdyB now) else none
theorem rdy_at {l : List Wt} {now : Int} {k : Nat} (h0 : 0 ≤ now) (h1 : now ≤ 1099511627776) (hk : k < l.length) (h2 : rdyB now l[k] = true) (h3 : ∀ (j : Nat) (h : j < k), rdyB now (l[j]'(Nat.lt_trans h hk)) = false) : rdy l now = some l[k] := by
  unfold rdy
  rw [if_pos ⟨h0, h1⟩]
  refine List.find?_eq_some_iff_getElem.2 ⟨h2, k, hk, rfl, fun j hj => ?_⟩
  rw [h3 j hj]
  rfl
theorem rdy_none {l : List Wt} {now : Int} (h : ∀ (j : Nat) (h : j < l.length), rdyB now l[j] = false) : rdy l now = none := by
  unfold rdy
  split
  · refine List.find?_eq_none.2 (fun x hx => ?_)
    obtain ⟨i, hi, rfl⟩ := List.getElem_of_mem hx
    rw [h i hi]
    decide
  · rfl
theorem rdy_out {l : List Wt} {now : Int} (h : now < 0 ∨ 1099511627776 < now) : rdy l now = none := by
  unfold rdy
  rw [if_neg (by omega)]
/-- The wait, doubled step by step. -/
theorem wts_loop (t : Int) (i w : Nat) (hi : 1 ≤ i) (hw : w = 2 ^ (i - 1)) (hle : w ≤ 64) (hend : ¬ ((i : Int) < t ∧ w < 64)) (hmin : (i : Int) ≤ t ∨ i = 1) : (w : Int) = wts t := by
  unfold wts
  have hi7 : i ≤ 7 := by
    apply Classical.byContradiction
    intro hn
    have : 2 ^ 7 ≤ 2 ^ (i - 1) := Nat.pow_le_pow_right (by decide) (by omega)
    rw [← hw] at this
    omega
  have hc : i = 1 ∨ i = 2 ∨ i = 3 ∨ i = 4 ∨ i = 5 ∨ i = 6 ∨ i = 7 := by omega
  rcases hc with rfl | rfl | rfl | rfl | rfl | rfl | rfl
  · subst hw
    rw [if_pos (by have := hend; simp at this; omega)]
    rfl
  all_goals
    subst hw
    simp at hend hmin
    rw [if_neg (by omega)]
  · rw [if_neg (by omega), show t = 2 by omega]; rfl
  · rw [if_neg (by omega), show t = 3 by omega]; rfl
  · rw [if_neg (by omega), show t = 4 by omega]; rfl
  · rw [if_neg (by omega), show t = 5 by omega]; rfl
  · rw [if_neg (by omega), show t = 6 by omega]; rfl
  · rw [if_pos (by omega)]; rfl
end Go.Proofs.Ytfbagkajbnomoaa.Qu
