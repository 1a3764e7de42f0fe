import Derived.Test.YtfkijmmflpnncaaDoorPln
namespace Go.Proofs.YtfkijmmflpnncaaDoor.L
open Bs
set_option linter.unusedVariables false
section
variable {α : Type}
/-- The name in a slot; the empty one where no row is. -/
def nm (l : List (ByteArray × α)) (i : Nat) : ByteArray := (l[i]?.map (·.1)).getD ByteArray.empty
/-- Does a name stand in the slot? -/
def isT (l : List (ByteArray × α)) (i : Nat) : Bool := decide ((nm l i).size ≠ 0)
theorem size_empty {s : ByteArray} (h : s.size = 0) : s = ByteArray.empty := by
  cases s with | mk d =>
  have : d.size = 0 := h
  have e : d = #[] := Array.eq_empty_of_size_eq_zero this
  subst e; rfl
theorem isT_iff {l : List (ByteArray × α)} {i : Nat} : isT l i = true ↔ (nm l i).size ≠ 0 := by unfold isT; simp
theorem isT_no {l : List (ByteArray × α)} {i : Nat} : isT l i = false ↔ nm l i = ByteArray.empty := by
  unfold isT
  constructor
  · intro h
    exact size_empty (by simpa using h)
  · intro h; rw [h]; rfl
theorem nm_at {l : List (ByteArray × α)} {i : Nat} (h : i < l.length) : nm l i = (l[i]).1 := by unfold nm; rw [List.getElem?_eq_getElem h]; rfl
theorem nm_out {l : List (ByteArray × α)} {i : Nat} (h : l.length ≤ i) : nm l i = ByteArray.empty := by unfold nm; rw [List.getElem?_eq_none h]; rfl
theorem isT_out {l : List (ByteArray × α)} {i : Nat} (h : l.length ≤ i) : isT l i = false := isT_no.2 (nm_out h)
theorem isT_lt {l : List (ByteArray × α)} {i : Nat} (h : isT l i = true) : i < l.length := by
  apply Classical.byContradiction; intro c
  rw [isT_out (by omega)] at h; cases h
theorem nm_cons_zero (x : ByteArray × α) (l : List (ByteArray × α)) : nm (x :: l) 0 = x.1 := rfl
theorem nm_cons_succ (x : ByteArray × α) (l : List (ByteArray × α)) (i : Nat) : nm (x :: l) (i + 1) = nm l i := by simp [nm]
theorem isT_cons_succ (x : ByteArray × α) (l : List (ByteArray × α)) (i : Nat) : isT (x :: l) (i + 1) = isT l i := by unfold isT; rw [nm_cons_succ]
/-- The lowest free slot. -/
def low : List (ByteArray × α) → Nat
  | [] => 0
  | x :: r => if x.1.size = 0 then 0 else low r + 1
theorem low_le : ∀ l : List (ByteArray × α), low l ≤ l.length
  | [] => Nat.le_refl _
  | x :: r => by
    unfold low
    split
    · omega
    · have := low_le r; simp; omega
theorem low_free : ∀ l : List (ByteArray × α), isT l (low l) = false
  | [] => rfl
  | x :: r => by
    unfold low
    split
    · rename_i h; exact isT_no.2 (by rw [nm_cons_zero]; exact size_empty h)
    · rw [isT_cons_succ]; exact low_free r
theorem low_taken : ∀ (l : List (ByteArray × α)) (j : Nat), j < low l → isT l j = true
  | [], j, h => by simp [low] at h
  | x :: r, j, h => by
    unfold low at h
    split at h
    · omega
    · rename_i hx
      cases j with
      | zero => exact isT_iff.2 (by rw [nm_cons_zero]; exact hx)
      | succ j => rw [isT_cons_succ]; exact low_taken r j (by omega)
theorem low_one {l : List (ByteArray × α)} {k : Nat} (h1 : isT l k = false) (h2 : ∀ j, j < k → isT l j = true) : low l = k := by
  rcases Nat.lt_trichotomy (low l) k with c | c | c
  · have := h2 _ c; rw [low_free] at this; cases this
  · exact c
  · rw [low_taken l k c] at h1; cases h1
/-- How many names there are. -/
def cnt : List (ByteArray × α) → Nat
  | [] => 0
  | x :: r => (if x.1.size = 0 then 0 else 1) + cnt r
theorem low_cnt : ∀ l : List (ByteArray × α), low l ≤ cnt l
  | [] => Nat.le_refl _
  | x :: r => by
    unfold low cnt
    have := low_cnt r
    split <;> omega
theorem cnt_le : ∀ l : List (ByteArray × α), cnt l ≤ l.length
  | [] => Nat.le_refl _
  | x :: r => by
    unfold cnt
    have := cnt_le r
    split <;> simp <;> omega
theorem cnt_app : ∀ l c : List (ByteArray × α), cnt (l ++ c) = cnt l + cnt c
  | [], c => by simp [cnt]
  | x :: r, c => by rw [List.cons_append, cnt, cnt, cnt_app r c]; omega
theorem cnt_set : ∀ (l : List (ByteArray × α)) (i : Nat) (x : ByteArray × α), i < l.length → cnt (l.set i x) + (if isT l i then 1 else 0) = cnt l + (if x.1.size = 0 then 0 else 1)
  | [], i, x, h => by simp at h
  | y :: r, 0, x, h => by
    have e : isT (y :: r) 0 = decide (y.1.size ≠ 0) := rfl
    simp only [List.set_cons_zero, cnt, e, decide_eq_true_eq]
    by_cases hy : y.1.size = 0 <;> simp [hy] <;> omega
  | y :: r, i + 1, x, h => by
    have := cnt_set r i x (by simpa using h)
    simp only [List.set_cons_succ, cnt, isT_cons_succ]
    omega
/-- A row is written, or appended. -/
def wrt (l : List (ByteArray × α)) (i : Nat) (x : ByteArray × α) : List (ByteArray × α) := if i < l.length then l.set i x else l ++ [x]
theorem nm_set (l : List (ByteArray × α)) (i : Nat) (x : ByteArray × α) (h : i < l.length) (j : Nat) : nm (l.set i x) j = if j = i then x.1 else nm l j := by
  unfold nm
  rw [List.getElem?_set]
  by_cases e : i = j
  · subst e; simp [h]
  · rw [if_neg e, if_neg (fun c => e c.symm)]
theorem nm_app (l : List (ByteArray × α)) (x : ByteArray × α) (j : Nat) : nm (l ++ [x]) j = if j = l.length then x.1 else nm l j := by
  unfold nm
  by_cases e : j < l.length
  · rw [List.getElem?_append_left e, if_neg (by omega)]
  · by_cases e2 : j = l.length
    · subst e2; simp
    · rw [if_neg e2, List.getElem?_eq_none (by simp; omega), List.getElem?_eq_none (by omega)]
theorem nm_wrt (l : List (ByteArray × α)) (i : Nat) (x : ByteArray × α) (h : i ≤ l.length) (j : Nat) : nm (wrt l i x) j = if j = i then x.1 else nm l j := by
  unfold wrt
  split
  · rename_i hi; exact nm_set l i x hi j
  · rw [nm_app, show l.length = i by omega]
theorem len_wrt (l : List (ByteArray × α)) (i : Nat) (x : ByteArray × α) : (wrt l i x).length = if i < l.length then l.length else l.length + 1 := by
  unfold wrt; split <;> simp
theorem cnt_wrt (l : List (ByteArray × α)) (i : Nat) (x : ByteArray × α) (h : i ≤ l.length) (hf : isT l i = false) (hx : x.1.size ≠ 0) : cnt (wrt l i x) = cnt l + 1 := by
  unfold wrt
  split
  · rename_i hi
    have := cnt_set l i x hi
    rw [hf, if_neg hx] at this
    simpa using this
  · rw [cnt_app]; simp [cnt, hx]
theorem get_wrt (l : List (ByteArray × α)) (i : Nat) (x : ByteArray × α) (h : i ≤ l.length) (j : Nat) : (wrt l i x)[j]? = if j = i then some x else l[j]? := by
  unfold wrt
  split
  · rename_i hi
    rw [List.getElem?_set]
    by_cases e : i = j
    · subst e; simp [hi]
    · rw [if_neg e, if_neg (fun c => e c.symm)]
  · by_cases e : j < l.length
    · rw [List.getElem?_append_left e, if_neg (by omega)]
    · by_cases e2 : j = i
      · subst e2; rw [if_pos rfl, List.getElem?_append_right (by omega)]; simp [show j = l.length by omega]
      · rw [if_neg e2, List.getElem?_eq_none (by simp; omega), List.getElem?_eq_none (by omega)]
/-- How many rows are left where the free ones at the end go. -/
def tl : List (ByteArray × α) → Nat
  | [] => 0
  | x :: r => if tl r = 0 then (if x.1.size = 0 then 0 else 1) else tl r + 1
theorem tl_le : ∀ l : List (ByteArray × α), tl l ≤ l.length
  | [] => Nat.le_refl _
  | x :: r => by
    unfold tl
    have := tl_le r
    simp only [List.length_cons]
    split
    · split <;> omega
    · omega
theorem tl_one : ∀ (l : List (ByteArray × α)) (n : Nat), n ≤ l.length → (∀ j, n ≤ j → isT l j = false) → (n = 0 ∨ isT l (n - 1) = true) → tl l = n
  | [], n, h, _, _ => by simp at h; subst h; rfl
  | x :: r, 0, _, h2, _ => by
    have : tl r = 0 := tl_one r 0 (Nat.zero_le _) (fun j _ => by rw [← isT_cons_succ x]; exact h2 _ (Nat.zero_le _)) (Or.inl rfl)
    unfold tl
    rw [this, if_pos rfl, if_pos]
    have := isT_no.1 (h2 0 (Nat.le_refl _))
    rw [nm_cons_zero] at this
    rw [this]; rfl
  | x :: r, 1, _, h2, h3 => by
    have : tl r = 0 := tl_one r 0 (Nat.zero_le _) (fun j _ => by rw [← isT_cons_succ x]; exact h2 _ (by omega)) (Or.inl rfl)
    unfold tl
    rw [this, if_pos rfl, if_neg]
    rcases h3 with h | h
    · cases h
    · have := isT_iff.1 h
      rw [nm_cons_zero] at this
      exact this
  | x :: r, n + 2, h1, h2, h3 => by
    have : tl r = n + 1 := tl_one r (n + 1) (by simpa using h1) (fun j hj => by rw [← isT_cons_succ x]; exact h2 _ (by omega)) (Or.inr (by
      rcases h3 with h | h
      · cases h
      · rw [show n + 2 - 1 = n + 1 by omega, isT_cons_succ] at h
        exact h))
    unfold tl
    rw [this, if_neg (by omega)]
theorem tl_free : ∀ (l : List (ByteArray × α)) (j : Nat), tl l ≤ j → isT l j = false
  | [], j, _ => isT_out (by simp)
  | x :: r, 0, h => by
    unfold tl at h
    by_cases hr : tl r = 0
    · rw [if_pos hr] at h
      by_cases hx : x.1.size = 0
      · exact isT_no.2 (by rw [nm_cons_zero]; exact size_empty hx)
      · rw [if_neg hx] at h; omega
    · rw [if_neg hr] at h; omega
  | x :: r, j + 1, h => by
    rw [isT_cons_succ]
    refine tl_free r j ?_
    unfold tl at h
    split at h <;> omega
theorem tl_last : ∀ (l : List (ByteArray × α)), tl l = 0 ∨ isT l (tl l - 1) = true
  | [] => Or.inl rfl
  | x :: r => by
    unfold tl
    by_cases hr : tl r = 0
    · rw [if_pos hr]
      by_cases hx : x.1.size = 0
      · rw [if_pos hx]; exact Or.inl rfl
      · rw [if_neg hx]; exact Or.inr (isT_iff.2 (by rw [nm_cons_zero]; exact hx))
    · rw [if_neg hr]
      rcases tl_last r with h | h
      · exact absurd h hr
      · right
        rw [show tl r + 1 - 1 = (tl r - 1) + 1 by omega, isT_cons_succ]
        exact h
/-- The free rows at the end are cut off. -/
def trim (l : List (ByteArray × α)) : List (ByteArray × α) := l.take (tl l)
theorem nm_take (l : List (ByteArray × α)) (n j : Nat) : nm (l.take n) j = if j < n then nm l j else ByteArray.empty := by
  unfold nm
  rw [List.getElem?_take]
  split <;> rfl
theorem nm_trim (l : List (ByteArray × α)) (j : Nat) : nm (trim l) j = nm l j := by
  unfold trim
  rw [nm_take]
  split
  · rfl
  · exact (isT_no.1 (tl_free l j (by omega))).symm
theorem isT_trim (l : List (ByteArray × α)) (j : Nat) : isT (trim l) j = isT l j := by unfold isT; rw [nm_trim]
theorem len_trim (l : List (ByteArray × α)) : (trim l).length = tl l := by unfold trim; rw [List.length_take]; have := tl_le l; omega
theorem tl_trim (l : List (ByteArray × α)) : tl (trim l) = (trim l).length := by
  rw [len_trim]
  refine tl_one (trim l) (tl l) (by rw [len_trim]; exact Nat.le_refl _) (fun j hj => by rw [isT_trim]; exact tl_free l j hj) ?_
  rcases tl_last l with h | h
  · exact Or.inl h
  · exact Or.inr (by rw [isT_trim]; exact h)
theorem cnt_free : ∀ (l : List (ByteArray × α)), (∀ j, isT l j = false) → cnt l = 0
  | [], _ => rfl
  | x :: r, h => by
    have h0 := isT_no.1 (h 0)
    rw [nm_cons_zero] at h0
    have := cnt_free r (fun j => by rw [← isT_cons_succ x]; exact h _)
    unfold cnt
    rw [h0, this]; rfl
theorem cnt_trim (l : List (ByteArray × α)) : cnt (trim l) = cnt l := by
  have e : cnt l = cnt (l.take (tl l)) + cnt (l.drop (tl l)) := by rw [← cnt_app, List.take_append_drop]
  have f : cnt (l.drop (tl l)) = 0 := cnt_free _ (fun j => by
    have : nm (l.drop (tl l)) j = nm l (tl l + j) := by unfold nm; rw [List.getElem?_drop]
    have h := tl_free l (tl l + j) (by omega)
    unfold isT at h ⊢
    rw [this]; exact h)
  unfold trim
  omega
theorem get_trim (l : List (ByteArray × α)) (j : Nat) (h : isT l j = true) : (trim l)[j]? = l[j]? := by
  have : j < tl l := by
    apply Classical.byContradiction; intro c
    rw [tl_free l j (by omega)] at h; cases h
  unfold trim
  rw [List.getElem?_take, if_pos this]
/-- What a table holds. -/
structure OkS (m : Nat) (l : List (ByteArray × α)) : Prop where
  mm : m ≤ 65536
  sz : ∀ i, (nm l i).size ≤ 63
  ap : ∀ i j, isT l i = true → nm l i = nm l j → i = j
  tr : tl l = l.length
  ct : cnt l ≤ m
  le : l.length ≤ m
theorem OkS.last {m : Nat} {l : List (ByteArray × α)} (h : OkS m l) : l.length = 0 ∨ isT l (l.length - 1) = true := by
  have := tl_last l
  rw [h.tr] at this
  exact this
theorem OkS.nil {m : Nat} (h : m ≤ 65536) : OkS (α := α) m [] := ⟨h, fun i => by simp [nm], fun i j hi => by simp [isT, nm] at hi, rfl, Nat.zero_le _, Nat.zero_le _⟩
theorem OkS.put {m : Nat} {l : List (ByteArray × α)} (h : OkS m l) {s : ByteArray} {v : α} (h1 : s.size ≠ 0) (h2 : s.size ≤ 63) (h3 : ∀ i, isT l i = true → nm l i ≠ s) (h4 : cnt l < m) : OkS m (wrt l (low l) (s, v)) := by
  have hl := low_le l
  have hf := low_free l
  have hc := low_cnt l
  have nmw := nm_wrt l (low l) (s, v) hl
  have hct := cnt_wrt l (low l) (s, v) hl hf h1
  have hlen := len_wrt l (low l) (s, v)
  refine ⟨h.mm, fun i => ?_, fun i j hi hij => ?_, ?_, by rw [hct]; omega, ?_⟩
  · rw [nmw]; split
    · exact h2
    · exact h.sz i
  · have hi' := isT_iff.1 hi
    rw [nmw, nmw] at hij
    rw [nmw] at hi'
    by_cases c1 : i = low l
    · by_cases c2 : j = low l
      · omega
      · rw [if_pos c1, if_neg c2] at hij
        exact absurd hij.symm (h3 j (isT_iff.2 (by rw [← hij]; exact h1)))
    · rw [if_neg c1] at hij hi'
      by_cases c2 : j = low l
      · rw [if_pos c2] at hij
        exact absurd hij (h3 i (isT_iff.2 hi'))
      · rw [if_neg c2] at hij
        exact h.ap i j (isT_iff.2 hi') hij
  · refine tl_one _ _ (Nat.le_refl _) (fun j hj => isT_out hj) ?_
    right
    rw [isT_iff, nmw, hlen]
    by_cases c : low l < l.length
    · rw [if_pos c]
      split
      · exact h1
      · rcases h.last with e | e
        · omega
        · exact isT_iff.1 e
    · rw [if_neg c, if_pos (by omega)]
      exact h1
  · rw [hlen]; split
    · exact h.le
    · omega
theorem OkS.set {m : Nat} {l : List (ByteArray × α)} (h : OkS m l) {i : Nat} {v : α} (hi : isT l i = true) : OkS m (l.set i (nm l i, v)) := by
  have hl := isT_lt hi
  have e : ∀ j, nm (l.set i (nm l i, v)) j = nm l j := fun j => by
    rw [nm_set l i _ hl]; split
    · rename_i c; rw [c]
    · rfl
  have e2 : ∀ j, isT (l.set i (nm l i, v)) j = isT l j := fun j => by unfold isT; rw [e]
  refine ⟨h.mm, fun j => by rw [e]; exact h.sz j, fun j k hj hjk => h.ap j k (by rw [← e2]; exact hj) (by rw [← e, ← e k]; exact hjk), ?_, ?_, by simpa using h.le⟩
  · refine tl_one _ _ (Nat.le_refl _) (fun j hj => isT_out hj) ?_
    rw [e2, List.length_set]
    exact h.last
  · have := cnt_set l i (nm l i, v) hl
    rw [hi, if_neg (isT_iff.1 hi)] at this
    have := h.ct
    simp at *
    omega
theorem OkS.drop {m : Nat} {l : List (ByteArray × α)} (h : OkS m l) {i : Nat} {v : α} (hi : isT l i = true) : OkS m (trim (l.set i (ByteArray.empty, v))) := by
  have hl := isT_lt hi
  have e : ∀ j, nm (trim (l.set i (ByteArray.empty, v))) j = if j = i then ByteArray.empty else nm l j := fun j => by
    rw [nm_trim, nm_set l i _ hl]
  refine ⟨h.mm, fun j => by rw [e]; split; (· decide); exact h.sz j, fun j k hj hjk => ?_, tl_trim _, ?_, ?_⟩
  · have hj' := isT_iff.1 hj
    rw [e] at hj'
    rw [e, e] at hjk
    by_cases c : j = i
    · rw [if_pos c] at hj'; exact absurd rfl hj'
    · rw [if_neg c] at hj' hjk
      by_cases c2 : k = i
      · rw [if_pos c2] at hjk
        rw [hjk] at hj'; exact absurd rfl hj'
      · rw [if_neg c2] at hjk
        exact h.ap j k (isT_iff.2 hj') hjk
  · rw [cnt_trim]
    have := cnt_set l i (ByteArray.empty, v) hl
    rw [hi, if_pos rfl] at this
    have := h.ct
    simp at *
    omega
  · rw [len_trim]
    have := tl_le (l.set i (ByteArray.empty, v))
    rw [List.length_set] at this
    exact Nat.le_trans this h.le
theorem cnt_drop {l : List (ByteArray × α)} {i : Nat} {v : α} (hi : isT l i = true) : cnt (trim (l.set i (ByteArray.empty, v))) + 1 = cnt l := by
  have := cnt_set l i (ByteArray.empty, v) (isT_lt hi)
  rw [cnt_trim]
  rw [hi, if_pos rfl] at this
  simpa using this
theorem nm_drop {l : List (ByteArray × α)} {i : Nat} {v : α} (hi : isT l i = true) (j : Nat) : nm (trim (l.set i (ByteArray.empty, v))) j = if j = i then ByteArray.empty else nm l j := by
  rw [nm_trim, nm_set l i _ (isT_lt hi)]
end
end Go.Proofs.YtfkijmmflpnncaaDoor.L
