import Derived.Test.YtodamoblnlcodaaDoorNam
namespace Go.Proofs.YtodamoblnlcodaaDoor.L
set_option linter.unusedVariables false
/-- A text cut at each byte c. -/
def cutL (c : UInt8) : List UInt8 → List (List UInt8)
  | [] => [[]]
  | b :: l => if b = c then [] :: cutL c l else match cutL c l with
    | [] => [[b]]
    | p :: r => (b :: p) :: r
theorem cut_ne (c : UInt8) (l : List UInt8) : cutL c l ≠ [] := by
  cases l with
  | nil => simp [cutL]
  | cons b l =>
    unfold cutL
    split
    · simp
    · split <;> simp
theorem cut_app (c : UInt8) (a b : List UInt8) : cutL c (a ++ c :: b) = cutL c a ++ cutL c b := by
  induction a with
  | nil => simp [cutL]
  | cons x a ih =>
    simp only [List.cons_append, cutL]
    split
    · rw [ih]; rfl
    · rw [ih]
      cases e : cutL c a with
      | nil => exact absurd e (cut_ne c a)
      | cons p r => rfl
theorem cut_none (c : UInt8) (a : List UInt8) (h : c ∉ a) : cutL c a = [a] := by
  induction a with
  | nil => rfl
  | cons x a ih =>
    simp only [cutL]
    rw [if_neg (fun e => h (by simp [e])), ih (fun e => h (by simp [e]))]
def joinL (c : UInt8) : List (List UInt8) → List UInt8
  | [] => []
  | [x] => x
  | x :: y :: r => x ++ c :: joinL c (y :: r)
theorem join_cons (c : UInt8) (x : List UInt8) (r : List (List UInt8)) (h : r ≠ []) : joinL c (x :: r) = x ++ c :: joinL c r := by
  cases r with
  | nil => exact absurd rfl h
  | cons y r => rfl
theorem cut_join (c : UInt8) (l : List UInt8) : joinL c (cutL c l) = l := by
  induction l with
  | nil => rfl
  | cons b l ih =>
    unfold cutL
    split
    · rename_i e
      rw [join_cons c _ _ (cut_ne c l), ih, e]
      rfl
    · cases e : cutL c l with
      | nil => exact absurd e (cut_ne c l)
      | cons p r =>
        rw [e] at ih
        simp only
        cases r with
        | nil =>
          have : p = l := ih
          rw [this]
          rfl
        | cons q r =>
          rw [join_cons c _ _ (by simp)] at ih ⊢
          rw [← ih]
          rfl
theorem idx_none {l : List UInt8} {c : UInt8} (h : Lib.indexByte l c = -1) : c ∉ l := by
  induction l with
  | nil => simp
  | cons b l ih =>
    unfold Lib.indexByte at h
    split at h
    · cases h
    · rename_i e
      split at h
      · rename_i e2
        have := ih (by simpa using e2)
        simp
        exact ⟨fun e3 => e (by simp [e3]), this⟩
      · have := Lib.indexByte_ge l c
        rename_i e2
        have e3 : Lib.indexByte l c ≠ -1 := by simpa using e2
        omega
theorem idx_some {l : List UInt8} {c : UInt8} {i : Nat} (h : Lib.indexByte l c = i) : l = l.take i ++ c :: l.drop (i + 1) ∧ c ∉ l.take i := by
  induction l generalizing i with
  | nil => simp [Lib.indexByte] at h
  | cons b l ih =>
    unfold Lib.indexByte at h
    split at h
    · rename_i e
      obtain rfl : i = 0 := by omega
      simp at e
      simp [e]
    · rename_i e
      split at h
      · omega
      · obtain ⟨j, rfl⟩ : ∃ j, i = j + 1 := ⟨i - 1, by
          have := Lib.indexByte_ge l c
          rename_i e2
          have e3 : Lib.indexByte l c ≠ -1 := by simpa using e2
          omega⟩
        obtain ⟨h1, h2⟩ := ih (show Lib.indexByte l c = j by omega)
        refine ⟨?_, ?_⟩
        · simp
          exact h1
        · simp
          exact ⟨fun e3 => e (by simp [e3]), h2⟩
theorem idx_at {a b : List UInt8} {c : UInt8} (h : c ∉ a) : Lib.indexByte (a ++ c :: b) c = a.length := by
  induction a with
  | nil => simp [Lib.indexByte]
  | cons x a ih =>
    have ih' := ih (fun e => h (by simp [e]))
    simp only [List.cons_append]
    unfold Lib.indexByte
    rw [if_neg (by simp; exact fun e => h (by simp [e])), ih', if_neg (by simp)]
    simp
theorem split_cut (c : UInt8) : ∀ (n : Nat) (s : List UInt8), s.count c = n → Lib.splitK [c] 0 n s = cutL c s := by
  intro n
  induction n with
  | zero =>
    intro s h
    rw [cut_none c s (List.count_eq_zero.1 h)]
    rfl
  | succ n ih =>
    intro s h
    unfold Lib.splitK
    rw [Lib.index_one]
    by_cases e : Lib.indexByte s c = -1
    · have := List.count_eq_zero.2 (idx_none e)
      omega
    · obtain ⟨i, hi⟩ : ∃ i : Nat, Lib.indexByte s c = i := ⟨(Lib.indexByte s c).toNat, by have := Lib.indexByte_ge s c; omega⟩
      rw [if_neg (by simpa using e), hi]
      obtain ⟨h1, h2⟩ := idx_some hi
      have hc : (s.drop (i + 1)).count c = n := by
        rw [h1, List.count_append, List.count_cons_self, List.count_eq_zero.2 h2] at h
        omega
      have := ih _ hc
      simp only [Int.toNat_natCast, Nat.add_zero, List.length_singleton]
      rw [this]
      conv => rhs; rw [h1]
      rw [cut_app, cut_none c _ h2]
      rfl
/-- The pieces are the cut. -/
theorem pieces_cut (s : ByteArray) (c : UInt8) : (pieces s c).map (·.data.toList) = cutL c s.data.toList := by
  unfold pieces
  rw [Lib.splitB_data]
  refine split_cut c _ _ ?_
  show _ = Lib.count s.data.toList [c]
  rw [Lib.count_one]
theorem bytes_mk (s : ByteArray) : (⟨s.data.toList.toArray⟩ : ByteArray) = s := by
  cases s
  simp
end Go.Proofs.YtodamoblnlcodaaDoor.L
