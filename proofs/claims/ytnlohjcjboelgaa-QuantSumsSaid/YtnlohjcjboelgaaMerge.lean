import Derived.Test.YtnlohjcjboelgaaSub
namespace Go.Proofs.Ytnlohjcjboelgaa.L
set_option linter.unusedVariables false
def Up (l : List It) : Prop := l.Pairwise fun x y => Op.bytesLess x.1.toList y.1.toList = true
def gL (z : Pr) : Pr := (z.1, z.2.1 + z.2.2, z.2.2)
def gR (z : Pr) : Pr := (z.1, z.2.1 + z.2.2, z.2.1)
theorem mrg_back_c (n : Nat) (l c : List It) (n' : Nat) (h : l.length + c.length ≤ n) (h' : (mrg n l c).length + c.length ≤ n') : mrg n' (sums (mrg n l c)) c = (mrg n l c).map gL := by
  induction n generalizing l c n' with
  | zero =>
    obtain rfl : l = [] := by cases l with | nil => rfl | cons _ _ => simp at h
    obtain rfl : c = [] := by cases c with | nil => rfl | cons _ _ => simp at h
    simp [mrg, sums, mrg_done]
  | succ n ih =>
    cases l with
    | nil => cases c with
      | nil => simp [mrg, sums, mrg_done]
      | cons y c =>
        simp only [mrg, List.length_cons] at h h' ⊢
        obtain ⟨k, rfl⟩ : ∃ k, n' = k + 1 := ⟨n' - 1, by omega⟩
        have := ih [] c k (by simp at h ⊢; omega) (by omega)
        simp only [sums, List.map_cons, mrg, less_irrefl] at this ⊢
        simp [gL, this]
    | cons x l => cases c with
      | nil =>
        simp only [mrg, List.length_cons, List.length_nil] at h h' ⊢
        obtain ⟨k, rfl⟩ : ∃ k, n' = k + 1 := ⟨n' - 1, by omega⟩
        have := ih l [] k (by simp; omega) (by simp; omega)
        simp only [sums, List.map_cons, mrg] at this ⊢
        simp [gL, this]
      | cons y c =>
        cases h1 : Op.bytesLess x.1.toList y.1.toList
        · cases h2 : Op.bytesLess y.1.toList x.1.toList
          · simp only [mrg, h1, h2, List.length_cons] at h h' ⊢
            simp at h'
            obtain ⟨k, rfl⟩ : ∃ k, n' = k + 1 := ⟨n' - 1, by omega⟩
            have := ih l c k (by omega) (by omega)
            simp [sums] at this
            simp [sums, mrg, h1, h2, gL, this]
          · simp only [mrg, h1, h2, List.length_cons] at h h' ⊢
            simp at h'
            obtain ⟨k, rfl⟩ : ∃ k, n' = k + 1 := ⟨n' - 1, by omega⟩
            have := ih (x :: l) c k (by simp; omega) (by omega)
            simp [sums] at this
            simp [sums, mrg, less_irrefl, gL, this]
        · simp only [mrg, h1, List.length_cons] at h h' ⊢
          simp at h'
          obtain ⟨k, rfl⟩ : ∃ k, n' = k + 1 := ⟨n' - 1, by omega⟩
          have := ih l (y :: c) k (by simp; omega) (by simp; omega)
          simp [sums] at this
          simp [sums, mrg, h1, gL, this]
theorem mrg_back_l (n : Nat) (l c : List It) (n' : Nat) (h : l.length + c.length ≤ n) (h' : (mrg n l c).length + l.length ≤ n') : mrg n' (sums (mrg n l c)) l = (mrg n l c).map gR := by
  induction n generalizing l c n' with
  | zero =>
    obtain rfl : l = [] := by cases l with | nil => rfl | cons _ _ => simp at h
    obtain rfl : c = [] := by cases c with | nil => rfl | cons _ _ => simp at h
    simp [mrg, sums, mrg_done]
  | succ n ih =>
    cases l with
    | nil => cases c with
      | nil => simp [mrg, sums, mrg_done]
      | cons y c =>
        simp only [mrg, List.length_cons, List.length_nil] at h h' ⊢
        obtain ⟨k, rfl⟩ : ∃ k, n' = k + 1 := ⟨n' - 1, by omega⟩
        have := ih [] c k (by simp at h ⊢; omega) (by simp; omega)
        simp only [sums, List.map_cons, mrg] at this ⊢
        simp [gR, this]
    | cons x l => cases c with
      | nil =>
        simp only [mrg, List.length_cons, List.length_nil] at h h' ⊢
        obtain ⟨k, rfl⟩ : ∃ k, n' = k + 1 := ⟨n' - 1, by omega⟩
        have := ih l [] k (by simp; omega) (by omega)
        simp only [sums, List.map_cons, mrg, less_irrefl] at this ⊢
        simp [gR, this]
      | cons y c =>
        cases h1 : Op.bytesLess x.1.toList y.1.toList
        · cases h2 : Op.bytesLess y.1.toList x.1.toList
          · simp only [mrg, h1, h2, List.length_cons] at h h' ⊢
            simp at h'
            obtain ⟨k, rfl⟩ : ∃ k, n' = k + 1 := ⟨n' - 1, by omega⟩
            have := ih l c k (by omega) (by omega)
            simp [sums] at this
            simp [sums, mrg, less_irrefl, gR, this]
          · simp only [mrg, h1, h2, List.length_cons] at h h' ⊢
            simp at h'
            obtain ⟨k, rfl⟩ : ∃ k, n' = k + 1 := ⟨n' - 1, by omega⟩
            have := ih (x :: l) c k (by simp; omega) (by simp; omega)
            simp [sums] at this
            simp [sums, mrg, h2, gR, this]
        · simp only [mrg, h1, List.length_cons] at h h' ⊢
          simp at h'
          obtain ⟨k, rfl⟩ : ∃ k, n' = k + 1 := ⟨n' - 1, by omega⟩
          have := ih l (y :: c) k (by simp; omega) (by omega)
          simp [sums] at this
          simp [sums, mrg, less_irrefl, gR, this]
end Go.Proofs.Ytnlohjcjboelgaa.L
