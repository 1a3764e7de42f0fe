import Derived.Test.YtkagdmhijjfnnaaDoorPd1
import Derived.Test.YtkagdmhijjfnnaaDoorMgAM
namespace Go.Proofs.YtkagdmhijjfnnaaDoor
open Go.RowKit Bs
set_option linter.unusedVariables false
def one (b : Bool) (x : Int) : List Int := if b then [x] else []
/-- The document's pick: one walk over both. -/
def pk (al ot bo : Bool) : List Int → List Int → List Int
  | [], ys => if ot then ys else []
  | x :: xs, [] => if al then x :: xs else []
  | x :: xs, y :: ys => if x < y then one al x ++ pk al ot bo xs (y :: ys) else if y < x then one ot y ++ pk al ot bo (x :: xs) ys else one bo x ++ pk al ot bo xs ys
termination_by xs ys => xs.length + ys.length
theorem pk_ind {M : List Int → List Int → Prop} (h1 : ∀ ys, M [] ys) (h2 : ∀ x xs, M (x :: xs) []) (h3 : ∀ x xs y ys, x < y → M xs (y :: ys) → M (x :: xs) (y :: ys)) (h4 : ∀ x xs y ys, ¬ x < y → y < x → M (x :: xs) ys → M (x :: xs) (y :: ys)) (h5 : ∀ x xs y ys, ¬ x < y → ¬ y < x → M xs ys → M (x :: xs) (y :: ys)) : ∀ xs ys, M xs ys
  | [], ys => h1 ys
  | x :: xs, [] => h2 x xs
  | x :: xs, y :: ys => if c : x < y then h3 x xs y ys c (pk_ind h1 h2 h3 h4 h5 xs (y :: ys)) else if d : y < x then h4 x xs y ys c d (pk_ind h1 h2 h3 h4 h5 (x :: xs) ys) else h5 x xs y ys c d (pk_ind h1 h2 h3 h4 h5 xs ys)
termination_by xs ys => xs.length + ys.length
theorem pk_nil (al ot bo : Bool) (xs : List Int) : pk al ot bo xs [] = if al then xs else [] := by
  cases xs with
  | nil => unfold pk; cases ot <;> cases al <;> rfl
  | cons x xs => unfold pk; rfl
theorem pk_sub {al ot bo : Bool} {xs ys : List Int} {z : Int} (h : z ∈ pk al ot bo xs ys) : z ∈ xs ∨ z ∈ ys := by
  induction xs, ys using pk_ind with
  | h1 ys => unfold pk at h; split at h; exact Or.inr h; cases h
  | h2 x xs => unfold pk at h; split at h; exact Or.inl h; cases h
  | h3 x xs y ys c ih =>
    unfold pk at h; rw [if_pos c] at h
    rcases List.mem_append.1 h with h | h
    · unfold one at h; split at h
      · rw [List.mem_singleton] at h; rw [h]; exact Or.inl (List.mem_cons_self ..)
      · cases h
    · rcases ih h with k | k
      · exact Or.inl (List.mem_cons_of_mem _ k)
      · exact Or.inr k
  | h4 x xs y ys c d ih =>
    unfold pk at h; rw [if_neg c, if_pos d] at h
    rcases List.mem_append.1 h with h | h
    · unfold one at h; split at h
      · rw [List.mem_singleton] at h; rw [h]; exact Or.inr (List.mem_cons_self ..)
      · cases h
    · rcases ih h with k | k
      · exact Or.inl k
      · exact Or.inr (List.mem_cons_of_mem _ k)
  | h5 x xs y ys c d ih =>
    unfold pk at h; rw [if_neg c, if_neg d] at h
    rcases List.mem_append.1 h with h | h
    · unfold one at h; split at h
      · rw [List.mem_singleton] at h; rw [h]; exact Or.inl (List.mem_cons_self ..)
      · cases h
    · rcases ih h with k | k
      · exact Or.inl (List.mem_cons_of_mem _ k)
      · exact Or.inr (List.mem_cons_of_mem _ k)
theorem one_mem {b : Bool} {x z : Int} : z ∈ one b x ↔ b = true ∧ z = x := by unfold one; cases b <;> simp
theorem one_up {b : Bool} {x : Int} {zs : List Int} (h : Up zs) (hz : ∀ z ∈ zs, x < z) : Up (one b x ++ zs) := by
  unfold one
  cases b
  · exact h
  · exact List.pairwise_cons.2 ⟨hz, h⟩
theorem pk_up {al ot bo : Bool} {xs ys : List Int} (hx : Up xs) (hy : Up ys) : Up (pk al ot bo xs ys) := by
  induction xs, ys using pk_ind with
  | h1 ys => unfold pk; split; exact hy; exact List.Pairwise.nil
  | h2 x xs => unfold pk; split; exact hx; exact List.Pairwise.nil
  | h3 x xs y ys c ih =>
    unfold pk; rw [if_pos c]
    have a := List.pairwise_cons.1 hx
    have b := List.pairwise_cons.1 hy
    refine one_up (ih a.2 hy) fun z hz => ?_
    rcases pk_sub hz with k | k
    · exact a.1 z k
    · rcases List.mem_cons.1 k with k | k
      · omega
      · have := b.1 z k; omega
  | h4 x xs y ys c d ih =>
    unfold pk; rw [if_neg c, if_pos d]
    have a := List.pairwise_cons.1 hx
    have b := List.pairwise_cons.1 hy
    refine one_up (ih hx b.2) fun z hz => ?_
    rcases pk_sub hz with k | k
    · rcases List.mem_cons.1 k with k | k
      · omega
      · have := a.1 z k; omega
    · exact b.1 z k
  | h5 x xs y ys c d ih =>
    unfold pk; rw [if_neg c, if_neg d]
    have a := List.pairwise_cons.1 hx
    have b := List.pairwise_cons.1 hy
    refine one_up (ih a.2 b.2) fun z hz => ?_
    rcases pk_sub hz with k | k
    · exact a.1 z k
    · have := b.1 z k; omega
theorem pk_mem {al ot bo : Bool} {xs ys : List Int} (hx : Up xs) (hy : Up ys) (z : Int) : z ∈ pk al ot bo xs ys ↔ (al = true ∧ z ∈ xs ∧ ¬ z ∈ ys) ∨ (ot = true ∧ ¬ z ∈ xs ∧ z ∈ ys) ∨ (bo = true ∧ z ∈ xs ∧ z ∈ ys) := by
  induction xs, ys using pk_ind with
  | h1 ys => unfold pk; cases ot <;> simp
  | h2 x xs => unfold pk; cases al <;> simp
  | h3 x xs y ys c ih =>
    have a := List.pairwise_cons.1 hx
    have b := List.pairwise_cons.1 hy
    unfold pk; rw [if_pos c, List.mem_append, one_mem, ih a.2 hy]
    by_cases e : z = x
    · subst e
      have n1 : ¬ z ∈ xs := fun k => by have := a.1 z k; omega
      have n2 : ¬ z ∈ y :: ys := fun k => by
        rcases List.mem_cons.1 k with k | k
        · omega
        · have := b.1 z k; omega
      simp [n1, n2]
    · have : z ∈ x :: xs ↔ z ∈ xs := by simp [e]
      rw [this]
      simp [e]
  | h4 x xs y ys c d ih =>
    have a := List.pairwise_cons.1 hx
    have b := List.pairwise_cons.1 hy
    unfold pk; rw [if_neg c, if_pos d, List.mem_append, one_mem, ih hx b.2]
    by_cases e : z = y
    · subst e
      have n1 : ¬ z ∈ ys := fun k => by have := b.1 z k; omega
      have n2 : ¬ z ∈ x :: xs := fun k => by
        rcases List.mem_cons.1 k with k | k
        · omega
        · have := a.1 z k; omega
      simp [n1, n2]
    · have : z ∈ y :: ys ↔ z ∈ ys := by simp [e]
      rw [this]
      simp [e]
  | h5 x xs y ys c d ih =>
    have a := List.pairwise_cons.1 hx
    have b := List.pairwise_cons.1 hy
    obtain rfl : x = y := by omega
    unfold pk; rw [if_neg c, if_neg d, List.mem_append, one_mem, ih a.2 b.2]
    by_cases e : z = x
    · subst e
      have n1 : ¬ z ∈ xs := fun k => by have := a.1 z k; omega
      have n2 : ¬ z ∈ ys := fun k => by have := b.1 z k; omega
      simp [n1, n2]
    · have h1 : z ∈ x :: xs ↔ z ∈ xs := by simp [e]
      have h2 : z ∈ x :: ys ↔ z ∈ ys := by simp [e]
      rw [h1, h2]
      simp [e]
theorem drop_at {zs : List Int} {i : Nat} (h : i < zs.length) : zs.drop i = zs.getD i 0 :: zs.drop (i + 1) := by
  rw [getD_at h]; exact List.drop_eq_getElem_cons h
theorem pk_a {al ot bo : Bool} {A B : List Int} {i j : Nat} (hi : i < A.length) (h : B.length ≤ j ∨ A.getD i 0 < B.getD j 0) : pk al ot bo (A.drop i) (B.drop j) = one al (A.getD i 0) ++ pk al ot bo (A.drop (i + 1)) (B.drop j) := by
  by_cases c : B.length ≤ j
  · rw [List.drop_eq_nil_of_le c, pk_nil, pk_nil, drop_at hi]
    unfold one
    cases al <;> rfl
  · have hj : j < B.length := by omega
    rw [drop_at hi, drop_at hj]
    have lt : A.getD i 0 < B.getD j 0 := by
      rcases h with h | h
      · omega
      · exact h
    conv => lhs; unfold pk
    rw [if_pos lt]
theorem pk_b {al ot bo : Bool} {A B : List Int} {i j : Nat} (hj : j < B.length) (h : A.length ≤ i ∨ B.getD j 0 < A.getD i 0) : pk al ot bo (A.drop i) (B.drop j) = one ot (B.getD j 0) ++ pk al ot bo (A.drop i) (B.drop (j + 1)) := by
  by_cases c : A.length ≤ i
  · rw [List.drop_eq_nil_of_le c, drop_at hj]
    unfold pk one
    cases ot <;> rfl
  · have hi : i < A.length := by omega
    rw [drop_at hi, drop_at hj]
    have lt : B.getD j 0 < A.getD i 0 := by
      rcases h with h | h
      · omega
      · exact h
    conv => lhs; unfold pk
    rw [if_neg (by omega), if_pos lt]
theorem pk_c {al ot bo : Bool} {A B : List Int} {i j : Nat} (hi : i < A.length) (hj : j < B.length) (h1 : ¬ A.getD i 0 < B.getD j 0) (h2 : ¬ B.getD j 0 < A.getD i 0) : pk al ot bo (A.drop i) (B.drop j) = one bo (A.getD i 0) ++ pk al ot bo (A.drop (i + 1)) (B.drop (j + 1)) := by
  rw [drop_at hi, drop_at hj]
  conv => lhs; unfold pk
  rw [if_neg h1, if_neg h2]
theorem pk_end {al ot bo : Bool} {A B : List Int} {i j : Nat} (hi : A.length ≤ i) (hj : B.length ≤ j) : pk al ot bo (A.drop i) (B.drop j) = [] := by
  rw [List.drop_eq_nil_of_le hi, List.drop_eq_nil_of_le hj, pk_nil]; cases al <;> rfl
end Go.Proofs.YtkagdmhijjfnnaaDoor
namespace Go.Proofs.YtkagdmhijjfnnaaDoor
open Go.RowKit Bs
/-! A region that draws and only reads, op by op, what follows behind a name that nothing looks through. -/
theorem q_start {P : Program} {ops : Array Oper} {C : World → Prop} {Q : Act → Prop} {a : Act} {l : List Oper} (k : ∀ R : Act → Prop, PLift (R = wpQuiet P ops C Q l) → R a) : wpQuiet P ops C Q l a := k _ ⟨rfl⟩
theorem q_nil {P : Program} {ops : Array Oper} {C : World → Prop} {Q R : Act → Prop} {a : Act} (hR : PLift (R = wpQuiet P ops C Q [])) (h : Q a) : R a := by rw [hR.down]; exact h
theorem q_yes {P : Program} {ops : Array Oper} {C : World → Prop} {Q R : Act → Prop} {a : Act} {o : Oper} {rest : List Oper} (hR : PLift (R = wpQuiet P ops C Q (o :: rest))) (h : Region.wanted o (yielded ops a.tmps) = true)
    (k : ∀ K R' : Act → Prop, PLift (R' = wpQuiet P ops C Q rest) → (∀ a, R' a → K a) → o.quiet P a C K) : R a := by
  rw [hR.down, wpQuiet, if_pos h]
  exact k _ _ ⟨rfl⟩ (fun _ h => h)
theorem q_no {P : Program} {ops : Array Oper} {C : World → Prop} {Q R : Act → Prop} {a : Act} {o : Oper} {rest : List Oper} (hR : PLift (R = wpQuiet P ops C Q (o :: rest))) (h : Region.wanted o (yielded ops a.tmps) = false)
    (k : ∀ K R' : Act → Prop, PLift (R' = wpQuiet P ops C Q rest) → (∀ a, R' a → K a) → K (a.put o.dst undef)) : R a := by
  rw [hR.down, wpQuiet, if_neg (by rw [h]; decide)]
  exact k _ _ ⟨rfl⟩ (fun _ h => h)
end Go.Proofs.YtkagdmhijjfnnaaDoor
