import Derived.Test.YtkagdmhijjfnnaaDoorMgAN
import Derived.Test.YtkagdmhijjfnnaaDoorMgAL
namespace Go.Proofs.YtkagdmhijjfnnaaDoor
open Go.RowKit Bs
set_option linter.unusedVariables false
/-! ### The document's sets: a size and the members, rising. -/
/-- A list that rises. -/
def Up (zs : List Int) : Prop := zs.Pairwise (· < ·)
theorem Up.lt {zs : List Int} (h : Up zs) {j k : Nat} (hjk : j < k) (hk : k < zs.length) : zs.getD j 0 < zs.getD k 0 := by
  have := List.pairwise_iff_getElem.1 h j k (by omega) hk hjk
  rw [List.getD_eq_getElem?_getD, List.getD_eq_getElem?_getD, List.getElem?_eq_getElem hk, List.getElem?_eq_getElem (show j < zs.length by omega)]
  exact this
theorem up_of {zs : List Int} (h : ∀ j k, j < k → k < zs.length → zs.getD j 0 < zs.getD k 0) : Up zs := by
  refine List.pairwise_iff_getElem.2 fun i j hi hj hij => ?_
  have := h i j hij hj
  rw [List.getD_eq_getElem?_getD, List.getD_eq_getElem?_getD, List.getElem?_eq_getElem hj, List.getElem?_eq_getElem hi] at this
  exact this
theorem getD_at {zs : List Int} {k : Nat} (h : k < zs.length) : zs.getD k 0 = zs[k] := by rw [List.getD_eq_getElem?_getD, List.getElem?_eq_getElem h]; rfl
theorem mem_getD {zs : List Int} {z : Int} : z ∈ zs ↔ ∃ k, k < zs.length ∧ zs.getD k 0 = z := by
  rw [List.mem_iff_getElem]
  constructor
  · rintro ⟨k, hk, e⟩; exact ⟨k, hk, by rw [getD_at hk]; exact e⟩
  · rintro ⟨k, hk, e⟩; exact ⟨k, hk, by rw [← getD_at hk]; exact e⟩
/-- Lists that rise and have the same members are one. -/
theorem up_one : ∀ {l m : List Int}, Up l → Up m → (∀ z, z ∈ l ↔ z ∈ m) → l = m
  | [], [], _, _, _ => rfl
  | [], y :: m, _, _, h => by have := (h y).2 (List.mem_cons_self ..); cases this
  | x :: l, [], _, _, h => by have := (h x).1 (List.mem_cons_self ..); cases this
  | x :: l, y :: m, hl, hm, h => by
    have hl' := List.pairwise_cons.1 hl
    have hm' := List.pairwise_cons.1 hm
    have e : x = y := by
      have a := (h x).1 (List.mem_cons_self ..)
      have b := (h y).2 (List.mem_cons_self ..)
      rcases List.mem_cons.1 a with a | a
      · exact a
      · rcases List.mem_cons.1 b with b | b
        · exact b.symm
        · have := hl'.1 y b
          have := hm'.1 x a
          omega
    subst e
    rw [up_one hl'.2 hm'.2 fun z => ?_]
    constructor
    · intro hz
      have := (h z).1 (List.mem_cons_of_mem _ hz)
      rcases List.mem_cons.1 this with c | c
      · have := hl'.1 z hz; omega
      · exact c
    · intro hz
      have := (h z).2 (List.mem_cons_of_mem _ hz)
      rcases List.mem_cons.1 this with c | c
      · have := hm'.1 z hz; omega
      · exact c
/-- The members below n, as a list. -/
def msR (n : Nat) (S : Nat → Bool) : List Int := ((List.range n).filter S).map fun i : Nat => (i : Int)
theorem msR_succ (n : Nat) (S : Nat → Bool) : msR (n + 1) S = msR n S ++ (if S n then [(n : Int)] else []) := by
  unfold msR
  rw [List.range_succ, List.filter_append, List.map_append]
  cases e : S n <;> simp [e]
theorem msR_mem {n : Nat} {S : Nat → Bool} {z : Int} : z ∈ msR n S ↔ ∃ a : Nat, z = a ∧ a < n ∧ S a = true := by
  unfold msR
  rw [List.mem_map]
  constructor
  · rintro ⟨a, h, rfl⟩
    rw [List.mem_filter, List.mem_range] at h
    exact ⟨a, rfl, h.1, h.2⟩
  · rintro ⟨a, rfl, h1, h2⟩
    exact ⟨a, by rw [List.mem_filter, List.mem_range]; exact ⟨h1, h2⟩, rfl⟩
theorem msR_up (S : Nat → Bool) : ∀ n, Up (msR n S)
  | 0 => List.Pairwise.nil
  | n + 1 => by
    rw [msR_succ]
    refine List.pairwise_append.2 ⟨msR_up S n, by split <;> simp, fun a ha b hb => ?_⟩
    obtain ⟨x, rfl, h1, h2⟩ := msR_mem.1 ha
    split at hb
    · simp at hb; omega
    · cases hb
theorem msR_len (S : Nat → Bool) : ∀ n, (msR n S).length = card n S
  | 0 => rfl
  | n + 1 => by
    rw [msR_succ, List.length_append, msR_len S n]
    by_cases e : S n = true
    · rw [if_pos e, card_next S n e]; rfl
    · rw [if_neg e, card_gap S (Nat.le_succ n) (fun t h1 h2 => by obtain rfl : t = n := by omega
                                                                  simpa using e)]; rfl
theorem MsOf.up {n : Nat} {S : Nat → Bool} {ms : List Int} (h : MsOf n S ms) : Up ms := by
  refine up_of fun j k hjk hk => ?_
  obtain ⟨a, a1, a2, a3, a4⟩ := h.get j (by omega)
  obtain ⟨b, b1, b2, b3, b4⟩ := h.get k hk
  rw [a1, b1]
  have := nth_lt (S := S) (a := a) (b := b) (by omega)
  omega
theorem MsOf.bel {n : Nat} {S : Nat → Bool} {ms : List Int} (h : MsOf n S ms) {z : Int} (hz : z ∈ ms) : ∃ a : Nat, z = a ∧ a < n ∧ S a = true := by
  obtain ⟨k, hk, rfl⟩ := mem_getD.1 hz
  obtain ⟨a, a1, a2, a3, _⟩ := h.get k hk
  exact ⟨a, a1, a2, a3⟩
theorem MsOf.mem {n : Nat} {S : Nat → Bool} {ms : List Int} (h : MsOf n S ms) {a : Nat} (ha : a < n) (hs : S a = true) : (a : Int) ∈ ms := by
  have hc : card a S < ms.length := by
    rw [h.len]
    have := card_next S a hs
    have := card_mono S (show a + 1 ≤ n by omega)
    omega
  obtain ⟨b, b1, b2, b3, b4⟩ := h.get _ hc
  have e := card_out (n := n) b3 hs b4
  rw [← e, ← b1]
  exact mem_getD.2 ⟨_, hc, rfl⟩
theorem MsOf.mem_iff {n : Nat} {S : Nat → Bool} {ms : List Int} (h : MsOf n S ms) (z : Int) : z ∈ ms ↔ ∃ a : Nat, z = a ∧ a < n ∧ S a = true :=
  ⟨h.bel, fun ⟨a, e, h1, h2⟩ => by rw [e]; exact h.mem h1 h2⟩
theorem msR_is (n : Nat) (S : Nat → Bool) : MsOf n S (msR n S) := by
  refine ⟨msR_len S n, fun t ht => ?_⟩
  obtain ⟨a, e, h1, h2⟩ := msR_mem.1 (mem_getD.2 ⟨t, ht, rfl⟩)
  refine ⟨a, e, h1, h2, ?_⟩
  have pre : ∀ m, m ≤ n → (msR n S).take (card m S) = msR m S := by
    intro m hm
    induction n with
    | zero => obtain rfl : m = 0 := by omega
              rfl
    | succ n ih =>
      by_cases c : m = n + 1
      · subst c
        rw [← msR_len S (n + 1)]
        exact List.take_length
      · have hl : card m S ≤ (msR n S).length := by rw [msR_len]; exact card_mono S (by omega)
        rw [msR_succ, List.take_append_of_le_length hl]
        have key : ∀ k, m ≤ k → (msR k S).take (card m S) = msR m S := by
          intro k hk
          induction k with
          | zero => obtain rfl : m = 0 := by omega
                    rfl
          | succ k ihk =>
            by_cases c : m = k + 1
            · subst c
              rw [← msR_len S (k + 1)]
              exact List.take_length
            · have hl : card m S ≤ (msR k S).length := by rw [msR_len]; exact card_mono S (by omega)
              rw [msR_succ, List.take_append_of_le_length hl]
              exact ihk (by omega)
        exact key n (by omega)
  have e2 : msR (a + 1) S = msR a S ++ [(a : Int)] := by rw [msR_succ, if_pos h2]
  have hlt : card a S < (msR n S).length := by
    rw [msR_len]
    have := card_next S a h2
    have := card_mono S (show a + 1 ≤ n by omega)
    omega
  have g : (msR n S).getD (card a S) 0 = a := by
    have p := pre (a + 1) (by omega)
    rw [e2] at p
    have q : ((msR n S).take (card (a + 1) S)).getD (card a S) 0 = a := by
      rw [p, List.getD_eq_getElem?_getD, ← msR_len S a]
      simp
    rw [List.getD_eq_getElem?_getD, List.getElem?_take, if_pos (by have := card_next S a h2; omega)] at q
    rw [List.getD_eq_getElem?_getD]
    exact q
  rcases Nat.lt_trichotomy (card a S) t with c | c | c
  · have := (msR_up S n).lt c ht; omega
  · exact c
  · have := (msR_up S n).lt c hlt; omega
/-- A rising list with just the set's members is its list. -/
theorem MsOf.of_up {n : Nat} {S : Nat → Bool} {zs : List Int} (hu : Up zs) (h : ∀ z, z ∈ zs ↔ ∃ a : Nat, z = a ∧ a < n ∧ S a = true) : MsOf n S zs := by
  rw [up_one hu (msR_up S n) (fun z => (h z).trans msR_mem.symm)]
  exact msR_is n S
/-- How many are below i. -/
def bel (zs : List Int) (i : Int) : Nat := zs.countP fun z => decide (z < i)
theorem bel_le (zs : List Int) (i : Int) : bel zs i ≤ zs.length := List.countP_le_length ..
theorem bel_of {zs : List Int} {i : Int} {k : Nat} (hk : k ≤ zs.length) (h1 : ∀ j, j < k → zs.getD j 0 < i) (h2 : ∀ j, k ≤ j → j < zs.length → i ≤ zs.getD j 0) : bel zs i = k := by
  unfold bel
  have e : zs = zs.take k ++ zs.drop k := (List.take_append_drop k zs).symm
  rw [e, List.countP_append]
  have a : (zs.take k).countP (fun z => decide (z < i)) = k := by
    have : (zs.take k).countP (fun z => decide (z < i)) = (zs.take k).length := by
      rw [List.countP_eq_length]
      intro z hz
      obtain ⟨j, hj, rfl⟩ := mem_getD.1 hz
      have hj' : j < k := by rw [List.length_take] at hj; omega
      have := h1 j hj'
      rw [List.getD_eq_getElem?_getD, List.getElem?_take, if_pos hj', ← List.getD_eq_getElem?_getD]
      simpa using this
    rw [this, List.length_take]
    omega
  have b : (zs.drop k).countP (fun z => decide (z < i)) = 0 := by
    rw [List.countP_eq_zero]
    intro z hz
    obtain ⟨j, hj, rfl⟩ := mem_getD.1 hz
    rw [List.length_drop] at hj
    have := h2 (k + j) (by omega) (by omega)
    rw [List.getD_eq_getElem?_getD, List.getElem?_drop, ← List.getD_eq_getElem?_getD, decide_eq_true_iff]
    omega
  rw [a, b]; rfl
/-- Each list that rises is cut by i. -/
theorem bel_ex {zs : List Int} (h : Up zs) (i : Int) : ∃ k, k ≤ zs.length ∧ (∀ j, j < k → zs.getD j 0 < i) ∧ ∀ j, k ≤ j → j < zs.length → i ≤ zs.getD j 0 := by
  induction zs with
  | nil => exact ⟨0, Nat.le_refl _, fun j hj => by omega, fun j _ hj => by cases hj⟩
  | cons x zs ih =>
    have h' := List.pairwise_cons.1 h
    by_cases c : x < i
    · obtain ⟨k, a, b, d⟩ := ih h'.2
      refine ⟨k + 1, by simp; omega, fun j hj => ?_, fun j hj hl => ?_⟩
      · cases j with
        | zero => simpa using c
        | succ j => simpa using b j (by omega)
      · cases j with
        | zero => omega
        | succ j => simpa using d j (by omega) (by simpa using hl)
    · refine ⟨0, Nat.zero_le _, fun j hj => by omega, fun j _ hl => ?_⟩
      cases j with
      | zero => simp; omega
      | succ j =>
        have hl' : j < zs.length := by simpa using hl
        have := h'.1 _ (List.getElem_mem hl')
        have e : (x :: zs).getD (j + 1) 0 = zs[j] := by simp [List.getElem?_eq_getElem hl']
        rw [e]; omega
theorem bel_lt {zs : List Int} (h : Up zs) (i : Int) (j : Nat) (hj : j < bel zs i) : zs.getD j 0 < i := by
  obtain ⟨k, a, b, c⟩ := bel_ex h i
  rw [bel_of a b c] at hj
  exact b j hj
theorem bel_ge {zs : List Int} (h : Up zs) (i : Int) (j : Nat) (hj : bel zs i ≤ j) (hl : j < zs.length) : i ≤ zs.getD j 0 := by
  obtain ⟨k, a, b, c⟩ := bel_ex h i
  rw [bel_of a b c] at hj
  exact c j hj hl
theorem MsOf.rank {n : Nat} {S : Nat → Bool} {ms : List Int} (h : MsOf n S ms) (i : Int) : Go.Proofs.YtkagdmhijjfnnaaDoor.bel ms i = Go.Proofs.YtkagdmhijjfnnaaDoor.rank n S i := by
  unfold Go.Proofs.YtkagdmhijjfnnaaDoor.rank
  refine bel_of ?_ ?_ ?_
  · rw [h.len]; exact card_mono S (by omega)
  · intro t ht
    have hl : t < ms.length := by rw [h.len]; exact Nat.lt_of_lt_of_le ht (card_mono S (by omega))
    obtain ⟨a, a1, a2, a3, a4⟩ := h.get t hl
    have := nth_lt (S := S) (a := a) (b := min i.toNat n) (by omega)
    rw [a1]; omega
  · intro t ht hl
    obtain ⟨a, a1, a2, a3, a4⟩ := h.get t hl
    rw [a1]
    apply Classical.byContradiction
    intro c
    have := card_next S a a3
    have := card_mono S (show a + 1 ≤ min i.toNat n by omega)
    omega
/-- Is i among them? -/
theorem has_iff {zs : List Int} (h : Up zs) (i : Int) : i ∈ zs ↔ bel zs i < zs.length ∧ zs.getD (bel zs i) 0 = i := by
  constructor
  · intro hz
    obtain ⟨j, hj, e⟩ := mem_getD.1 hz
    have a : bel zs i ≤ j := by
      apply Classical.byContradiction
      intro c
      have := bel_lt h i j (by omega)
      omega
    refine ⟨by omega, ?_⟩
    by_cases c : bel zs i = j
    · rw [c]; exact e
    · have := h.lt (j := bel zs i) (k := j) (by omega) hj
      have := bel_ge h i (bel zs i) (Nat.le_refl _) (by omega)
      omega
  · rintro ⟨a, b⟩
    exact mem_getD.2 ⟨_, a, b⟩
theorem sel_is {n : Nat} {S : Nat → Bool} {ms : List Int} (h : MsOf n S ms) (k : Int) : IsSel n S k (if 0 ≤ k ∧ k < ms.length then ms.getD k.toNat 0 else -1) := by
  by_cases c : 0 ≤ k ∧ k < ms.length
  · rw [if_pos c]
    obtain ⟨a, a1, a2, a3, a4⟩ := h.get k.toNat (by omega)
    exact Or.inl ⟨a, a1, a2, a3, by omega⟩
  · rw [if_neg c]
    refine Or.inr ⟨rfl, ?_⟩
    rw [← h.len]; omega
theorem next_is {n : Nat} {S : Nat → Bool} {ms : List Int} (h : MsOf n S ms) (hb : ∀ t, n ≤ t → S t = false) (i : Int) : IsNext n S i (if bel ms i < ms.length then ms.getD (bel ms i) 0 else -1) := by
  have no : ∀ t : Nat, i ≤ t → S t = true → ∃ j, bel ms i ≤ j ∧ j < ms.length ∧ ms.getD j 0 = t := by
    intro t ht hs
    have htn : t < n := by
      apply Classical.byContradiction; intro c
      rw [hb t (by omega)] at hs; cases hs
    obtain ⟨j, hj, e⟩ := mem_getD.1 (h.mem htn hs)
    refine ⟨j, ?_, hj, e⟩
    apply Classical.byContradiction; intro c
    have := bel_lt h.up i j (by omega)
    omega
  by_cases c : bel ms i < ms.length
  · rw [if_pos c]
    obtain ⟨a, a1, a2, a3, a4⟩ := h.get _ c
    have := bel_ge h.up i _ (Nat.le_refl _) c
    refine Or.inl ⟨a, a1, a2, a3, by omega, fun t h1 h2 => ?_⟩
    cases e : S t
    · rfl
    · obtain ⟨j, j1, j2, j3⟩ := no t h1 e
      by_cases d : bel ms i = j
      · rw [d] at a1; omega
      · have := h.up.lt (j := bel ms i) (k := j) (by omega) j2; omega
  · rw [if_neg c]
    refine Or.inr ⟨rfl, fun t h1 => ?_⟩
    cases e : S t
    · rfl
    · obtain ⟨j, j1, j2, j3⟩ := no t h1 e; omega
/-- The document's Prev. -/
def prv (ms : List Int) (i : Int) : Int := if i ∈ ms then i else if 0 < bel ms i then ms.getD (bel ms i - 1) 0 else -1
theorem prev_is {n : Nat} {S : Nat → Bool} {ms : List Int} (h : MsOf n S ms) (hb : ∀ t, n ≤ t → S t = false) (i : Int) : IsPrev n S i (prv ms i) := by
  have no : ∀ t : Nat, S t = true → ∃ j, j < ms.length ∧ ms.getD j 0 = t := by
    intro t hs
    have htn : t < n := by
      apply Classical.byContradiction; intro c
      rw [hb t (by omega)] at hs; cases hs
    exact mem_getD.1 (h.mem htn hs)
  unfold prv
  by_cases c : i ∈ ms
  · rw [if_pos c]
    obtain ⟨a, e, h1, h2⟩ := h.bel c
    subst e
    exact prev_has a h1 h2
  · rw [if_neg c]
    have lo : ∀ (t j : Nat), (t : Int) ≤ i → j < ms.length → ms.getD j 0 = t → j < bel ms i := by
      intro t j ht hj e
      apply Classical.byContradiction; intro d
      have := bel_ge h.up i j (by omega) hj
      have : i = t := by omega
      exact c (mem_getD.2 ⟨j, hj, by omega⟩)
    by_cases d : 0 < bel ms i
    · rw [if_pos d]
      have hl := bel_le ms i
      obtain ⟨a, a1, a2, a3, a4⟩ := h.get (bel ms i - 1) (by omega)
      have := bel_lt h.up i (bel ms i - 1) (by omega)
      refine Or.inl ⟨a, a1, a2, a3, by omega, fun t h1 h2 => ?_⟩
      cases e : S t
      · rfl
      · obtain ⟨j, j1, j2⟩ := no t e
        have := lo t j h2 j1 j2
        by_cases f : j = bel ms i - 1
        · rw [f] at j2; omega
        · have := h.up.lt (j := j) (k := bel ms i - 1) (by omega) (by omega); omega
    · rw [if_neg d]
      refine Or.inr ⟨rfl, fun t h2 => ?_⟩
      cases e : S t
      · rfl
      · obtain ⟨j, j1, j2⟩ := no t e
        have := lo t j h2 j1 j2
        omega
end Go.Proofs.YtkagdmhijjfnnaaDoor
