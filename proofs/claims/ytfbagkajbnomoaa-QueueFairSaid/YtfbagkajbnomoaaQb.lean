import Derived.Test.YtfbagkajbnomoaaQa
namespace Go.Proofs.Ytfbagkajbnomoaa.Qu
set_option linter.unusedVariables false
set_option linter.unusedSimpArgs false
/-- What Restore asks, place by place. -/
structure Oki (l : List Wt) (nx : Int) : Prop where
  nx0 : 0 ≤ nx
  nx1 : nx ≤ 1099511627776
  few : l.length ≤ 2048
  may : ∀ (i : Nat) (h : i < l.length), 0 ≤ l[i].seq ∧ l[i].seq < nx ∧ 0 ≤ l[i].tries ∧ l[i].tries ≤ 1099511627776 ∧ 0 ≤ l[i].til ∧ l[i].til ≤ 1099511627840
  next : ∀ (i : Nat) (h : i + 1 < l.length), ahd l[i] l[i + 1]
  unlike : ∀ (i j : Nat) (h : i < l.length) (k : j < i), (l[j]'(Nat.lt_trans k h)).name ≠ l[i].name ∧ (l[j]'(Nat.lt_trans k h)).seq ≠ l[i].seq
theorem chain_all {l : List Wt} (h : ∀ (i : Nat) (h : i + 1 < l.length), ahd l[i] l[i + 1]) : ∀ (d i : Nat) (hi : i + (d + 1) < l.length), ahd (l[i]'(by omega)) l[i + (d + 1)]
  | 0, i, hi => h i hi
  | d + 1, i, hi => ahd_trans (chain_all h d i (by omega)) (h (i + (d + 1)) hi)
theorem oki_okq {l : List Wt} {nx : Int} (h : Oki l nx) : Okq l nx := by
  have key : ∀ (i j : Nat) (hi : i < l.length) (hj : j < l.length), i < j → ahd l[i] l[j] := by
    intro i j hi hj hij
    obtain ⟨d, rfl⟩ : ∃ d, j = i + (d + 1) := ⟨j - i - 1, by omega⟩
    exact chain_all h.next d i hj
  refine ⟨List.pairwise_iff_getElem.2 (fun i j hi hj hij => key i j hi hj hij), List.pairwise_iff_getElem.2 (fun i j hi hj hij => (h.unlike j i hj hij).1), List.pairwise_iff_getElem.2 (fun i j hi hj hij => (h.unlike j i hj hij).2), fun x hx => ?_, fun x hx => ?_, fun x hx => ?_, h.few, h.nx0, h.nx1⟩
  · obtain ⟨i, hi, rfl⟩ := List.getElem_of_mem hx
    exact ⟨(h.may i hi).1, (h.may i hi).2.1⟩
  · obtain ⟨i, hi, rfl⟩ := List.getElem_of_mem hx
    exact ⟨(h.may i hi).2.2.1, (h.may i hi).2.2.2.1⟩
  · obtain ⟨i, hi, rfl⟩ := List.getElem_of_mem hx
    exact (h.may i hi).2.2.2.2
theorem okq_oki {l : List Wt} {nx : Int} (h : Okq l nx) : Oki l nx :=
  ⟨h.nx0, h.nx1, h.few, fun i hi => ⟨(h.lo _ (List.getElem_mem hi)).1, (h.lo _ (List.getElem_mem hi)).2, (h.tr _ (List.getElem_mem hi)).1, (h.tr _ (List.getElem_mem hi)).2, (h.ti _ (List.getElem_mem hi)).1, (h.ti _ (List.getElem_mem hi)).2⟩,
    fun i hi => List.pairwise_iff_getElem.1 h.sort i (i + 1) (by omega) hi (by omega),
    fun i j hi hj => ⟨List.pairwise_iff_getElem.1 h.names j i (by omega) hi hj, List.pairwise_iff_getElem.1 h.seqs j i (by omega) hi hj⟩⟩
/-- A place where the name stands; the length where it stands nowhere. -/
def fnd (s : ByteArray) : List Wt → Nat
  | [] => 0
  | x :: r => if x.name.toList = s.toList then 0 else fnd s r + 1
theorem fnd_le (s : ByteArray) : ∀ l : List Wt, fnd s l ≤ l.length
  | [] => Nat.le_refl _
  | x :: r => by
    unfold fnd
    split
    · exact Nat.zero_le _
    · rw [List.length_cons]; have := fnd_le s r; omega
theorem fnd_at {s : ByteArray} : ∀ {l : List Wt} (h : fnd s l < l.length), (l[fnd s l]).name.toList = s.toList
  | [], h => absurd h (Nat.not_lt_zero _)
  | x :: r, h => by
    by_cases c : x.name.toList = s.toList
    · have e : fnd s (x :: r) = 0 := by unfold fnd; rw [if_pos c]
      simp only [e]
      exact c
    · have e : fnd s (x :: r) = fnd s r + 1 := by conv => lhs; unfold fnd; rw [if_neg c]
      simp only [e, List.getElem_cons_succ]
      exact fnd_at (by rw [e, List.length_cons] at h; omega)
theorem fnd_ahead {s : ByteArray} : ∀ {l : List Wt} {j : Nat} (h : j < fnd s l), (l[j]'(Nat.lt_of_lt_of_le h (fnd_le s l))).name.toList ≠ s.toList
  | [], j, h => absurd h (Nat.not_lt_zero _)
  | x :: r, j, h => by
    by_cases c : x.name.toList = s.toList
    · have e : fnd s (x :: r) = 0 := by unfold fnd; rw [if_pos c]
      rw [e] at h
      exact absurd h (Nat.not_lt_zero _)
    · have e : fnd s (x :: r) = fnd s r + 1 := by conv => lhs; unfold fnd; rw [if_neg c]
      cases j with
      | zero => exact c
      | succ j =>
        simp only [List.getElem_cons_succ]
        exact fnd_ahead (by rw [e] at h; omega)
/-- The first place that passes a test is told by its two marks. -/
theorem fnd_eq {s : ByteArray} {l : List Wt} {k : Nat} (hk : k ≤ l.length) (h1 : ∀ (j : Nat) (h : j < k), (l[j]'(Nat.lt_of_lt_of_le h hk)).name.toList ≠ s.toList) (h2 : ∀ h : k < l.length, (l[k]).name.toList = s.toList) : fnd s l = k := by
  have hle := fnd_le s l
  rcases Nat.lt_trichotomy (fnd s l) k with c | c | c
  · exact absurd (fnd_at (by omega)) (h1 _ c)
  · exact c
  · exact absurd (h2 (by omega)) (fnd_ahead c)
/-- The pod is parked. -/
def prk (l : List Wt) (k : Nat) (now : Int) : List Wt :=
  match l[k]? with
  | none => l
  | some x => let t := if x.tries < 1099511627776 then x.tries + 1 else x.tries
              l.set k { x with tries := t, asl := true, til := now + wts t }
def wks (l : List Wt) : List Wt := l.map fun x => { x with asl := false }
theorem Okq.wake {l : List Wt} {nx : Int} (h : Okq l nx) : Okq (wks l) nx := h.map _ (fun x => ⟨rfl, rfl, rfl⟩) (fun x hx => h.tr x hx) (fun x hx => h.ti x hx)
theorem wts_le (t : Int) : 1 ≤ wts t ∧ wts t ≤ 64 := by
  unfold wts
  split
  · omega
  · split
    · omega
    · have h : (t - 1).toNat = 1 ∨ (t - 1).toNat = 2 ∨ (t - 1).toNat = 3 ∨ (t - 1).toNat = 4 ∨ (t - 1).toNat = 5 := by omega
      rcases h with h | h | h | h | h <;> rw [h] <;> decide
theorem pair_set {R : Wt → Wt → Prop} {l : List Wt} {k : Nat} {y : Wt} (h : l.Pairwise R) (hk : k < l.length) (h1 : ∀ z, R l[k] z → R y z) (h2 : ∀ z, R z l[k] → R z y) : (l.set k y).Pairwise R := by
  refine List.pairwise_iff_getElem.2 (fun i j hi hj hij => ?_)
  rw [List.length_set] at hi hj
  rw [List.getElem_set, List.getElem_set]
  have hr := List.pairwise_iff_getElem.1 h
  by_cases ci : k = i
  · subst ci
    rw [if_pos rfl, if_neg (by omega)]
    exact h1 _ (hr k j hi hj hij)
  · rw [if_neg ci]
    by_cases cj : k = j
    · subst cj
      rw [if_pos rfl]
      exact h2 _ (hr i k hi hj hij)
    · rw [if_neg cj]
      exact hr i j hi hj hij
theorem Okq.park {l : List Wt} {nx : Int} (h : Okq l nx) (k : Nat) (now : Int) (h0 : 0 ≤ now) (h1 : now ≤ 1099511627776) : Okq (prk l k now) nx := by
  unfold prk
  split
  · exact h
  · rename_i x hx
    obtain ⟨hk, rfl⟩ := List.getElem?_eq_some_iff.1 hx
    have htr := h.tr _ (List.getElem_mem hk)
    have hw := wts_le (if (l[k]).tries < 1099511627776 then (l[k]).tries + 1 else (l[k]).tries)
    have mem : ∀ {z y : Wt}, z ∈ l.set k y → z = y ∨ z ∈ l := fun hz => (List.mem_or_eq_of_mem_set hz).symm
    refine ⟨pair_set h.sort hk (fun z hz => hz) (fun z hz => hz), pair_set h.names hk (fun z hz => hz) (fun z hz => hz), pair_set h.seqs hk (fun z hz => hz) (fun z hz => hz), fun z hz => ?_, fun z hz => ?_, fun z hz => ?_, by rw [List.length_set]; exact h.few, h.nx0, h.nx1⟩
    · rcases mem hz with rfl | hz
      · exact h.lo (l[k]) (List.getElem_mem hk)
      · exact h.lo z hz
    · rcases mem hz with rfl | hz
      · show 0 ≤ (if (l[k]).tries < 1099511627776 then (l[k]).tries + 1 else (l[k]).tries) ∧ (if (l[k]).tries < 1099511627776 then (l[k]).tries + 1 else (l[k]).tries) ≤ 1099511627776
        split <;> omega
      · exact h.tr z hz
    · rcases mem hz with rfl | hz
      · exact ⟨by show 0 ≤ now + wts _; omega, by show now + wts _ ≤ _; omega⟩
      · exact h.ti z hz
end Go.Proofs.Ytfbagkajbnomoaa.Qu
