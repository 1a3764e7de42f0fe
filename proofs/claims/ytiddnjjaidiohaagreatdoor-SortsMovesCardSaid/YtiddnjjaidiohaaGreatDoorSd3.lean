import Derived.Test.YtiddnjjaidiohaaGreatDoorSd2
namespace Go.Proofs.YtiddnjjaidiohaaGreatDoor.L
open Go.RowKit
set_option linter.unusedVariables false
theorem fre_up (T : List Pt) : ∀ i, (fre T i).Pairwise (· < ·)
  | 0 => by simp [fre]
  | i + 1 => by
    rw [fre, List.pairwise_append]
    refine ⟨(fre_up T i).sublist (List.take_sublist _ _), List.pairwise_singleton _ _, fun x hx y hy => ?_⟩
    have h1 := fre_mem T i x (List.mem_of_mem_take hx)
    have h2 : y = i := by simpa using hy
    omega
theorem fre_gone {T : List Pt} {i : Nat} (hO : OkA T i) {x : Int} (hx : x ∈ (pt T i).kids) : ∀ j, i < j → x ∉ fre T j := by
  have hlt := hO.lt hx
  intro j
  induction j with
  | zero => intro h; omega
  | succ j ih =>
    intro h hm
    rw [fre, List.mem_append] at hm
    by_cases e : i < j
    · rcases hm with hm | hm
      · exact ih e (List.mem_of_mem_take hm)
      · have : x = j := by simpa using hm
        omega
    · obtain rfl : i = j := by omega
      rcases hm with hm | hm
      · have hu := fre_up T i
        rw [← List.take_append_drop ((fre T i).length - (pt T i).kids.length) (fre T i), List.pairwise_append] at hu
        have := hu.2.2 x hm x (by rw [← hO.kids]; exact hx)
        omega
      · have : x = i := by simpa using hm
        omega
/-- A kid has one part over it. -/
theorem kid_one {T : List Pt} (h0 : Ok0 T) {i j : Nat} (hi : i < T.length) (hj : j < T.length) {x : Int} (h1 : x ∈ (pt T i).kids) (h2 : x ∈ (pt T j).kids) : i = j := by
  have hk : ∀ {j : Nat}, j < T.length → x ∈ (pt T j).kids → x ∈ fre T j := fun hj h => by
    rw [(h0 _ hj).kids] at h
    exact List.mem_of_mem_drop h
  rcases Nat.lt_trichotomy i j with h | h | h
  · exact absurd (hk hj h2) (fre_gone (h0 i hi) h1 j h)
  · exact h
  · exact absurd (hk hi h1) (fre_gone (h0 j hj) h2 i h)
/-- The scopes as they are told from the last part down. -/
def scN (T : List Pt) (sc d : Int) : Nat → Nat → Int
  | 0 => fun j => if j = T.length - 1 then sc else d
  | k + 1 => fun j => if (j : Int) ∈ (pt T (T.length - 1 - k)).kids then scpO (pt T (T.length - 1 - k)).kind (scN T sc d k (T.length - 1 - k)) else scN T sc d k j
/-- What no part from here on has for a kid stays. -/
theorem scN_stay {T : List Pt} {sc d : Int} {j : Nat} : ∀ {m k : Nat}, k ≤ m → (∀ q, k ≤ q → q < m → (j : Int) ∉ (pt T (T.length - 1 - q)).kids) → scN T sc d m j = scN T sc d k j
  | 0, k, h, _ => by obtain rfl : k = 0 := by omega
                     rfl
  | m + 1, k, h, hn => by
    by_cases e : k = m + 1
    · rw [e]
    · show (if _ then _ else scN T sc d m j) = _
      rw [if_neg (hn m (by omega) (by omega))]
      exact scN_stay (by omega) (fun q h1 h2 => hn q h1 (by omega))
theorem scN_ok {T : List Pt} (h0 : Ok0 T) (h1 : 1 ≤ T.length) (sc d : Int) : Scp T sc (scN T sc d T.length) := by
  have hlt : ∀ {i : Nat}, i < T.length → ∀ {x : Nat}, (x : Int) ∈ (pt T i).kids → x < i := fun hi x hx => by
    have := (h0 _ hi).lt hx
    omega
  constructor
  · have : scN T sc d T.length (T.length - 1) = scN T sc d 0 (T.length - 1) := scN_stay (Nat.zero_le _) (fun q _ h2 hm => by
      have := hlt (by omega) hm
      omega)
    rw [this]
    show (if _ then _ else _) = _
    rw [if_pos rfl]
  · intro i hi x hx
    have hxi := hlt hi hx
    obtain ⟨k, hk⟩ : ∃ k, k = T.length - 1 - i := ⟨_, rfl⟩
    have e1 : T.length - 1 - k = i := by omega
    have s1 : scN T sc d T.length x = scN T sc d (k + 1) x := scN_stay (by omega) (fun q h1 h2 hm => by
      have := kid_one h0 (by omega) hi hm hx
      omega)
    have s2 : scN T sc d T.length i = scN T sc d k i := scN_stay (by omega) (fun q h1 h2 hm => by
      have := hlt (by omega) hm
      omega)
    rw [s1, s2]
    show (if _ then _ else _) = _
    rw [e1, if_pos hx]
theorem scN_mem {T : List Pt} {sc : Int} (h : sc = 2 ∨ sc = 3) : ∀ (k j : Nat), scN T sc sc k j = 2 ∨ scN T sc sc k j = 3
  | 0, j => by
    show (if j = T.length - 1 then sc else sc) = 2 ∨ (if j = T.length - 1 then sc else sc) = 3
    rw [ite_self]
    exact h
  | k + 1, j => by
    have h1 := scN_mem (T := T) h k (T.length - 1 - k)
    have h2 := scN_mem (T := T) h k j
    simp only [scN]
    split
    · unfold scpO
      split
      · exact .inr rfl
      · exact h1
    · exact h2
/-- The scope of each part (the tree's own where nobody has told it). -/
def spF (T : List Pt) (sc : Int) : Nat → Int := scN T sc sc T.length
theorem spF_ok {T : List Pt} (h0 : Ok0 T) (h1 : 1 ≤ T.length) (sc : Int) : Scp T sc (spF T sc) := scN_ok h0 h1 sc sc
theorem spF_mem (T : List Pt) {sc : Int} (h : sc = 2 ∨ sc = 3) (j : Nat) : spF T sc j = 2 ∨ spF T sc j = 3 := scN_mem h _ j
/-- Check of a tree that layer 13 takes: the types, or the first fault. -/
theorem ck_yes {T : List Pt} {sc : Int} {sp : Nat → Int} (hr : Res T 0 0) (hs : Scp T sc sp) (h : ∀ j, j < T.length → brF T (sp j) j = none) : (ovS T sc).2 = none ∧ ∀ j, j < T.length → (ovS T sc).1 j = tyF T j := by
  obtain ⟨h1, h2, h3, _⟩ := res_ok hr
  have hG := gds_of h3 h2
  obtain ⟨k1, k2⟩ := ovS_is hr hs
  have hn := (frs_all hG (sp := sp) T.length (Nat.le_refl _)).2 h
  exact ⟨k1.trans hn, k2 hn⟩
theorem ck_no {T : List Pt} {sc : Int} {sp : Nat → Int} {e : Nat × Int} {j : Nat} (hr : Res T 0 0) (hs : Scp T sc sp) (hj : j < T.length) (he : brF T (sp j) j = some e) (h : ∀ i, i < j → brF T (sp i) i = none) : (ovS T sc).2 = some e := by
  obtain ⟨h1, h2, h3, _⟩ := res_ok hr
  have hG := gds_of h3 h2
  rw [(ovS_is hr hs).1]
  exact (frs_first hG (sp := sp) T.length (Nat.le_refl _)).2 ⟨j, hj, he, h⟩
theorem ck_ok {T : List Pt} {sc : Int} {sp : Nat → Int} (hr : Res T 0 0) (hs : Scp T sc sp) (h : (ovS T sc).2 = none) : (∀ j, j < T.length → brF T (sp j) j = none) ∧ ∀ j, j < T.length → (ovS T sc).1 j = tyF T j := by
  obtain ⟨h1, h2, h3, _⟩ := res_ok hr
  have hG := gds_of h3 h2
  obtain ⟨k1, k2⟩ := ovS_is hr hs
  have hn := k1.symm.trans h
  exact ⟨(frs_all hG (sp := sp) T.length (Nat.le_refl _)).1 hn, k2 hn⟩
theorem ck_err {T : List Pt} {sc : Int} {sp : Nat → Int} {e : Nat × Int} (hr : Res T 0 0) (hs : Scp T sc sp) (h : (ovS T sc).2 = some e) : ∃ j, j < T.length ∧ brF T (sp j) j = some e ∧ ∀ i, i < j → brF T (sp i) i = none := by
  obtain ⟨h1, h2, h3, _⟩ := res_ok hr
  have hG := gds_of h3 h2
  obtain ⟨k1, k2⟩ := ovS_is hr hs
  exact (frs_first hG (sp := sp) T.length (Nat.le_refl _)).1 (k1.symm.trans h)
end Go.Proofs.YtiddnjjaidiohaaGreatDoor.L
