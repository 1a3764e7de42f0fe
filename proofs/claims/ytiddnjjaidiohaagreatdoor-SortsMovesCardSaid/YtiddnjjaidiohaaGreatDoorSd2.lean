import Derived.Test.YtiddnjjaidiohaaGreatDoorMgAM
namespace Go.Proofs.YtiddnjjaidiohaaGreatDoor.L
open Go.RowKit
set_option linter.unusedVariables false
/-- The type of a part, by its kids' types. -/
def tyS (T : List Pt) (ty : Nat → Int × Int) (t : Nat) : Int × Int := (srO (pt T t).kind (pt T t).kids.length (ty ((pt T t).kids.getD 0 0).toNat).1, siO (pt T t).kind (pt T t).num (jnO (fun j => (ty j).2) (pt T t).kids 0))
/-- The types of the first k parts. -/
def tyN (T : List Pt) : Nat → Nat → Int × Int
  | 0 => fun _ => (0, 0)
  | k + 1 => fun j => if j = k then tyS T (tyN T k) k else tyN T k j
def tyF (T : List Pt) (j : Nat) : Int × Int := tyN T (j + 1) j
theorem tyN_is (T : List Pt) : ∀ (k j : Nat), j < k → tyN T k j = tyF T j
  | 0, j, h => absurd h (Nat.not_lt_zero j)
  | k + 1, j, h => by
    by_cases e : j = k
    · subst e; rfl
    · show (if j = k then _ else tyN T k j) = _
      rw [if_neg e]
      exact tyN_is T k j (by omega)
/-- The first fault of the first k parts. -/
def frs (T : List Pt) (sp : Nat → Int) : Nat → Option (Nat × Int)
  | 0 => none
  | k + 1 => match frs T sp k with
    | some e => some e
    | none => brO T (fun j => (tyN T k j).1) (fun j => (tyN T k j).2) k (sp k)
theorem frs_some {T : List Pt} {sp : Nat → Int} {k : Nat} {e : Nat × Int} (h : frs T sp k = some e) : frs T sp (k + 1) = some e := by
  simp only [frs, h]
theorem frs_none {T : List Pt} {sp : Nat → Int} {k : Nat} (h : frs T sp k = none) : frs T sp (k + 1) = brO T (fun j => (tyN T k j).1) (fun j => (tyN T k j).2) k (sp k) := by
  simp only [frs, h]
theorem fin_some {T : List Pt} {t : Nat} {sc : Int} {ty : Nat → Int × Int} {e : Nat × Int} (h : brO T (fun j => (ty j).1) (fun j => (ty j).2) t sc = some e) : fin T t sc ty = (ty, some e) := by
  unfold fin; rw [h]
theorem fin_none {T : List Pt} {t : Nat} {sc : Int} {ty : Nat → Int × Int} (h : brO T (fun j => (ty j).1) (fun j => (ty j).2) t sc = none) : fin T t sc ty = (fun j => if j = t then tyS T ty t else ty j, none) := by
  unfold fin; rw [h]; rfl
theorem lin_frs (T : List Pt) (sp : Nat → Int) : ∀ k, (lin T sp k 0 (fun _ => (0, 0))).2 = frs T sp k ∧ (frs T sp k = none → (lin T sp k 0 (fun _ => (0, 0))).1 = tyN T k)
  | 0 => ⟨rfl, fun _ => rfl⟩
  | k + 1 => by
    obtain ⟨h1, h2⟩ := lin_frs T sp k
    rw [lin_add, Nat.zero_add]
    cases h : frs T sp k with
    | some e =>
      rw [h] at h1
      rw [thn_some h1, frs_some h]
      exact ⟨h1, fun h => by cases h⟩
    | none =>
      rw [h] at h1
      rw [thn_none h1, lin_one, h2 h, frs_none h]
      cases hb : brO T (fun j => (tyN T k j).1) (fun j => (tyN T k j).2) k (sp k) with
      | some e => rw [fin_some hb]; exact ⟨rfl, fun h => by cases h⟩
      | none => rw [fin_none hb]; exact ⟨rfl, fun _ => rfl⟩
/-- What Check answers of a tree that layer 13 takes. -/
theorem ovS_is {T : List Pt} {sc : Int} {sp : Nat → Int} (hr : Res T 0 0) (hs : Scp T sc sp) : (ovS T sc).2 = frs T sp T.length ∧ (frs T sp T.length = none → ∀ j, j < T.length → (ovS T sc).1 j = tyF T j) := by
  rw [ov_lin hr hs]
  obtain ⟨h1, h2⟩ := lin_frs T sp T.length
  exact ⟨h1, fun h j hj => by rw [h2 h]; exact tyN_is T _ j hj⟩
theorem jnO_congr {si si' : Nat → Int} : ∀ {ks : List Int} {a : Int}, (∀ x ∈ ks, si x.toNat = si' x.toNat) → jnO si ks a = jnO si' ks a
  | [], _, _ => rfl
  | x :: r, a, h => by
    have hx := h x (List.mem_cons_self ..)
    simp only [jnO, hx]
    rw [jnO_congr (fun y hy => h y (List.mem_cons_of_mem _ hy))]
theorem alO_congr {so so' : Nat → Int} {s0 : Int} : ∀ {ks : List Int}, (∀ x ∈ ks, so x.toNat = so' x.toNat) → alO so s0 ks = alO so' s0 ks
  | [], _ => rfl
  | x :: r, h => by
    have hx := h x (List.mem_cons_self ..)
    simp only [alO, hx]
    rw [alO_congr (fun y hy => h y (List.mem_cons_of_mem _ hy))]
theorem stO_congr {si si' : Nat → Int} {ks : List Int} {t : Int} (h : ∀ x ∈ ks, si x.toNat = si' x.toNat) : stO si ks t = stO si' ks t := by
  unfold stO
  have : ks.all (fun x => movB (si x.toNat)) = ks.all (fun x => movB (si' x.toNat)) := by
    rw [Bool.eq_iff_iff, List.all_eq_true, List.all_eq_true]
    exact ⟨fun hh x hx => by rw [← h x hx]; exact hh x hx, fun hh x hx => by rw [h x hx]; exact hh x hx⟩
  rw [this]
theorem brO_congr {T : List Pt} {so si so' si' : Nat → Int} {t : Nat} {sc : Int} (hp : ShS (pt T t)) (h : ∀ x ∈ (pt T t).kids, so x.toNat = so' x.toNat ∧ si x.toNat = si' x.toNat) : brO T so si t sc = brO T so' si' t sc := by
  unfold brO
  split
  · rename_i h6
    obtain ⟨x, y, hks⟩ := hp.1 (.inl h6)
    rw [hks] at h ⊢
    have hx := h x (by simp)
    have hy := h y (by simp)
    simp only [Int.toNat_natCast] at hx hy
    simp only [List.getD_cons_zero, List.getD_cons_succ, Int.toNat_natCast, cmO, hx.1, hy.1]
    rw [stO_congr (si' := si') (fun z hz => (h z hz).2)]
  split
  · rename_i h7
    obtain ⟨x, y, hks⟩ := hp.1 (.inr h7)
    rw [hks] at h ⊢
    have hx := h x (by simp)
    have hy := h y (by simp)
    simp only [Int.toNat_natCast] at hx hy
    simp only [List.getD_cons_zero, List.getD_cons_succ, Int.toNat_natCast, mbO, hx.1, hy.1]
    rw [stO_congr (si' := si') (fun z hz => (h z hz).2)]
  split
  · generalize (pt T t).kids = ks at *
    cases ks with
    | nil => rfl
    | cons x r =>
      have hx := h x (List.mem_cons_self ..)
      simp only [List.getD_cons_zero]
      rw [hx.1]
      exact alO_congr (fun z hz => (h z hz).1)
  rfl
theorem tyS_congr {T : List Pt} {ty ty' : Nat → Int × Int} {t : Nat} (h : ∀ x ∈ (pt T t).kids, ty x.toNat = ty' x.toNat) : tyS T ty t = tyS T ty' t := by
  unfold tyS
  have h2 : jnO (fun j => (ty j).2) (pt T t).kids 0 = jnO (fun j => (ty' j).2) (pt T t).kids 0 := jnO_congr (fun x hx => by simp only [h x hx])
  rw [h2]
  congr 1
  unfold srO
  generalize (pt T t).kids = ks at *
  cases ks with
  | nil => simp
  | cons x r =>
    simp only [List.getD_cons_zero]
    rw [h x (List.mem_cons_self ..)]
theorem tyF_is {T : List Pt} (hG : GdS T) {t : Nat} (ht : t < T.length) : tyF T t = tyS T (tyF T) t := by
  show (if t = t then tyS T (tyN T t) t else _) = _
  rw [if_pos rfl]
  exact tyS_congr (fun x hx => by
    have := hG.kid t ht x hx
    exact tyN_is T t _ (by omega))
theorem brN_is {T : List Pt} (hG : GdS T) {t : Nat} (ht : t < T.length) (sc : Int) : brO T (fun j => (tyN T t j).1) (fun j => (tyN T t j).2) t sc = brO T (fun j => (tyF T j).1) (fun j => (tyF T j).2) t sc :=
  brO_congr (hG.shp t ht) (fun x hx => by
    have := hG.kid t ht x hx
    have e := tyN_is T t x.toNat (by omega)
    exact ⟨by simp only [e], by simp only [e]⟩)
/-- What the rules hold against the part t. -/
def brF (T : List Pt) (sc : Int) (t : Nat) : Option (Nat × Int) := brO T (fun j => (tyF T j).1) (fun j => (tyF T j).2) t sc
theorem frs_all {T : List Pt} (hG : GdS T) {sp : Nat → Int} : ∀ k, k ≤ T.length → (frs T sp k = none ↔ ∀ j, j < k → brF T (sp j) j = none)
  | 0, _ => ⟨fun _ j hj => absurd hj (Nat.not_lt_zero j), fun _ => rfl⟩
  | k + 1, hk => by
    have ih := frs_all hG (sp := sp) k (by omega)
    have hb := brN_is hG (t := k) (by omega) (sp k)
    constructor
    · intro h
      cases h1 : frs T sp k with
      | some e => rw [frs_some h1] at h; cases h
      | none =>
        rw [frs_none h1, hb] at h
        intro j hj
        by_cases e : j = k
        · subst e; exact h
        · exact ih.1 h1 j (by omega)
    · intro h
      have h1 := ih.2 (fun j hj => h j (by omega))
      rw [frs_none h1, hb]
      exact h k (by omega)
theorem frs_first {T : List Pt} (hG : GdS T) {sp : Nat → Int} {e : Nat × Int} : ∀ k, k ≤ T.length → (frs T sp k = some e ↔ ∃ j, j < k ∧ brF T (sp j) j = some e ∧ ∀ i, i < j → brF T (sp i) i = none)
  | 0, _ => ⟨(fun h => by cases h), fun ⟨j, h, _⟩ => absurd h (Nat.not_lt_zero j)⟩
  | k + 1, hk => by
    have ih := frs_first hG (sp := sp) (e := e) k (by omega)
    have hb := brN_is hG (t := k) (by omega) (sp k)
    constructor
    · intro h
      cases h1 : frs T sp k with
      | some e' =>
        rw [frs_some h1] at h
        cases h
        obtain ⟨j, h2, h3⟩ := ih.1 h1
        exact ⟨j, by omega, h3⟩
      | none =>
        rw [frs_none h1, hb] at h
        exact ⟨k, by omega, h, (frs_all hG k (by omega)).1 h1⟩
    · rintro ⟨j, h1, h2, h3⟩
      by_cases hj : j < k
      · exact frs_some (ih.2 ⟨j, hj, h2, h3⟩)
      · obtain rfl : j = k := by omega
        have h4 := (frs_all hG (sp := sp) j (by omega)).2 h3
        rw [frs_none h4, hb]
        exact h2
end Go.Proofs.YtiddnjjaidiohaaGreatDoor.L
