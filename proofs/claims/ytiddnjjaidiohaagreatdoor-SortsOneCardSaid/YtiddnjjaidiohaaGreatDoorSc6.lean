import Derived.Test.YtiddnjjaidiohaaGreatDoorSb4
import Derived.Test.YtiddnjjaidiohaaGreatDoorHI
namespace Go.Proofs.YtiddnjjaidiohaaGreatDoor.L
open Go.RowKit
set_option linter.unusedVariables false
/-- A fault of the rules: its number, and the place of a part. -/
def Cd (n : Nat) (e : Nat × Int) : Prop := 140 < e.1 ∧ e.1 < 149 ∧ 0 ≤ e.2 ∧ e.2 < n
theorem cd_of {n c : Nat} {a : Int} (h1 : 140 < c) (h2 : c < 149) (h3 : 0 ≤ a) (h4 : a < n) : Cd n (c, a) := ⟨h1, h2, h3, h4⟩
theorem stO_cd {si : Nat → Int} {ks : List Int} {t n : Nat} {e : Nat × Int} (ht : t < n) (h : stO si ks t = some e) : Cd n e := by
  unfold stO at h
  split at h
  · cases h; exact cd_of (by decide) (by decide) (by omega) (by omega)
  · cases h
theorem alO_cd {so : Nat → Int} {s0 : Int} {n : Nat} {e : Nat × Int} : ∀ {ks : List Int}, (∀ x, x ∈ ks → 0 ≤ x ∧ x < (n : Int)) → alO so s0 ks = some e → Cd n e
  | [], _, h => by cases h
  | x :: r, hk, h => by
    unfold alO at h
    split at h
    · exact alO_cd (fun y hy => hk y (List.mem_cons_of_mem _ hy)) h
    · cases h
      exact cd_of (by decide) (by decide) (hk x (List.mem_cons_self ..)).1 (hk x (List.mem_cons_self ..)).2
theorem brO_cd {T : List Pt} (hG : GdS T) {so si : Nat → Int} {t : Nat} {sc : Int} {e : Nat × Int} (ht : t < T.length) (h : brO T so si t sc = some e) : Cd T.length e := by
  have hk := hG.kid t ht
  have hs := hG.shp t ht
  unfold brO at h
  split at h
  · rename_i h6
    obtain ⟨x, y, hks⟩ := hs.1 (.inl h6)
    rw [hks] at h hk
    have hx := hk x (by simp)
    have hy := hk y (by simp)
    simp only [List.getD_cons_zero, List.getD_cons_succ, Int.toNat_natCast] at h
    unfold cmO at h
    split at h
    · cases h; exact cd_of (by decide) (by decide) (by omega) (by omega)
    split at h
    · cases h; exact cd_of (by decide) (by decide) (by omega) (by omega)
    split at h
    · cases h; exact cd_of (by decide) (by decide) (by omega) (by omega)
    exact stO_cd ht h
  split at h
  · rename_i h7
    obtain ⟨x, y, hks⟩ := hs.1 (.inr h7)
    rw [hks] at h hk
    have hx := hk x (by simp)
    have hy := hk y (by simp)
    simp only [List.getD_cons_zero, List.getD_cons_succ, Int.toNat_natCast] at h
    unfold mbO at h
    split at h
    · cases h; exact cd_of (by decide) (by decide) (by omega) (by omega)
    split at h
    · cases h; exact cd_of (by decide) (by decide) (by omega) (by omega)
    exact stO_cd ht h
  split at h
  · exact alO_cd (fun x hx => by have := hk x hx; omega) h
  split at h
  · rename_i h19
    obtain ⟨x, hks⟩ := hs.2 h19
    rw [hks] at h hk
    have hx := hk x (by simp)
    simp only [List.getD_cons_zero, Int.toNat_natCast] at h
    unfold rdO at h
    split at h
    · cases h
    · cases h; exact cd_of (by decide) (by decide) (by omega) (by omega)
  · unfold asO at h
    split at h
    · split at h
      · cases h; exact cd_of (by decide) (by decide) (by omega) (by omega)
      · cases h; exact cd_of (by decide) (by decide) (by omega) (by omega)
    split at h
    · cases h
    · cases h; exact cd_of (by decide) (by decide) (by omega) (by omega)
theorem fin_cd {T : List Pt} (hG : GdS T) {t : Nat} {sc : Int} {ty : Nat → Int × Int} {e : Nat × Int} (ht : t < T.length) (h : (fin T t sc ty).2 = some e) : Cd T.length e := by
  unfold fin at h
  split at h
  · rename_i e' he
    cases h
    exact brO_cd hG ht he
  · cases h
theorem ov_cd {T : List Pt} (hG : GdS T) : ∀ (f t : Nat) (sc : Int) (ty : Nat → Int × Int) (e : Nat × Int), t < T.length → (ov T f ty t sc).2 = some e → Cd T.length e := by
  intro f
  induction f with
  | zero => intro t sc ty e _ h; cases h
  | succ f ih =>
    intro t sc ty e ht h
    have hf : ∀ (ks : List Int) (acc : (Nat → Int × Int) × Option (Nat × Int)), (∀ x, x ∈ ks → 0 ≤ x ∧ x < (t : Int)) → (∀ e, acc.2 = some e → Cd T.length e) → ∀ e, (ks.foldl (stp T f (pt T t).kind sc) acc).2 = some e → Cd T.length e := by
      intro ks
      induction ks with
      | nil => intro acc _ ha; exact ha
      | cons x r ihk =>
        intro acc hk ha
        refine ihk _ (fun y hy => hk y (List.mem_cons_of_mem _ hy)) (fun e he => ?_)
        unfold stp at he
        split at he
        · rename_i e' h1
          exact ha e (h1.trans he)
        · have := hk x (List.mem_cons_self ..)
          exact ih _ _ _ e (by omega) he
    rw [ov_succ] at h
    unfold aft at h
    split at h
    · rename_i e' h1
      cases h
      exact hf _ _ (hG.kid t ht) (fun e he => by cases he) _ h1
    · exact fin_cd hG ht h
/-- Where there is no fault, the part's own type is set. -/
theorem ov_at {T : List Pt} {f t : Nat} {sc : Int} {ty : Nat → Int × Int} (h : (ov T (f + 1) ty t sc).2 = none) (hk : (pt T t).kind ≤ 10) : ((ov T (f + 1) ty t sc).1 t).1 = 1 := by
  rw [ov_succ] at h ⊢
  unfold aft at h ⊢
  split at h
  · cases h
  · unfold fin at h ⊢
    split at h
    · cases h
    · simp only [if_true]
      unfold srO
      rw [if_neg (by omega), if_neg (by omega), if_neg (by omega), if_neg (by omega)]
theorem ovS_cd {T : List Pt} {sc : Int} {c : Nat} {a : Int} (hr : Res T 0 0) (h : (ovS T sc).2 = some (c, a)) : 140 < c ∧ c < 149 ∧ 0 ≤ a ∧ a < T.length := by
  obtain ⟨h1, h2, h3, _⟩ := res_ok hr
  exact ov_cd (gds_of h3 h2) _ _ _ _ (c, a) (by omega) h
theorem ovS_root {T : List Pt} {sc : Int} (hr : Res T 0 0) (h : (ovS T sc).2 = none) : ((ovS T sc).1 (T.length - 1)).1 = 1 := by
  obtain ⟨h1, h2, h3, h4, _⟩ := res_ok hr
  unfold ovS at h ⊢
  obtain ⟨n, hn⟩ : ∃ n, T.length = n + 1 := ⟨T.length - 1, by omega⟩
  rw [hn] at h ⊢
  refine ov_at h ?_
  have : 1 ≤ (pt T (T.length - 1)).kind ∧ (pt T (T.length - 1)).kind ≤ 10 := Classical.byContradiction fun h => h4 (Or.inl h)
  rw [hn] at this
  exact this.2
theorem res_small {T : List Pt} (hr : Res T 0 0) : sumK T T.length ≤ 2000 := by
  obtain ⟨h1, h2, h3, _⟩ := res_ok hr
  have := sum_kids T.length h3
  omega
end Go.Proofs.YtiddnjjaidiohaaGreatDoor.L
