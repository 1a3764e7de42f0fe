import Derived.Test.YtiddnjjaidiohaaGreatDoorMgAO
import Derived.Test.YtiddnjjaidiohaaGreatDoorMgAS
namespace Go.Proofs.YtiddnjjaidiohaaGreatDoor.L
open Go.RowKit
set_option linter.unusedVariables false
/-- A fault of the rules: its number, and the place of a part. -/
def Cd (n : Nat) (e : Nat × Int) : Prop := 140 < e.1 ∧ e.1 < 149 ∧ 0 ≤ e.2 ∧ e.2 < n
theorem cd_of {n c : Nat} {a : Int} (h1 : 140 < c) (h2 : c < 149) (h3 : 0 ≤ a) (h4 : a < n) : Cd n (c, a) := ⟨h1, h2, h3, h4⟩
theorem stO_cd {si : Nat → Int} {ks : List Int} {t n : Nat} {e : Nat × Int} (ht : t < n) (h : stO si ks t = some e) : Cd n e := by
  unfold stO at h
  split at h
  · cases h; exact cd_of (by decide) (by decide) (by omega) (by omega)
  · cases h
theorem alO_cd {so : Nat → Int} {s0 : Int} {n : Nat} {e : Nat × Int} : ∀ {ks : List Int}, (∀ x, x ∈ ks → 0 ≤ x ∧ x < (n : Int)) → alO so s0 ks = some e → Cd n e
  | [], _, h => by cases h
  | x :: r, hk, h => by
    unfold alO at h
    split at h
    · exact alO_cd (fun y hy => hk y (List.mem_cons_of_mem _ hy)) h
    · cases h
      exact cd_of (by decide) (by decide) (hk x (List.mem_cons_self ..)).1 (hk x (List.mem_cons_self ..)).2
theorem brO_cd {T : List Pt} (hG : GdS T) {so si : Nat → Int} {t : Nat} {sc : Int} {e : Nat × Int} (ht : t < T.length) (h : brO T so si t sc = some e) : Cd T.length e := by
  have hk := hG.kid t ht
  have hs := hG.shp t ht
  unfold brO at h
  split at h
  · rename_i h6
    obtain ⟨x, y, hks⟩ := hs.1 (.inl h6)
    rw [hks] at h hk
    have hx := hk x (by simp)
    have hy := hk y (by simp)
    simp only [List.getD_cons_zero, List.getD_cons_succ, Int.toNat_natCast] at h
    unfold cmO at h
    split at h
    · cases h; exact cd_of (by decide) (by decide) (by omega) (by omega)
    split at h
    · cases h; exact cd_of (by decide) (by decide) (by omega) (by omega)
    split at h
    · cases h; exact cd_of (by decide) (by decide) (by omega) (by omega)
    exact stO_cd ht h
  split at h
  · rename_i h7
    obtain ⟨x, y, hks⟩ := hs.1 (.inr h7)
    rw [hks] at h hk
    have hx := hk x (by simp)
    have hy := hk y (by simp)
    simp only [List.getD_cons_zero, List.getD_cons_succ, Int.toNat_natCast] at h
    unfold mbO at h
    split at h
    · cases h; exact cd_of (by decide) (by decide) (by omega) (by omega)
    split at h
    · cases h; exact cd_of (by decide) (by decide) (by omega) (by omega)
    exact stO_cd ht h
  split at h
  · exact alO_cd (fun x hx => by have := hk x hx; omega) h
  split at h
  · rename_i h19
    obtain ⟨x, hks⟩ := hs.2 h19
    rw [hks] at h hk
    have hx := hk x (by simp)
    simp only [List.getD_cons_zero, Int.toNat_natCast] at h
    unfold rdO at h
    split at h
    · cases h
    · cases h; exact cd_of (by decide) (by decide) (by omega) (by omega)
  · unfold asO at h
    split at h
    · split at h
      · cases h; exact cd_of (by decide) (by decide) (by omega) (by omega)
      · cases h; exact cd_of (by decide) (by decide) (by omega) (by omega)
    split at h
    · cases h
    · cases h; exact cd_of (by decide) (by decide) (by omega) (by omega)
theorem fin_cd {T : List Pt} (hG : GdS T) {t : Nat} {sc : Int} {ty : Nat → Int × Int} {e : Nat × Int} (ht : t < T.length) (h : (fin T t sc ty).2 = some e) : Cd T.length e := by
  unfold fin at h
  split at h
  · rename_i e' he
    cases h
    exact brO_cd hG ht he
  · cases h
theorem ov_cd {T : List Pt} (hG : GdS T) : ∀ (f t : Nat) (sc : Int) (ty : Nat → Int × Int) (e : Nat × Int), t < T.length → (ov T f ty t sc).2 = some e → Cd T.length e := by
  intro f
  induction f with
  | zero => intro t sc ty e _ h; cases h
  | succ f ih =>
    intro t sc ty e ht h
    have hf : ∀ (ks : List Int) (acc : (Nat → Int × Int) × Option (Nat × Int)), (∀ x, x ∈ ks → 0 ≤ x ∧ x < (t : Int)) → (∀ e, acc.2 = some e → Cd T.length e) → ∀ e, (ks.foldl (stp T f (pt T t).kind sc) acc).2 = some e → Cd T.length e := by
      intro ks
      induction ks with
      | nil => intro acc _ ha; exact ha
      | cons x r ihk =>
        intro acc hk ha
        refine ihk _ (fun y hy => hk y (List.mem_cons_of_mem _ hy)) (fun e he => ?_)
        unfold stp at he
        split at he
        · rename_i e' h1
          exact ha e (h1.trans he)
        · have := hk x (List.mem_cons_self ..)
          exact ih _ _ _ e (by omega) he
    rw [ov_succ] at h
    unfold aft at h
    split at h
    · rename_i e' h1
      cases h
      exact hf _ _ (hG.kid t ht) (fun e he => by cases he) _ h1
    · exact fin_cd hG ht h
/-- Where there is no fault, the part's own type is set. -/
theorem ov_at {T : List Pt} {f t : Nat} {sc : Int} {ty : Nat → Int × Int} (h : (ov T (f + 1) ty t sc).2 = none) (hk : (pt T t).kind ≤ 10) : ((ov T (f + 1) ty t sc).1 t).1 = 1 := by
  rw [ov_succ] at h ⊢
  unfold aft at h ⊢
  split at h
  · cases h
  · unfold fin at h ⊢
    split at h
    · cases h
    · simp only [if_true]
      unfold srO
      rw [if_neg (by omega), if_neg (by omega), if_neg (by omega), if_neg (by omega)]
theorem ovS_cd {T : List Pt} {sc : Int} {c : Nat} {a : Int} (hr : Res T 0 0) (h : (ovS T sc).2 = some (c, a)) : 140 < c ∧ c < 149 ∧ 0 ≤ a ∧ a < T.length := by
  obtain ⟨h1, h2, h3, _⟩ := res_ok hr
  exact ov_cd (gds_of h3 h2) _ _ _ _ (c, a) (by omega) h
theorem ovS_root {T : List Pt} {sc : Int} (hr : Res T 0 0) (h : (ovS T sc).2 = none) : ((ovS T sc).1 (T.length - 1)).1 = 1 := by
  obtain ⟨h1, h2, h3, h4, _⟩ := res_ok hr
  unfold ovS at h ⊢
  obtain ⟨n, hn⟩ : ∃ n, T.length = n + 1 := ⟨T.length - 1, by omega⟩
  rw [hn] at h ⊢
  refine ov_at h ?_
  have : 1 ≤ (pt T (T.length - 1)).kind ∧ (pt T (T.length - 1)).kind ≤ 10 := Classical.byContradiction fun h => h4 (Or.inl h)
  rw [hn] at this
  exact this.2
theorem res_small {T : List Pt} (hr : Res T 0 0) : sumK T T.length ≤ 2000 := by
  obtain ⟨h1, h2, h3, _⟩ := res_ok hr
  have := sum_kids T.length h3
  omega
end Go.Proofs.YtiddnjjaidiohaaGreatDoor.L
namespace Go.Proofs.YtiddnjjaidiohaaGreatDoor.L
open Go.RowKit
set_option linter.unusedVariables false
/-- The parts s stand one behind the other from a on, ahead of b, each with all that stands in it. -/
inductive Cov (T : List Pt) : Nat → List Int → Nat → Prop
  | nil (a : Nat) : Cov T a [] a
  | cons (a t : Nat) (r : List Int) (b : Nat) : Cov T a (pt T t).kids t → Cov T (t + 1) r b → Cov T a ((t : Int) :: r) b
theorem Cov.le {T : List Pt} {a b : Nat} {s : List Int} (h : Cov T a s b) : a ≤ b := by
  induction h with
  | nil => exact Nat.le_refl _
  | cons a t r b _ _ h1 h2 => omega
theorem Cov.app {T : List Pt} {a b c : Nat} {s s' : List Int} (h : Cov T a s b) (h' : Cov T b s' c) : Cov T a (s ++ s') c := by
  induction h with
  | nil => exact h'
  | cons a t r b h1 _ _ ih => exact .cons a t _ c h1 (ih h')
theorem Cov.split {T : List Pt} {s' : List Int} {c : Nat} : ∀ {s : List Int} {a : Nat}, Cov T a (s ++ s') c → ∃ b, Cov T a s b ∧ Cov T b s' c
  | [], a, h => ⟨a, .nil a, h⟩
  | x :: r, a, h => by
    cases h with
    | cons _ t _ _ h1 h2 =>
      obtain ⟨b, h3, h4⟩ := Cov.split h2
      exact ⟨b, .cons a t r b h1 h3, h4⟩
theorem cov_fre {T : List Pt} : ∀ i, (∀ j, j < i → OkA T j) → Cov T 0 (fre T i) i
  | 0, _ => .nil 0
  | i + 1, hok => by
    have h := cov_fre i (fun j hj => hok j (by omega))
    have hO := hok i (by omega)
    rw [← List.take_append_drop ((fre T i).length - (pt T i).kids.length) (fre T i), ← hO.kids] at h
    obtain ⟨b, h1, h2⟩ := h.split
    rw [fre]
    exact h1.app (.cons b i [] (i + 1) h2 (.nil _))
/-- All that stands in the first n parts, from a on: part by part. -/
def lin (T : List Pt) (sp : Nat → Int) : Nat → Nat → (Nat → Int × Int) → (Nat → Int × Int) × Option (Nat × Int)
  | 0, _, ty => (ty, none)
  | k + 1, a, ty => match (fin T a (sp a) ty).2 with
    | some e => ((fin T a (sp a) ty).1, some e)
    | none => lin T sp k (a + 1) (fin T a (sp a) ty).1
/-- One thing, and then the next if there is no fault. -/
def thn (r : (Nat → Int × Int) × Option (Nat × Int)) (g : (Nat → Int × Int) → (Nat → Int × Int) × Option (Nat × Int)) : (Nat → Int × Int) × Option (Nat × Int) := match r.2 with
  | some e => (r.1, some e)
  | none => g r.1
theorem thn_some {r : (Nat → Int × Int) × Option (Nat × Int)} {e : Nat × Int} (h : r.2 = some e) (g : (Nat → Int × Int) → (Nat → Int × Int) × Option (Nat × Int)) : thn r g = r := by
  unfold thn
  rw [h]
  exact Prod.ext rfl h.symm
theorem thn_none {r : (Nat → Int × Int) × Option (Nat × Int)} (h : r.2 = none) (g : (Nat → Int × Int) → (Nat → Int × Int) × Option (Nat × Int)) : thn r g = g r.1 := by
  unfold thn
  rw [h]
theorem lin_succ (T : List Pt) (sp : Nat → Int) (k a : Nat) (ty : Nat → Int × Int) : lin T sp (k + 1) a ty = thn (fin T a (sp a) ty) (lin T sp k (a + 1)) := by
  cases h : (fin T a (sp a) ty).2 with
  | some e => rw [thn_some h]; simp only [lin, h]; exact Prod.ext rfl h.symm
  | none => rw [thn_none h]; simp only [lin, h]
theorem lin_add (T : List Pt) (sp : Nat → Int) : ∀ (k m a : Nat) (ty : Nat → Int × Int), lin T sp (k + m) a ty = thn (lin T sp k a ty) (lin T sp m (a + k))
  | 0, m, a, ty => by rw [thn_none rfl]; simp [lin]
  | k + 1, m, a, ty => by
    have e : k + 1 + m = (k + m) + 1 := by omega
    rw [e, lin_succ, lin_succ]
    cases h : (fin T a (sp a) ty).2 with
    | some e => rw [thn_some h, thn_some h, thn_some h]
    | none =>
      rw [thn_none h, thn_none h, lin_add T sp k m (a + 1)]
      have e2 : a + 1 + k = a + (k + 1) := by omega
      rw [e2]
theorem lin_one (T : List Pt) (sp : Nat → Int) (a : Nat) (ty : Nat → Int × Int) : lin T sp 1 a ty = fin T a (sp a) ty := by
  rw [lin_succ]
  cases h : (fin T a (sp a) ty).2 with
  | some e => exact thn_some h _
  | none => rw [thn_none h]; exact Prod.ext rfl h.symm
theorem aft_thn (T : List Pt) (t : Nat) (sc : Int) (r : (Nat → Int × Int) × Option (Nat × Int)) : aft T t sc r = thn r (fin T t sc) := by
  cases h : r.2 with
  | some e => rw [thn_some h]; unfold aft; rw [h]; exact Prod.ext rfl h.symm
  | none => rw [thn_none h]; unfold aft; rw [h]
/-- Which scopes fit. -/
structure Scp (T : List Pt) (sc : Int) (sp : Nat → Int) : Prop where
  root : sp (T.length - 1) = sc
  kid : ∀ i, i < T.length → ∀ x : Nat, (x : Int) ∈ (pt T i).kids → sp x = scpO (pt T i).kind (sp i)
theorem ov_cov {T : List Pt} {sp : Nat → Int} (hs : ∀ i, i < T.length → ∀ x : Nat, (x : Int) ∈ (pt T i).kids → sp x = scpO (pt T i).kind (sp i)) {a b : Nat} {s : List Int} (h : Cov T a s b) :
    ∀ (f : Nat) (kd sc : Int) (ty : Nat → Int × Int), b ≤ T.length → b ≤ f → (∀ x : Nat, (x : Int) ∈ s → sp x = scpO kd sc) → s.foldl (stp T f kd sc) (ty, none) = lin T sp (b - a) a ty := by
  induction h with
  | nil a => intro f kd sc ty _ _ _; simp [lin]
  | cons a t r b h1 h2 ih1 ih2 =>
    intro f kd sc ty hb hf hx
    have l1 := h1.le
    have l2 := h2.le
    obtain ⟨f', rfl⟩ : ∃ f', f = f' + 1 := ⟨f - 1, by omega⟩
    have e1 : b - a = (t - a + 1) + (b - (t + 1)) := by omega
    have hst : sp t = scpO kd sc := hx t (by simp)
    have e2 : ov T (f' + 1) ty t (scpO kd sc) = lin T sp (t - a + 1) a ty := by
      rw [ov_succ, ih1 f' (pt T t).kind (scpO kd sc) ty (by omega) (by omega) (fun x hxk => by rw [hs t (by omega) x hxk, hst]), aft_thn, lin_add]
      have e3 : a + (t - a) = t := by omega
      rw [e3, ← hst]
      cases hL : (lin T sp (t - a) a ty).2 with
      | some e => rw [thn_some hL, thn_some hL]
      | none => rw [thn_none hL, thn_none hL, lin_one]
    rw [List.foldl_cons]
    have e4 : stp T (f' + 1) kd sc (ty, none) (t : Int) = ov T (f' + 1) ty t (scpO kd sc) := rfl
    rw [e4, e2, e1, lin_add T sp (t - a + 1) (b - (t + 1))]
    have e5 : a + (t - a + 1) = t + 1 := by omega
    rw [e5]
    cases hL : (lin T sp (t - a + 1) a ty).2 with
    | some e =>
      rw [thn_some hL]
      have : lin T sp (t - a + 1) a ty = ((lin T sp (t - a + 1) a ty).1, some e) := Prod.ext rfl hL
      rw [this, stp_some]
    | none =>
      rw [thn_none hL]
      have : lin T sp (t - a + 1) a ty = ((lin T sp (t - a + 1) a ty).1, none) := Prod.ext rfl hL
      rw [this]
      exact ih2 (f' + 1) kd sc _ hb hf (fun x hxr => hx x (by simp [hxr]))
theorem fre_lone {T : List Pt} (h1 : 1 ≤ T.length) (hl : ¬ Lst T) : fre T T.length = [((T.length - 1 : Nat) : Int)] := by
  obtain ⟨n, hn⟩ : ∃ n, T.length = n + 1 := ⟨T.length - 1, by omega⟩
  have h2 : ¬ 1 < (fre T T.length).length := fun h => hl (Or.inr h)
  rw [hn] at h2 ⊢
  rw [fre] at h2 ⊢
  rw [List.length_append] at h2
  simp only [List.length_cons, List.length_nil] at h2
  have : ((fre T n).take ((fre T n).length - (pt T n).kids.length)) = [] := List.length_eq_zero_iff.1 (by omega)
  rw [this]
  rfl
/-- A tree that layer 13 takes: part by part. -/
theorem ov_lin {T : List Pt} {sc : Int} {sp : Nat → Int} (hr : Res T 0 0) (hs : Scp T sc sp) : ovS T sc = lin T sp T.length 0 (fun _ => (0, 0)) := by
  obtain ⟨h1, h2, h3, h4, _⟩ := res_ok hr
  have hc := cov_fre T.length h3
  rw [fre_lone h1 h4] at hc
  have h := ov_cov hs.kid hc T.length 0 sc (fun _ => (0, 0)) (Nat.le_refl _) (Nat.le_refl _) (fun x hx => by
    have h0 : (x : Int) = ((T.length - 1 : Nat) : Int) := by simpa using hx
    have : x = T.length - 1 := by omega
    rw [this, hs.root]
    simp [scpO, selB])
  rw [Nat.sub_zero] at h
  rw [← h]
  show _ = stp T T.length 0 sc (fun _ => (0, 0), none) ((T.length - 1 : Nat) : Int)
  unfold stp ovS
  simp only [Int.toNat_natCast]
  have : scpO 0 sc = sc := by simp [scpO, selB]
  rw [this]
end Go.Proofs.YtiddnjjaidiohaaGreatDoor.L
