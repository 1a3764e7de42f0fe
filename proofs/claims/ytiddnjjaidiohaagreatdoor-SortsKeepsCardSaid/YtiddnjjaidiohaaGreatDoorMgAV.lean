import Derived.Test.YtiddnjjaidiohaaGreatDoorMgAU
namespace Go.Proofs.YtiddnjjaidiohaaGreatDoor.L
open Go.RowKit
set_option linter.unusedVariables false
/-- The type of a part, by its kids' types. -/
def tyS (T : List Pt) (ty : Nat → Int × Int) (t : Nat) : Int × Int := (srO (pt T t).kind (pt T t).kids.length (ty ((pt T t).kids.getD 0 0).toNat).1, siO (pt T t).kind (pt T t).num (jnO (fun j => (ty j).2) (pt T t).kids 0))
/-- The types of the first k parts. -/
def tyN (T : List Pt) : Nat → Nat → Int × Int
  | 0 => fun _ => (0, 0)
  | k + 1 => fun j => if j = k then tyS T (tyN T k) k else tyN T k j
def tyF (T : List Pt) (j : Nat) : Int × Int := tyN T (j + 1) j
theorem tyN_is (T : List Pt) : ∀ (k j : Nat), j < k → tyN T k j = tyF T j
  | 0, j, h => absurd h (Nat.not_lt_zero j)
  | k + 1, j, h => by
    by_cases e : j = k
    · subst e; rfl
    · show (if j = k then _ else tyN T k j) = _
      rw [if_neg e]
      exact tyN_is T k j (by omega)
/-- The first fault of the first k parts. -/
def frs (T : List Pt) (sp : Nat → Int) : Nat → Option (Nat × Int)
  | 0 => none
  | k + 1 => match frs T sp k with
    | some e => some e
    | none => brO T (fun j => (tyN T k j).1) (fun j => (tyN T k j).2) k (sp k)
theorem frs_some {T : List Pt} {sp : Nat → Int} {k : Nat} {e : Nat × Int} (h : frs T sp k = some e) : frs T sp (k + 1) = some e := by
  simp only [frs, h]
theorem frs_none {T : List Pt} {sp : Nat → Int} {k : Nat} (h : frs T sp k = none) : frs T sp (k + 1) = brO T (fun j => (tyN T k j).1) (fun j => (tyN T k j).2) k (sp k) := by
  simp only [frs, h]
theorem fin_some {T : List Pt} {t : Nat} {sc : Int} {ty : Nat → Int × Int} {e : Nat × Int} (h : brO T (fun j => (ty j).1) (fun j => (ty j).2) t sc = some e) : fin T t sc ty = (ty, some e) := by
  unfold fin; rw [h]
theorem fin_none {T : List Pt} {t : Nat} {sc : Int} {ty : Nat → Int × Int} (h : brO T (fun j => (ty j).1) (fun j => (ty j).2) t sc = none) : fin T t sc ty = (fun j => if j = t then tyS T ty t else ty j, none) := by
  unfold fin; rw [h]; rfl
theorem lin_frs (T : List Pt) (sp : Nat → Int) : ∀ k, (lin T sp k 0 (fun _ => (0, 0))).2 = frs T sp k ∧ (frs T sp k = none → (lin T sp k 0 (fun _ => (0, 0))).1 = tyN T k)
  | 0 => ⟨rfl, fun _ => rfl⟩
  | k + 1 => by
    obtain ⟨h1, h2⟩ := lin_frs T sp k
    rw [lin_add, Nat.zero_add]
    cases h : frs T sp k with
    | some e =>
      rw [h] at h1
      rw [thn_some h1, frs_some h]
      exact ⟨h1, fun h => by cases h⟩
    | none =>
      rw [h] at h1
      rw [thn_none h1, lin_one, h2 h, frs_none h]
      cases hb : brO T (fun j => (tyN T k j).1) (fun j => (tyN T k j).2) k (sp k) with
      | some e => rw [fin_some hb]; exact ⟨rfl, fun h => by cases h⟩
      | none => rw [fin_none hb]; exact ⟨rfl, fun _ => rfl⟩
/-- What Check answers of a tree that layer 13 takes. -/
theorem ovS_is {T : List Pt} {sc : Int} {sp : Nat → Int} (hr : Res T 0 0) (hs : Scp T sc sp) : (ovS T sc).2 = frs T sp T.length ∧ (frs T sp T.length = none → ∀ j, j < T.length → (ovS T sc).1 j = tyF T j) := by
  rw [ov_lin hr hs]
  obtain ⟨h1, h2⟩ := lin_frs T sp T.length
  exact ⟨h1, fun h j hj => by rw [h2 h]; exact tyN_is T _ j hj⟩
theorem jnO_congr {si si' : Nat → Int} : ∀ {ks : List Int} {a : Int}, (∀ x ∈ ks, si x.toNat = si' x.toNat) → jnO si ks a = jnO si' ks a
  | [], _, _ => rfl
  | x :: r, a, h => by
    have hx := h x (List.mem_cons_self ..)
    simp only [jnO, hx]
    rw [jnO_congr (fun y hy => h y (List.mem_cons_of_mem _ hy))]
theorem alO_congr {so so' : Nat → Int} {s0 : Int} : ∀ {ks : List Int}, (∀ x ∈ ks, so x.toNat = so' x.toNat) → alO so s0 ks = alO so' s0 ks
  | [], _ => rfl
  | x :: r, h => by
    have hx := h x (List.mem_cons_self ..)
    simp only [alO, hx]
    rw [alO_congr (fun y hy => h y (List.mem_cons_of_mem _ hy))]
theorem stO_congr {si si' : Nat → Int} {ks : List Int} {t : Int} (h : ∀ x ∈ ks, si x.toNat = si' x.toNat) : stO si ks t = stO si' ks t := by
  unfold stO
  have : ks.all (fun x => movB (si x.toNat)) = ks.all (fun x => movB (si' x.toNat)) := by
    rw [Bool.eq_iff_iff, List.all_eq_true, List.all_eq_true]
    exact ⟨fun hh x hx => by rw [← h x hx]; exact hh x hx, fun hh x hx => by rw [h x hx]; exact hh x hx⟩
  rw [this]
theorem brO_congr {T : List Pt} {so si so' si' : Nat → Int} {t : Nat} {sc : Int} (hp : ShS (pt T t)) (h : ∀ x ∈ (pt T t).kids, so x.toNat = so' x.toNat ∧ si x.toNat = si' x.toNat) : brO T so si t sc = brO T so' si' t sc := by
  unfold brO
  split
  · rename_i h6
    obtain ⟨x, y, hks⟩ := hp.1 (.inl h6)
    rw [hks] at h ⊢
    have hx := h x (by simp)
    have hy := h y (by simp)
    simp only [Int.toNat_natCast] at hx hy
    simp only [List.getD_cons_zero, List.getD_cons_succ, Int.toNat_natCast, cmO, hx.1, hy.1]
    rw [stO_congr (si' := si') (fun z hz => (h z hz).2)]
  split
  · rename_i h7
    obtain ⟨x, y, hks⟩ := hp.1 (.inr h7)
    rw [hks] at h ⊢
    have hx := h x (by simp)
    have hy := h y (by simp)
    simp only [Int.toNat_natCast] at hx hy
    simp only [List.getD_cons_zero, List.getD_cons_succ, Int.toNat_natCast, mbO, hx.1, hy.1]
    rw [stO_congr (si' := si') (fun z hz => (h z hz).2)]
  split
  · generalize (pt T t).kids = ks at *
    cases ks with
    | nil => rfl
    | cons x r =>
      have hx := h x (List.mem_cons_self ..)
      simp only [List.getD_cons_zero]
      rw [hx.1]
      exact alO_congr (fun z hz => (h z hz).1)
  rfl
theorem tyS_congr {T : List Pt} {ty ty' : Nat → Int × Int} {t : Nat} (h : ∀ x ∈ (pt T t).kids, ty x.toNat = ty' x.toNat) : tyS T ty t = tyS T ty' t := by
  unfold tyS
  have h2 : jnO (fun j => (ty j).2) (pt T t).kids 0 = jnO (fun j => (ty' j).2) (pt T t).kids 0 := jnO_congr (fun x hx => by simp only [h x hx])
  rw [h2]
  congr 1
  unfold srO
  generalize (pt T t).kids = ks at *
  cases ks with
  | nil => simp
  | cons x r =>
    simp only [List.getD_cons_zero]
    rw [h x (List.mem_cons_self ..)]
theorem tyF_is {T : List Pt} (hG : GdS T) {t : Nat} (ht : t < T.length) : tyF T t = tyS T (tyF T) t := by
  show (if t = t then tyS T (tyN T t) t else _) = _
  rw [if_pos rfl]
  exact tyS_congr (fun x hx => by
    have := hG.kid t ht x hx
    exact tyN_is T t _ (by omega))
theorem brN_is {T : List Pt} (hG : GdS T) {t : Nat} (ht : t < T.length) (sc : Int) : brO T (fun j => (tyN T t j).1) (fun j => (tyN T t j).2) t sc = brO T (fun j => (tyF T j).1) (fun j => (tyF T j).2) t sc :=
  brO_congr (hG.shp t ht) (fun x hx => by
    have := hG.kid t ht x hx
    have e := tyN_is T t x.toNat (by omega)
    exact ⟨by simp only [e], by simp only [e]⟩)
/-- What the rules hold against the part t. -/
def brF (T : List Pt) (sc : Int) (t : Nat) : Option (Nat × Int) := brO T (fun j => (tyF T j).1) (fun j => (tyF T j).2) t sc
theorem frs_all {T : List Pt} (hG : GdS T) {sp : Nat → Int} : ∀ k, k ≤ T.length → (frs T sp k = none ↔ ∀ j, j < k → brF T (sp j) j = none)
  | 0, _ => ⟨fun _ j hj => absurd hj (Nat.not_lt_zero j), fun _ => rfl⟩
  | k + 1, hk => by
    have ih := frs_all hG (sp := sp) k (by omega)
    have hb := brN_is hG (t := k) (by omega) (sp k)
    constructor
    · intro h
      cases h1 : frs T sp k with
      | some e => rw [frs_some h1] at h; cases h
      | none =>
        rw [frs_none h1, hb] at h
        intro j hj
        by_cases e : j = k
        · subst e; exact h
        · exact ih.1 h1 j (by omega)
    · intro h
      have h1 := ih.2 (fun j hj => h j (by omega))
      rw [frs_none h1, hb]
      exact h k (by omega)
theorem frs_first {T : List Pt} (hG : GdS T) {sp : Nat → Int} {e : Nat × Int} : ∀ k, k ≤ T.length → (frs T sp k = some e ↔ ∃ j, j < k ∧ brF T (sp j) j = some e ∧ ∀ i, i < j → brF T (sp i) i = none)
  | 0, _ => ⟨(fun h => by cases h), fun ⟨j, h, _⟩ => absurd h (Nat.not_lt_zero j)⟩
  | k + 1, hk => by
    have ih := frs_first hG (sp := sp) (e := e) k (by omega)
    have hb := brN_is hG (t := k) (by omega) (sp k)
    constructor
    · intro h
      cases h1 : frs T sp k with
      | some e' =>
        rw [frs_some h1] at h
        cases h
        obtain ⟨j, h2, h3⟩ := ih.1 h1
        exact ⟨j, by omega, h3⟩
      | none =>
        rw [frs_none h1, hb] at h
        exact ⟨k, by omega, h, (frs_all hG k (by omega)).1 h1⟩
    · rintro ⟨j, h1, h2, h3⟩
      by_cases hj : j < k
      · exact frs_some (ih.2 ⟨j, hj, h2, h3⟩)
      · obtain rfl : j = k := by omega
        have h4 := (frs_all hG (sp := sp) j (by omega)).2 h3
        rw [frs_none h4, hb]
        exact h2
end Go.Proofs.YtiddnjjaidiohaaGreatDoor.L
namespace Go.Proofs.YtiddnjjaidiohaaGreatDoor.L
open Go.RowKit
set_option linter.unusedVariables false
theorem fre_up (T : List Pt) : ∀ i, (fre T i).Pairwise (· < ·)
  | 0 => by simp [fre]
  | i + 1 => by
    rw [fre, List.pairwise_append]
    refine ⟨(fre_up T i).sublist (List.take_sublist _ _), List.pairwise_singleton _ _, fun x hx y hy => ?_⟩
    have h1 := fre_mem T i x (List.mem_of_mem_take hx)
    have h2 : y = i := by simpa using hy
    omega
theorem fre_gone {T : List Pt} {i : Nat} (hO : OkA T i) {x : Int} (hx : x ∈ (pt T i).kids) : ∀ j, i < j → x ∉ fre T j := by
  have hlt := hO.lt hx
  intro j
  induction j with
  | zero => intro h; omega
  | succ j ih =>
    intro h hm
    rw [fre, List.mem_append] at hm
    by_cases e : i < j
    · rcases hm with hm | hm
      · exact ih e (List.mem_of_mem_take hm)
      · have : x = j := by simpa using hm
        omega
    · obtain rfl : i = j := by omega
      rcases hm with hm | hm
      · have hu := fre_up T i
        rw [← List.take_append_drop ((fre T i).length - (pt T i).kids.length) (fre T i), List.pairwise_append] at hu
        have := hu.2.2 x hm x (by rw [← hO.kids]; exact hx)
        omega
      · have : x = i := by simpa using hm
        omega
/-- A kid has one part over it. -/
theorem kid_one {T : List Pt} (h0 : Ok0 T) {i j : Nat} (hi : i < T.length) (hj : j < T.length) {x : Int} (h1 : x ∈ (pt T i).kids) (h2 : x ∈ (pt T j).kids) : i = j := by
  have hk : ∀ {j : Nat}, j < T.length → x ∈ (pt T j).kids → x ∈ fre T j := fun hj h => by
    rw [(h0 _ hj).kids] at h
    exact List.mem_of_mem_drop h
  rcases Nat.lt_trichotomy i j with h | h | h
  · exact absurd (hk hj h2) (fre_gone (h0 i hi) h1 j h)
  · exact h
  · exact absurd (hk hi h1) (fre_gone (h0 j hj) h2 i h)
/-- The scopes as they are told from the last part down. -/
def scN (T : List Pt) (sc d : Int) : Nat → Nat → Int
  | 0 => fun j => if j = T.length - 1 then sc else d
  | k + 1 => fun j => if (j : Int) ∈ (pt T (T.length - 1 - k)).kids then scpO (pt T (T.length - 1 - k)).kind (scN T sc d k (T.length - 1 - k)) else scN T sc d k j
/-- What no part from here on has for a kid stays. -/
theorem scN_stay {T : List Pt} {sc d : Int} {j : Nat} : ∀ {m k : Nat}, k ≤ m → (∀ q, k ≤ q → q < m → (j : Int) ∉ (pt T (T.length - 1 - q)).kids) → scN T sc d m j = scN T sc d k j
  | 0, k, h, _ => by obtain rfl : k = 0 := by omega
                     rfl
  | m + 1, k, h, hn => by
    by_cases e : k = m + 1
    · rw [e]
    · show (if _ then _ else scN T sc d m j) = _
      rw [if_neg (hn m (by omega) (by omega))]
      exact scN_stay (by omega) (fun q h1 h2 => hn q h1 (by omega))
theorem scN_ok {T : List Pt} (h0 : Ok0 T) (h1 : 1 ≤ T.length) (sc d : Int) : Scp T sc (scN T sc d T.length) := by
  have hlt : ∀ {i : Nat}, i < T.length → ∀ {x : Nat}, (x : Int) ∈ (pt T i).kids → x < i := fun hi x hx => by
    have := (h0 _ hi).lt hx
    omega
  constructor
  · have : scN T sc d T.length (T.length - 1) = scN T sc d 0 (T.length - 1) := scN_stay (Nat.zero_le _) (fun q _ h2 hm => by
      have := hlt (by omega) hm
      omega)
    rw [this]
    show (if _ then _ else _) = _
    rw [if_pos rfl]
  · intro i hi x hx
    have hxi := hlt hi hx
    obtain ⟨k, hk⟩ : ∃ k, k = T.length - 1 - i := ⟨_, rfl⟩
    have e1 : T.length - 1 - k = i := by omega
    have s1 : scN T sc d T.length x = scN T sc d (k + 1) x := scN_stay (by omega) (fun q h1 h2 hm => by
      have := kid_one h0 (by omega) hi hm hx
      omega)
    have s2 : scN T sc d T.length i = scN T sc d k i := scN_stay (by omega) (fun q h1 h2 hm => by
      have := hlt (by omega) hm
      omega)
    rw [s1, s2]
    show (if _ then _ else _) = _
    rw [e1, if_pos hx]
theorem scN_mem {T : List Pt} {sc : Int} (h : sc = 2 ∨ sc = 3) : ∀ (k j : Nat), scN T sc sc k j = 2 ∨ scN T sc sc k j = 3
  | 0, j => by
    show (if j = T.length - 1 then sc else sc) = 2 ∨ (if j = T.length - 1 then sc else sc) = 3
    rw [ite_self]
    exact h
  | k + 1, j => by
    have h1 := scN_mem (T := T) h k (T.length - 1 - k)
    have h2 := scN_mem (T := T) h k j
    simp only [scN]
    split
    · unfold scpO
      split
      · exact .inr rfl
      · exact h1
    · exact h2
/-- The scope of each part (the tree's own where nobody has told it). -/
def spF (T : List Pt) (sc : Int) : Nat → Int := scN T sc sc T.length
theorem spF_ok {T : List Pt} (h0 : Ok0 T) (h1 : 1 ≤ T.length) (sc : Int) : Scp T sc (spF T sc) := scN_ok h0 h1 sc sc
theorem spF_mem (T : List Pt) {sc : Int} (h : sc = 2 ∨ sc = 3) (j : Nat) : spF T sc j = 2 ∨ spF T sc j = 3 := scN_mem h _ j
/-- Check of a tree that layer 13 takes: the types, or the first fault. -/
theorem ck_yes {T : List Pt} {sc : Int} {sp : Nat → Int} (hr : Res T 0 0) (hs : Scp T sc sp) (h : ∀ j, j < T.length → brF T (sp j) j = none) : (ovS T sc).2 = none ∧ ∀ j, j < T.length → (ovS T sc).1 j = tyF T j := by
  obtain ⟨h1, h2, h3, _⟩ := res_ok hr
  have hG := gds_of h3 h2
  obtain ⟨k1, k2⟩ := ovS_is hr hs
  have hn := (frs_all hG (sp := sp) T.length (Nat.le_refl _)).2 h
  exact ⟨k1.trans hn, k2 hn⟩
theorem ck_no {T : List Pt} {sc : Int} {sp : Nat → Int} {e : Nat × Int} {j : Nat} (hr : Res T 0 0) (hs : Scp T sc sp) (hj : j < T.length) (he : brF T (sp j) j = some e) (h : ∀ i, i < j → brF T (sp i) i = none) : (ovS T sc).2 = some e := by
  obtain ⟨h1, h2, h3, _⟩ := res_ok hr
  have hG := gds_of h3 h2
  rw [(ovS_is hr hs).1]
  exact (frs_first hG (sp := sp) T.length (Nat.le_refl _)).2 ⟨j, hj, he, h⟩
theorem ck_ok {T : List Pt} {sc : Int} {sp : Nat → Int} (hr : Res T 0 0) (hs : Scp T sc sp) (h : (ovS T sc).2 = none) : (∀ j, j < T.length → brF T (sp j) j = none) ∧ ∀ j, j < T.length → (ovS T sc).1 j = tyF T j := by
  obtain ⟨h1, h2, h3, _⟩ := res_ok hr
  have hG := gds_of h3 h2
  obtain ⟨k1, k2⟩ := ovS_is hr hs
  have hn := k1.symm.trans h
  exact ⟨(frs_all hG (sp := sp) T.length (Nat.le_refl _)).1 hn, k2 hn⟩
theorem ck_err {T : List Pt} {sc : Int} {sp : Nat → Int} {e : Nat × Int} (hr : Res T 0 0) (hs : Scp T sc sp) (h : (ovS T sc).2 = some e) : ∃ j, j < T.length ∧ brF T (sp j) j = some e ∧ ∀ i, i < j → brF T (sp i) i = none := by
  obtain ⟨h1, h2, h3, _⟩ := res_ok hr
  have hG := gds_of h3 h2
  obtain ⟨k1, k2⟩ := ovS_is hr hs
  exact (frs_first hG (sp := sp) T.length (Nat.le_refl _)).1 (k1.symm.trans h)
end Go.Proofs.YtiddnjjaidiohaaGreatDoor.L
namespace Go.Proofs.YtiddnjjaidiohaaGreatDoor.L
open Go.RowKit
set_option linter.unusedVariables false
/-- Of what a part itself speaks. -/
def spk (k nu : Int) : Int := if k = 14 ∨ k = 15 ∨ k = 16 then (if nu = 1 then 1 else 2) else if k = 17 ∨ k = 18 ∨ k = 10 ∨ k = 8 ∨ k = 9 ∨ k = 20 then 2 else 0
/-- Of what kids speak. -/
def mxO (m : Nat → Int) : List Int → Int → Int
  | [], a => a
  | x :: r, a => mxO m r (max a (m x.toNat))
def msN (T : List Pt) : Nat → Nat → Int
  | 0 => fun _ => 0
  | k + 1 => fun j => if j = k then mxO (msN T k) (pt T k).kids (spk (pt T k).kind (pt T k).num) else msN T k j
def msF (T : List Pt) (j : Nat) : Int := msN T (j + 1) j
theorem msN_is (T : List Pt) : ∀ (k j : Nat), j < k → msN T k j = msF T j
  | 0, j, h => absurd h (Nat.not_lt_zero j)
  | k + 1, j, h => by
    by_cases e : j = k
    · subst e; rfl
    · show (if j = k then _ else msN T k j) = _
      rw [if_neg e]
      exact msN_is T k j (by omega)
theorem mxO_congr {m m' : Nat → Int} : ∀ {ks : List Int} {a : Int}, (∀ x ∈ ks, m x.toNat = m' x.toNat) → mxO m ks a = mxO m' ks a
  | [], _, _ => rfl
  | x :: r, a, h => by
    simp only [mxO, h x (List.mem_cons_self ..)]
    exact mxO_congr (fun y hy => h y (List.mem_cons_of_mem _ hy))
theorem msF_is {T : List Pt} (hG : GdS T) {t : Nat} (ht : t < T.length) : msF T t = mxO (msF T) (pt T t).kids (spk (pt T t).kind (pt T t).num) := by
  show (if t = t then _ else _) = _
  rw [if_pos rfl]
  exact mxO_congr (fun x hx => by
    have := hG.kid t ht x hx
    exact msN_is T t _ (by omega))
/-- What a side says of that. -/
def clS (s : Int) : Int := if movB s then 2 else if s = 1 then 1 else 0
theorem clS_le (s : Int) : 0 ≤ clS s ∧ clS s ≤ 2 := by
  unfold clS
  split
  · omega
  split <;> omega
theorem mxO_two {m : Nat → Int} : ∀ {ks : List Int}, (∀ x ∈ ks, m x.toNat ≤ 2) → mxO m ks 2 = 2
  | [], _ => rfl
  | x :: r, h => by
    have := h x (List.mem_cons_self ..)
    have e : max 2 (m x.toNat) = 2 := by omega
    simp only [mxO, e]
    exact mxO_two (fun y hy => h y (List.mem_cons_of_mem _ hy))
theorem jn_cl {si : Nat → Int} : ∀ {ks : List Int} {a : Int}, (a = 0 ∨ a = 1) → clS (jnO si ks a) = mxO (fun j => clS (si j)) ks (clS a)
  | [], _, _ => rfl
  | x :: r, a, h => by
    by_cases hm : movB (si x.toNat) = true
    · have e1 : jnO si (x :: r) a = si x.toNat := by simp only [jnO, hm, if_true]
      have e2 : clS (si x.toNat) = 2 := by unfold clS; rw [if_pos hm]
      have e3 : max (clS a) 2 = 2 := by have := clS_le a; omega
      rw [e1, e2]
      simp only [mxO, e2, e3]
      exact (mxO_two (fun y _ => (clS_le _).2)).symm
    · have e1 : jnO si (x :: r) a = jnO si r (if si x.toNat = 1 then 1 else a) := by simp only [jnO, hm]; rfl
      rw [e1, jn_cl (by split <;> omega)]
      simp only [mxO]
      congr 1
      have ca : clS a = a := by rcases h with rfl | rfl <;> decide
      by_cases h1 : si x.toNat = 1
      · rw [if_pos h1, h1, ca]
        have : clS 1 = 1 := by decide
        rw [this]
        omega
      · have e2 : clS (si x.toNat) = 0 := by unfold clS; rw [if_neg hm, if_neg h1]
        rw [if_neg h1, e2, ca]
        omega
theorem kb_none {T : List Pt} {t : Nat} (h : tabD T (pt T t)) (hk : (pt T t).kind = 14 ∨ (pt T t).kind = 15 ∨ (pt T t).kind = 16 ∨ (pt T t).kind = 17 ∨ (pt T t).kind = 18) : (pt T t).kids = [] := by
  have a := h.1
  unfold kidsB at a
  rw [if_neg (by omega), if_neg (by omega), if_neg (by omega), if_neg (by omega)] at a
  simpa using a
theorem brF_as {T : List Pt} {sc : Int} {t : Nat} (hk : (pt T t).kind ≠ 6 ∧ (pt T t).kind ≠ 7 ∧ (pt T t).kind ≠ 13 ∧ (pt T t).kind ≠ 19) : brF T sc t = asO (pt T t).kind (pt T t).num sc (pt T t).text t := by
  unfold brF brO
  rw [if_neg hk.1, if_neg hk.2.1, if_neg hk.2.2.1, if_neg hk.2.2.2]
theorem asO_kn {k nu sc : Int} {tx : ByteArray} {t : Int} (h : asO k nu sc tx t = none) : knB k nu sc = true := by
  unfold asO at h
  split at h
  · split at h <;> cases h
  · rename_i h1
    simpa using h1
theorem most_is {T : List Pt} (hG : GdS T) (h0 : Ok0 T) {sp : Nat → Int} (hsp : ∀ j, sp j = 2 ∨ sp j = 3) (hb : ∀ j, j < T.length → brF T (sp j) j = none) : ∀ t, t < T.length → msF T t = clS (tyF T t).2 := by
  intro t
  induction t using Nat.strongRecOn with
  | _ t ih =>
    intro ht
    have hkid : ∀ x ∈ (pt T t).kids, msF T x.toNat = clS (tyF T x.toNat).2 := fun x hx => by
      have := hG.kid t ht x hx
      exact ih _ (by omega) (by omega)
    rw [msF_is hG ht, tyF_is hG ht, mxO_congr (m' := fun j => clS (tyF T j).2) hkid]
    show _ = clS (siO (pt T t).kind (pt T t).num (jnO (fun j => (tyF T j).2) (pt T t).kids 0))
    have tab := (h0 t ht).tab
    by_cases h1 : (pt T t).kind = 8 ∨ (pt T t).kind = 9 ∨ (pt T t).kind = 20 ∨ (pt T t).kind = 10
    · have e1 : spk (pt T t).kind (pt T t).num = 2 := by unfold spk; rw [if_neg (by omega), if_pos (by omega)]
      have e2 : ∀ j, siO (pt T t).kind (pt T t).num j = 2 := fun j => by unfold siO; rw [if_pos h1]
      rw [e1, e2, mxO_two (fun x _ => (clS_le _).2)]
      decide
    by_cases h2 : (pt T t).kind = 14 ∨ (pt T t).kind = 15 ∨ (pt T t).kind = 16
    · have e2 : ∀ j, siO (pt T t).kind (pt T t).num j = (pt T t).num := fun j => by unfold siO; rw [if_neg h1, if_pos (by omega)]
      have e1 : spk (pt T t).kind (pt T t).num = if (pt T t).num = 1 then 1 else 2 := by unfold spk; rw [if_pos h2]
      rw [e1, e2, kb_none tab (by omega)]
      have hk := asO_kn ((brF_as (by omega)).symm.trans (hb t ht))
      unfold knB at hk
      rw [if_neg h1, if_neg (by omega), if_pos h2] at hk
      show (if _ then _ else _) = _
      by_cases h3 : (pt T t).num = 1
      · rw [if_pos h3, h3]; decide
      · rw [if_neg h3]
        have : (pt T t).num = sp t := by simpa [h3] using hk
        rw [this]
        rcases hsp t with e | e <;> rw [e] <;> decide
    by_cases h3 : (pt T t).kind = 17 ∨ (pt T t).kind = 18
    · have e2 : ∀ j, siO (pt T t).kind (pt T t).num j = (pt T t).num := fun j => by unfold siO; rw [if_neg h1, if_pos (by omega)]
      have e1 : spk (pt T t).kind (pt T t).num = 2 := by unfold spk; rw [if_neg h2, if_pos (by omega)]
      rw [e1, e2, kb_none tab (by omega)]
      have hk := asO_kn ((brF_as (by omega)).symm.trans (hb t ht))
      unfold knB at hk
      rw [if_neg h1, if_pos h3] at hk
      have : (pt T t).num = 2 := by simp at hk; exact hk.1
      rw [this]
      rfl
    · have e2 : ∀ j, siO (pt T t).kind (pt T t).num j = j := fun j => by unfold siO; rw [if_neg h1, if_neg (by omega)]
      have e1 : spk (pt T t).kind (pt T t).num = 0 := by unfold spk; rw [if_neg h2, if_neg (by omega)]
      rw [e1, e2, jn_cl (.inl rfl)]
      rfl
/-- Where a part does not move the scope does not matter. -/
theorem brF_free {T : List Pt} (hG : GdS T) {sc sc' : Int} {t : Nat} (ht : t < T.length) (hm : movB (tyF T t).2 = false) (hs : sc = 2 ∨ sc = 3) (h : brF T sc t = none) : brF T sc' t = none := by
  rw [tyF_is hG ht] at hm
  have hm2 : movB (siO (pt T t).kind (pt T t).num (jnO (fun j => (tyF T j).2) (pt T t).kids 0)) = false := hm
  by_cases hk : (pt T t).kind ≠ 6 ∧ (pt T t).kind ≠ 7 ∧ (pt T t).kind ≠ 13 ∧ (pt T t).kind ≠ 19
  · rw [brF_as hk] at h ⊢
    have hkn := asO_kn h
    have e : knB (pt T t).kind (pt T t).num sc' = true := by
      unfold knB at hkn ⊢
      unfold siO at hm2
      by_cases h1 : (pt T t).kind = 8 ∨ (pt T t).kind = 9 ∨ (pt T t).kind = 20 ∨ (pt T t).kind = 10
      · rw [if_pos h1] at hm2; cases hm2
      rw [if_neg h1] at hm2 hkn ⊢
      by_cases h2 : (pt T t).kind = 17 ∨ (pt T t).kind = 18
      · rw [if_pos h2] at hkn
        rw [if_pos (by omega)] at hm2
        have : (pt T t).num = 2 := by simp at hkn; exact hkn.1
        rw [this] at hm2; cases hm2
      rw [if_neg h2] at hkn ⊢
      by_cases h3 : (pt T t).kind = 14 ∨ (pt T t).kind = 15 ∨ (pt T t).kind = 16
      · rw [if_pos h3] at hkn ⊢
        rw [if_pos (by omega)] at hm2
        by_cases h4 : (pt T t).num = 1
        · simp [h4]
        · have : (pt T t).num = sc := by simpa [h4] using hkn
          rw [this] at hm2
          rcases hs with rfl | rfl <;> cases hm2
      · rw [if_neg h3]
    unfold asO at h ⊢
    rw [e]
    rw [hkn] at h
    exact h
  · unfold brF brO at h ⊢
    by_cases a : (pt T t).kind = 6
    · rw [if_pos a] at h ⊢; exact h
    rw [if_neg a] at h ⊢
    by_cases b : (pt T t).kind = 7
    · rw [if_pos b] at h ⊢; exact h
    rw [if_neg b] at h ⊢
    by_cases c : (pt T t).kind = 13
    · rw [if_pos c] at h ⊢; exact h
    rw [if_neg c] at h ⊢
    rw [if_pos (by omega)] at h ⊢
    exact h
/-- A tree that is taken: of what a part speaks, by its side. -/
theorem ck_most {T : List Pt} {sc : Int} (hr : Res T 0 0) (hs : sc = 2 ∨ sc = 3) (h : (ovS T sc).2 = none) : ∀ j, j < T.length → msF T j = clS ((ovS T sc).1 j).2 := by
  obtain ⟨h1, h2, h3, _⟩ := res_ok hr
  have hG := gds_of h3 h2
  obtain ⟨k1, k2⟩ := ck_ok hr (spF_ok h3 h1 sc) h
  intro j hj
  rw [k2 j hj]
  exact most_is hG h3 (spF_mem T hs) k1 j hj
/-- Where nothing moves the other scope takes it too. -/
theorem ck_free {T : List Pt} {sc sc' : Int} (hr : Res T 0 0) (hs : sc = 2 ∨ sc = 3) (h : (ovS T sc).2 = none) (hn : ∀ j, j < T.length → msF T j ≠ 2) : (ovS T sc').2 = none ∧ ∀ j, j < T.length → (ovS T sc').1 j = (ovS T sc).1 j := by
  obtain ⟨h1, h2, h3, _⟩ := res_ok hr
  have hG := gds_of h3 h2
  obtain ⟨k1, k2⟩ := ck_ok hr (spF_ok h3 h1 sc) h
  have hm := most_is hG h3 (spF_mem T hs) k1
  obtain ⟨k3, k4⟩ := ck_yes (sc := sc') hr (spF_ok h3 h1 sc') (fun j hj => brF_free hG hj (by
    cases hv : movB (tyF T j).2 with
    | false => rfl
    | true => exact absurd (by rw [hm j hj]; unfold clS; rw [if_pos hv]) (hn j hj)) (spF_mem T hs j) (k1 j hj))
  exact ⟨k3, fun j hj => by rw [k4 j hj, k2 j hj]⟩
end Go.Proofs.YtiddnjjaidiohaaGreatDoor.L
