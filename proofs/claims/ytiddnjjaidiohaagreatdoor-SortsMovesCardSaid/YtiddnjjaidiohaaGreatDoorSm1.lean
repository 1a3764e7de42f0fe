import Derived.Test.YtiddnjjaidiohaaGreatDoorSd3
namespace Go.Proofs.YtiddnjjaidiohaaGreatDoor.L
open Go.RowKit
set_option linter.unusedVariables false
/-- Of what a part itself speaks. -/
def spk (k nu : Int) : Int := if k = 14 ∨ k = 15 ∨ k = 16 then (if nu = 1 then 1 else 2) else if k = 17 ∨ k = 18 ∨ k = 10 ∨ k = 8 ∨ k = 9 ∨ k = 20 then 2 else 0
/-- Of what kids speak. -/
def mxO (m : Nat → Int) : List Int → Int → Int
  | [], a => a
  | x :: r, a => mxO m r (max a (m x.toNat))
def msN (T : List Pt) : Nat → Nat → Int
  | 0 => fun _ => 0
  | k + 1 => fun j => if j = k then mxO (msN T k) (pt T k).kids (spk (pt T k).kind (pt T k).num) else msN T k j
def msF (T : List Pt) (j : Nat) : Int := msN T (j + 1) j
theorem msN_is (T : List Pt) : ∀ (k j : Nat), j < k → msN T k j = msF T j
  | 0, j, h => absurd h (Nat.not_lt_zero j)
  | k + 1, j, h => by
    by_cases e : j = k
    · subst e; rfl
    · show (if j = k then _ else msN T k j) = _
      rw [if_neg e]
      exact msN_is T k j (by omega)
theorem mxO_congr {m m' : Nat → Int} : ∀ {ks : List Int} {a : Int}, (∀ x ∈ ks, m x.toNat = m' x.toNat) → mxO m ks a = mxO m' ks a
  | [], _, _ => rfl
  | x :: r, a, h => by
    simp only [mxO, h x (List.mem_cons_self ..)]
    exact mxO_congr (fun y hy => h y (List.mem_cons_of_mem _ hy))
theorem msF_is {T : List Pt} (hG : GdS T) {t : Nat} (ht : t < T.length) : msF T t = mxO (msF T) (pt T t).kids (spk (pt T t).kind (pt T t).num) := by
  show (if t = t then _ else _) = _
  rw [if_pos rfl]
  exact mxO_congr (fun x hx => by
    have := hG.kid t ht x hx
    exact msN_is T t _ (by omega))
/-- What a side says of that. -/
def clS (s : Int) : Int := if movB s then 2 else if s = 1 then 1 else 0
theorem clS_le (s : Int) : 0 ≤ clS s ∧ clS s ≤ 2 := by
  unfold clS
  split
  · omega
  split <;> omega
theorem mxO_two {m : Nat → Int} : ∀ {ks : List Int}, (∀ x ∈ ks, m x.toNat ≤ 2) → mxO m ks 2 = 2
  | [], _ => rfl
  | x :: r, h => by
    have := h x (List.mem_cons_self ..)
    have e : max 2 (m x.toNat) = 2 := by omega
    simp only [mxO, e]
    exact mxO_two (fun y hy => h y (List.mem_cons_of_mem _ hy))
theorem jn_cl {si : Nat → Int} : ∀ {ks : List Int} {a : Int}, (a = 0 ∨ a = 1) → clS (jnO si ks a) = mxO (fun j => clS (si j)) ks (clS a)
  | [], _, _ => rfl
  | x :: r, a, h => by
    by_cases hm : movB (si x.toNat) = true
    · have e1 : jnO si (x :: r) a = si x.toNat := by simp only [jnO, hm, if_true]
      have e2 : clS (si x.toNat) = 2 := by unfold clS; rw [if_pos hm]
      have e3 : max (clS a) 2 = 2 := by have := clS_le a; omega
      rw [e1, e2]
      simp only [mxO, e2, e3]
      exact (mxO_two (fun y _ => (clS_le _).2)).symm
    · have e1 : jnO si (x :: r) a = jnO si r (if si x.toNat = 1 then 1 else a) := by simp only [jnO, hm]; rfl
      rw [e1, jn_cl (by split <;> omega)]
      simp only [mxO]
      congr 1
      have ca : clS a = a := by rcases h with rfl | rfl <;> decide
      by_cases h1 : si x.toNat = 1
      · rw [if_pos h1, h1, ca]
        have : clS 1 = 1 := by decide
        rw [this]
        omega
      · have e2 : clS (si x.toNat) = 0 := by unfold clS; rw [if_neg hm, if_neg h1]
        rw [if_neg h1, e2, ca]
        omega
theorem kb_none {T : List Pt} {t : Nat} (h : tabD T (pt T t)) (hk : (pt T t).kind = 14 ∨ (pt T t).kind = 15 ∨ (pt T t).kind = 16 ∨ (pt T t).kind = 17 ∨ (pt T t).kind = 18) : (pt T t).kids = [] := by
  have a := h.1
  unfold kidsB at a
  rw [if_neg (by omega), if_neg (by omega), if_neg (by omega), if_neg (by omega)] at a
  simpa using a
theorem brF_as {T : List Pt} {sc : Int} {t : Nat} (hk : (pt T t).kind ≠ 6 ∧ (pt T t).kind ≠ 7 ∧ (pt T t).kind ≠ 13 ∧ (pt T t).kind ≠ 19) : brF T sc t = asO (pt T t).kind (pt T t).num sc (pt T t).text t := by
  unfold brF brO
  rw [if_neg hk.1, if_neg hk.2.1, if_neg hk.2.2.1, if_neg hk.2.2.2]
theorem asO_kn {k nu sc : Int} {tx : ByteArray} {t : Int} (h : asO k nu sc tx t = none) : knB k nu sc = true := by
  unfold asO at h
  split at h
  · split at h <;> cases h
  · rename_i h1
    simpa using h1
theorem most_is {T : List Pt} (hG : GdS T) (h0 : Ok0 T) {sp : Nat → Int} (hsp : ∀ j, sp j = 2 ∨ sp j = 3) (hb : ∀ j, j < T.length → brF T (sp j) j = none) : ∀ t, t < T.length → msF T t = clS (tyF T t).2 := by
  intro t
  induction t using Nat.strongRecOn with
  | _ t ih =>
    intro ht
    have hkid : ∀ x ∈ (pt T t).kids, msF T x.toNat = clS (tyF T x.toNat).2 := fun x hx => by
      have := hG.kid t ht x hx
      exact ih _ (by omega) (by omega)
    rw [msF_is hG ht, tyF_is hG ht, mxO_congr (m' := fun j => clS (tyF T j).2) hkid]
    show _ = clS (siO (pt T t).kind (pt T t).num (jnO (fun j => (tyF T j).2) (pt T t).kids 0))
    have tab := (h0 t ht).tab
    by_cases h1 : (pt T t).kind = 8 ∨ (pt T t).kind = 9 ∨ (pt T t).kind = 20 ∨ (pt T t).kind = 10
    · have e1 : spk (pt T t).kind (pt T t).num = 2 := by unfold spk; rw [if_neg (by omega), if_pos (by omega)]
      have e2 : ∀ j, siO (pt T t).kind (pt T t).num j = 2 := fun j => by unfold siO; rw [if_pos h1]
      rw [e1, e2, mxO_two (fun x _ => (clS_le _).2)]
      decide
    by_cases h2 : (pt T t).kind = 14 ∨ (pt T t).kind = 15 ∨ (pt T t).kind = 16
    · have e2 : ∀ j, siO (pt T t).kind (pt T t).num j = (pt T t).num := fun j => by unfold siO; rw [if_neg h1, if_pos (by omega)]
      have e1 : spk (pt T t).kind (pt T t).num = if (pt T t).num = 1 then 1 else 2 := by unfold spk; rw [if_pos h2]
      rw [e1, e2, kb_none tab (by omega)]
      have hk := asO_kn ((brF_as (by omega)).symm.trans (hb t ht))
      unfold knB at hk
      rw [if_neg h1, if_neg (by omega), if_pos h2] at hk
      show (if _ then _ else _) = _
      by_cases h3 : (pt T t).num = 1
      · rw [if_pos h3, h3]; decide
      · rw [if_neg h3]
        have : (pt T t).num = sp t := by simpa [h3] using hk
        rw [this]
        rcases hsp t with e | e <;> rw [e] <;> decide
    by_cases h3 : (pt T t).kind = 17 ∨ (pt T t).kind = 18
    · have e2 : ∀ j, siO (pt T t).kind (pt T t).num j = (pt T t).num := fun j => by unfold siO; rw [if_neg h1, if_pos (by omega)]
      have e1 : spk (pt T t).kind (pt T t).num = 2 := by unfold spk; rw [if_neg h2, if_pos (by omega)]
      rw [e1, e2, kb_none tab (by omega)]
      have hk := asO_kn ((brF_as (by omega)).symm.trans (hb t ht))
      unfold knB at hk
      rw [if_neg h1, if_pos h3] at hk
      have : (pt T t).num = 2 := by simp at hk; exact hk.1
      rw [this]
      rfl
    · have e2 : ∀ j, siO (pt T t).kind (pt T t).num j = j := fun j => by unfold siO; rw [if_neg h1, if_neg (by omega)]
      have e1 : spk (pt T t).kind (pt T t).num = 0 := by unfold spk; rw [if_neg h2, if_neg (by omega)]
      rw [e1, e2, jn_cl (.inl rfl)]
      rfl
/-- Where a part does not move the scope does not matter. -/
theorem brF_free {T : List Pt} (hG : GdS T) {sc sc' : Int} {t : Nat} (ht : t < T.length) (hm : movB (tyF T t).2 = false) (hs : sc = 2 ∨ sc = 3) (h : brF T sc t = none) : brF T sc' t = none := by
  rw [tyF_is hG ht] at hm
  have hm2 : movB (siO (pt T t).kind (pt T t).num (jnO (fun j => (tyF T j).2) (pt T t).kids 0)) = false := hm
  by_cases hk : (pt T t).kind ≠ 6 ∧ (pt T t).kind ≠ 7 ∧ (pt T t).kind ≠ 13 ∧ (pt T t).kind ≠ 19
  · rw [brF_as hk] at h ⊢
    have hkn := asO_kn h
    have e : knB (pt T t).kind (pt T t).num sc' = true := by
      unfold knB at hkn ⊢
      unfold siO at hm2
      by_cases h1 : (pt T t).kind = 8 ∨ (pt T t).kind = 9 ∨ (pt T t).kind = 20 ∨ (pt T t).kind = 10
      · rw [if_pos h1] at hm2; cases hm2
      rw [if_neg h1] at hm2 hkn ⊢
      by_cases h2 : (pt T t).kind = 17 ∨ (pt T t).kind = 18
      · rw [if_pos h2] at hkn
        rw [if_pos (by omega)] at hm2
        have : (pt T t).num = 2 := by simp at hkn; exact hkn.1
        rw [this] at hm2; cases hm2
      rw [if_neg h2] at hkn ⊢
      by_cases h3 : (pt T t).kind = 14 ∨ (pt T t).kind = 15 ∨ (pt T t).kind = 16
      · rw [if_pos h3] at hkn ⊢
        rw [if_pos (by omega)] at hm2
        by_cases h4 : (pt T t).num = 1
        · simp [h4]
        · have : (pt T t).num = sc := by simpa [h4] using hkn
          rw [this] at hm2
          rcases hs with rfl | rfl <;> cases hm2
      · rw [if_neg h3]
    unfold asO at h ⊢
    rw [e]
    rw [hkn] at h
    exact h
  · unfold brF brO at h ⊢
    by_cases a : (pt T t).kind = 6
    · rw [if_pos a] at h ⊢; exact h
    rw [if_neg a] at h ⊢
    by_cases b : (pt T t).kind = 7
    · rw [if_pos b] at h ⊢; exact h
    rw [if_neg b] at h ⊢
    by_cases c : (pt T t).kind = 13
    · rw [if_pos c] at h ⊢; exact h
    rw [if_neg c] at h ⊢
    rw [if_pos (by omega)] at h ⊢
    exact h
/-- A tree that is taken: of what a part speaks, by its side. -/
theorem ck_most {T : List Pt} {sc : Int} (hr : Res T 0 0) (hs : sc = 2 ∨ sc = 3) (h : (ovS T sc).2 = none) : ∀ j, j < T.length → msF T j = clS ((ovS T sc).1 j).2 := by
  obtain ⟨h1, h2, h3, _⟩ := res_ok hr
  have hG := gds_of h3 h2
  obtain ⟨k1, k2⟩ := ck_ok hr (spF_ok h3 h1 sc) h
  intro j hj
  rw [k2 j hj]
  exact most_is hG h3 (spF_mem T hs) k1 j hj
/-- Where nothing moves the other scope takes it too. -/
theorem ck_free {T : List Pt} {sc sc' : Int} (hr : Res T 0 0) (hs : sc = 2 ∨ sc = 3) (h : (ovS T sc).2 = none) (hn : ∀ j, j < T.length → msF T j ≠ 2) : (ovS T sc').2 = none ∧ ∀ j, j < T.length → (ovS T sc').1 j = (ovS T sc).1 j := by
  obtain ⟨h1, h2, h3, _⟩ := res_ok hr
  have hG := gds_of h3 h2
  obtain ⟨k1, k2⟩ := ck_ok hr (spF_ok h3 h1 sc) h
  have hm := most_is hG h3 (spF_mem T hs) k1
  obtain ⟨k3, k4⟩ := ck_yes (sc := sc') hr (spF_ok h3 h1 sc') (fun j hj => brF_free hG hj (by
    cases hv : movB (tyF T j).2 with
    | false => rfl
    | true => exact absurd (by rw [hm j hj]; unfold clS; rw [if_pos hv]) (hn j hj)) (spF_mem T hs j) (k1 j hj))
  exact ⟨k3, fun j hj => by rw [k4 j hj, k2 j hj]⟩
end Go.Proofs.YtiddnjjaidiohaaGreatDoor.L
