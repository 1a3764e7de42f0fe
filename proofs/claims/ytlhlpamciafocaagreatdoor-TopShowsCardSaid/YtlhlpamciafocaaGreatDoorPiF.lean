import Derived.Test.YtlhlpamciafocaaGreatDoorMgAV
namespace Go.Proofs.YtlhlpamciafocaaGreatDoor.L
open Go.RowKit Go.Shelf
set_option linter.unusedVariables false
set_option linter.unusedSimpArgs false
/-- The tokens of part y read as what stands up to y. -/
def Rb (P : List Pt) (y : Nat) : Prop := ∀ (T : List Tok) (a d ns : Nat) (os : List Int), Chn P a (pt P y).kids y → Kx T d (tkp P y) → (ns : Int) = (nests P).getD y 0 →
  (11 ≤ (pt P y).kind → Ht (tk T d) ∧ Gd (fun n => gr T n .term ⟨d, ns, P.take a, os⟩) (y : Int) (d + (tkp P y).length) ns (P.take (y + 1))) ∧
  ((pt P y).kind ≤ 10 → (pt P y).kind ≠ 4 → (pt P y).kind ≠ 5 → Gd (fun n => gr T n .unit ⟨d, ns, P.take a, os⟩) (y : Int) (d + (tkp P y).length) ns (P.take (y + 1))) ∧
  ((pt P y).kind = 4 → nm T (d + (tkp P y).length) [38, 38] = false → Gd (fun n => gr T n .conj ⟨d, ns, P.take a, os⟩) (y : Int) (d + (tkp P y).length) ns (P.take (y + 1))) ∧
  ((pt P y).kind = 5 → nm T (d + (tkp P y).length) [38, 38] = false → nm T (d + (tkp P y).length) [124, 124] = false → Gd (fun n => gr T n .expr ⟨d, ns, P.take a, os⟩) (y : Int) (d + (tkp P y).length) ns (P.take (y + 1)))
section
variable {P : List Pt} {T : List Tok}
theorem conj_of {x a d ns : Nat} {os : List Int} (R : Rb P x) (h10 : (pt P x).kind ≤ 10) (h5 : (pt P x).kind ≠ 5) (hc : Chn P a (pt P x).kids x) (hk : Kx T d (tkp P x)) (hn : (ns : Int) = (nests P).getD x 0) (m1 : nm T (d + (tkp P x).length) [38, 38] = false) : Gd (fun n => gr T n .conj ⟨d, ns, P.take a, os⟩) (x : Int) (d + (tkp P x).length) ns (P.take (x + 1)) := by
  obtain ⟨r1, r2, r3, r4⟩ := R T a d ns os hc hk hn
  by_cases h4 : (pt P x).kind = 4
  · exact r3 h4 m1
  · exact gd_conj (r2 h10 h4 h5) m1
theorem expr_of {x a d ns : Nat} {os : List Int} (R : Rb P x) (h10 : (pt P x).kind ≤ 10) (hc : Chn P a (pt P x).kids x) (hk : Kx T d (tkp P x)) (hn : (ns : Int) = (nests P).getD x 0) (m1 : nm T (d + (tkp P x).length) [38, 38] = false) (m2 : nm T (d + (tkp P x).length) [124, 124] = false) : Gd (fun n => gr T n .expr ⟨d, ns, P.take a, os⟩) (x : Int) (d + (tkp P x).length) ns (P.take (x + 1)) := by
  by_cases h5 : (pt P x).kind = 5
  · exact (R T a d ns os hc hk hn).2.2.2 h5 m1 m2
  · exact gd_expr (conj_of R h10 h5 hc hk hn m1) m2
theorem unit_paren (n : Nat) {d ns : Nat} {ps : List Pt} {os : List Int} (h : kq (tk T d) = km [40]) : gr T (n + 1) .unit ⟨d, ns, ps, os⟩ = withP T (gr T n .expr) ⟨d, ns, ps, os⟩ := by
  show unitP T (gr T n .expr) (gr T n .unit) (gr T n .term) ⟨d, ns, ps, os⟩ = _
  unfold unitP
  rw [isM_nm, isM_nm]
  show (if nm T d [33] = true then _ else if nm T d [40] = true then _ else _) = _
  rw [nm_km h, nm_km h, if_neg (by decide), if_pos (by decide)]
/-- A kid as a unit. -/
theorem unit_of {k : Int} {x a d ns : Nat} {os : List Int} (R : Rb P x) (h10 : (pt P x).kind ≤ 10) (hb : brB k (pt P x).kind = false → (pt P x).kind ≠ 4 ∧ (pt P x).kind ≠ 5) (hc : Chn P a (pt P x).kids x) (hk : Kx T d (kdt P k x)) (hn : (nests P).getD x 0 = (ns : Int) + (if brB k (pt P x).kind then 1 else 0)) (h32 : (nests P).getD x 0 ≤ 32) : Gd (fun n => gr T n .unit ⟨d, ns, P.take a, os⟩) (x : Int) (d + (kdt P k x).length) ns (P.take (x + 1)) := by
  unfold kdt at hk ⊢
  cases hB : brB k (pt P x).kind
  · rw [hB] at hk hn
    simp only [Bool.false_eq_true, if_false] at hk hn ⊢
    exact (R T a d ns os hc hk (by omega)).2.1 h10 (hb hB).1 (hb hB).2
  · rw [hB] at hk hn
    simp only [if_true] at hk hn ⊢
    obtain ⟨h0, h1⟩ := kx_cons hk
    obtain ⟨h1, h2⟩ := kx_app h1
    have h3 := kx_one h2
    rw [List.length_cons, List.length_append, List.length_singleton, show d + ((tkp P x).length + 1 + 1) = d + 1 + (tkp P x).length + 1 by omega]
    exact gd_up (gd_with (inn := fun n => gr T n .expr) h0 (by omega) (fun os => expr_of R h10 hc h1 (by rw [hn]; omega) (by rw [nm_km h3]; decide) (by rw [nm_km h3]; decide)) h3) fun n => unit_paren n h0
theorem conj_k {x a d ns : Nat} {os : List Int} (R : Rb P x) (h10 : (pt P x).kind ≤ 10) (hc : Chn P a (pt P x).kids x) (hk : Kx T d (kdt P 5 x)) (hn : (nests P).getD x 0 = (ns : Int) + (if brB 5 (pt P x).kind then 1 else 0)) (h32 : (nests P).getD x 0 ≤ 32) (m1 : nm T (d + (kdt P 5 x).length) [38, 38] = false) : Gd (fun n => gr T n .conj ⟨d, ns, P.take a, os⟩) (x : Int) (d + (kdt P 5 x).length) ns (P.take (x + 1)) := by
  by_cases h5 : (pt P x).kind = 5
  · exact gd_conj (unit_of R h10 (fun h => by rw [h5] at h; exact absurd h (by decide)) hc hk hn h32) m1
  · have hB : brB 5 (pt P x).kind = false := by unfold brB; simp [h5]
    unfold kdt at hk m1 ⊢
    rw [hB] at hk hn m1 ⊢
    simp only [Bool.false_eq_true, if_false] at hk hn m1 ⊢
    exact conj_of R h10 h5 hc hk (by omega) m1
theorem ht_of {t : Tok} {d : Nat} (h : kq (tk T d) = t) (ht : Ht t) : Ht (tk T d) := by
  subst h
  exact ht
theorem ht_kt (x : ByteArray) : Ht (kt x) := Or.inl rfl
theorem ht_kn (z : Int) : Ht (kn z) := Or.inr (Or.inl rfl)
theorem ht_set : Ht (km [123]) := Or.inr (Or.inr (Or.inl ⟨rfl, S_list _⟩))
theorem ht_kw {m : List UInt8} (h : m ≠ [116, 114, 117, 101] ∧ m ≠ [102, 97, 108, 115, 101] ∧ m ≠ [110, 101, 97, 114] ∧ m ≠ [97, 112, 97, 114, 116] ∧ m ≠ [116, 111, 108, 101, 114, 97, 116, 101, 100]) : Ht (kw m) := Or.inr (Or.inr (Or.inr ⟨rfl, by rw [show (kw m).text.toList = m from S_list m]; exact h⟩))
theorem who_ht {z : Int} (hz : z = 1 ∨ z = 2 ∨ z = 3) : Ht (kw (whoL z)) := ht_kw (by rcases hz with rfl | rfl | rfl <;> decide)
theorem one_kid {ks : List Int} {a y : Nat} (hc : Chn P a ks y) (h : ks.length = 1) : ∃ w : Nat, ks = [(w : Int)] ∧ Chn P a (pt P w).kids w ∧ y = w + 1 := by
  cases hc with
  | nil => simp at h
  | @cons _ w _ r c1 c2 =>
    have hr : r = [] := by cases r; rfl; simp at h
    subst hr
    cases c2
    exact ⟨w, rfl, c1, rfl⟩
theorem two_kids {ks : List Int} {a y : Nat} (hc : Chn P a ks y) (h : ks.length = 2) : ∃ w v : Nat, ks = [(w : Int), (v : Int)] ∧ Chn P a (pt P w).kids w ∧ Chn P (w + 1) (pt P v).kids v ∧ y = v + 1 := by
  cases hc with
  | nil => simp at h
  | @cons _ w _ r c1 c2 =>
    obtain ⟨v, e, c3, e2⟩ := one_kid c2 (by simpa using h)
    subst e
    exact ⟨w, v, rfl, c1, c3, e2⟩
theorem no_kids {ks : List Int} {a y : Nat} (hc : Chn P a ks y) (h : ks.length = 0) : ks = [] ∧ a = y := by
  cases hc with
  | nil => exact ⟨rfl, rfl⟩
  | cons c1 c2 => simp at h
theorem elt_of (hok : Ok0 P) {w : Nat} (hw : w < P.length) (h : (pt P w).kind = 11 ∨ (pt P w).kind = 12) : Elt P w := by
  have hO := hok w hw
  have hlt : ∀ x, x ∈ (pt P w).kids → 0 ≤ x ∧ x < (w : Int) := fun x hx => hO.lt hx
  have htk := tkp_eq hlt
  obtain ⟨hkb, _, _, hhb, _⟩ := hO.tab
  obtain ⟨p, hp⟩ : ∃ p, pt P w = p := ⟨_, rfl⟩
  rw [hp] at h hkb hhb htk
  obtain ⟨k, x, z, ks⟩ := p
  simp only at h hkb hhb htk
  refine ⟨hw, ?_⟩
  rcases h with rfl | rfl
  · have hks : ks = [] := by
      have h9 : ks.length = 0 := by simpa [kidsB] using hkb
      exact List.length_eq_zero_iff.1 h9
    subst hks
    obtain ⟨hx, rfl⟩ : (x.size : Int) ≤ 127 ∧ z = 0 := by simpa [holdsB] using hhb
    exact Or.inl ⟨x, hp, htk⟩
  · have hks : ks = [] := by
      have h9 : ks.length = 0 := by simpa [kidsB] using hkb
      exact List.length_eq_zero_iff.1 h9
    subst hks
    obtain ⟨hx, _⟩ : x.toList = [] ∧ -999999999999999999 ≤ z ∧ z ≤ 999999999999999999 := by simpa [holdsB] using hhb
    obtain rfl := tl_nil hx
    exact Or.inr ⟨z, hp, htk⟩
theorem rb_all (hok : Ok0 P) (hd : NoDeep P) (hL : P.length ≤ 1000) : ∀ y, y < P.length → Rb P y := by
  intro y
  induction y using Nat.strongRecOn with
  | ind y ih =>
    intro hy T a d ns os hc hk hns
    have hO := hok y hy
    have hlt : ∀ x, x ∈ (pt P y).kids → 0 ≤ x ∧ x < (y : Int) := fun x hx => hO.lt hx
    have ht := hO.tab
    have hnk : ∀ w : Nat, (w : Int) ∈ (pt P y).kids → (nests P).getD w 0 = (ns : Int) + btw (pt P y).kind (pt P w).kind := fun w hw => by rw [hns]; exact nest_kid hok hw hy
    have hdk : ∀ w : Nat, (w : Int) ∈ (pt P y).kids → (nests P).getD w 0 ≤ 32 := fun w hw => hd w (by have := hlt _ hw; omega)
    have ihk : ∀ w : Nat, (w : Int) ∈ (pt P y).kids → Rb P w ∧ w < P.length := fun w hw => by have := hlt _ hw; exact ⟨ih w (by omega) (by omega), by omega⟩
    have hkl : (pt P y).kids.length ≤ 1000 := by have h1 := hO.many; have h2 := fre_len P y; omega
    have htk := tkp_eq hlt
    rw [htk] at hk ⊢
    obtain ⟨hkb, hk1, hk20, hhb, hcl0⟩ := ht
    have hcl : ∀ w : Nat, (w : Int) ∈ (pt P y).kids → clsB (pt P y).kind (pt P w).kind = true := fun w hw => by have h9 := hcl0 (w : Int) hw; rwa [show ((w : Int).toNat) = w by omega] at h9
    clear hcl0 htk ih hO hlt
    obtain ⟨p, hp⟩ : ∃ p, pt P y = p := ⟨_, rfl⟩
    rw [hp] at hc hk hnk hdk ihk hkb hk1 hk20 hhb hcl hkl ⊢
    obtain ⟨k, x, z, ks⟩ := p
    simp only at hc hk hnk hdk ihk hkb hk1 hk20 hhb hcl hkl ⊢
    have hcase : k = 1 ∨ k = 2 ∨ k = 3 ∨ k = 4 ∨ k = 5 ∨ k = 6 ∨ k = 7 ∨ k = 8 ∨ k = 9 ∨ k = 10 ∨ k = 11 ∨ k = 12 ∨ k = 13 ∨ k = 14 ∨ k = 15 ∨ k = 16 ∨ k = 17 ∨ k = 18 ∨ k = 19 ∨ k = 20 := by omega
    clear hk1 hk20
    rcases hcase with rfl | rfl | rfl | rfl | rfl | rfl | rfl | rfl | rfl | rfl | rfl | rfl | rfl | rfl | rfl | rfl | rfl | rfl | rfl | rfl
    · refine ⟨fun h => absurd h (by decide), fun _ _ _ => ?_, fun h => absurd h (by decide), fun h => absurd h (by decide)⟩
      obtain ⟨rfl, rfl⟩ := no_kids hc (by simpa [kidsB] using hkb)
      obtain ⟨hx, rfl⟩ : x.toList = [] ∧ z = 0 := by simpa [holdsB] using hhb
      obtain rfl := tl_nil hx
      exact rd_1 hy (Or.inl ⟨rfl, rfl⟩) hp (kx_one hk)
    · refine ⟨fun h => absurd h (by decide), fun _ _ _ => ?_, fun h => absurd h (by decide), fun h => absurd h (by decide)⟩
      obtain ⟨rfl, rfl⟩ := no_kids hc (by simpa [kidsB] using hkb)
      obtain ⟨hx, rfl⟩ : x.toList = [] ∧ z = 0 := by simpa [holdsB] using hhb
      obtain rfl := tl_nil hx
      exact rd_1 hy (Or.inr ⟨rfl, rfl⟩) hp (kx_one hk)
    · refine ⟨fun h => absurd h (by decide), fun _ _ _ => ?_, fun h => absurd h (by decide), fun h => absurd h (by decide)⟩
      obtain ⟨w, rfl, c1, rfl⟩ := one_kid hc (by have h9 : (ks.length : Int) = 1 := (by simpa [kidsB] using hkb); omega)
      have hw := ihk w (by simp)
      have hcw : 1 ≤ (pt P w).kind ∧ (pt P w).kind ≤ 10 := by simpa [clsB] using hcl w (by simp)
      have hnw := hnk w (by simp)
      have hdw := hdk w (by simp)
      obtain ⟨hx, rfl⟩ : x.toList = [] ∧ z = 0 := by simpa [holdsB] using hhb
      obtain rfl := tl_nil hx
      have hbt : btw 3 (pt P w).kind = 1 + (if brB 3 (pt P w).kind then 1 else 0) := by unfold btw; rfl
      rw [hbt] at hnw
      have hk : Kx T d (km [33] :: kdt P 3 w) := hk
      obtain ⟨h0, h1⟩ := kx_cons hk
      have hB0 : (0 : Int) ≤ (if brB 3 (pt P w).kind then (1 : Int) else 0) := by split <;> omega
      show Gd _ _ (d + (km [33] :: kdt P 3 w).length) _ _
      rw [List.length_cons, show d + ((kdt P 3 w).length + 1) = d + 1 + (kdt P 3 w).length by omega]
      refine gd_up (q := fun n => negP T (gr T n .unit) ⟨d, ns, P.take a, os⟩) ?_ fun n => ?_
      · refine gd_bnd (f := fun n _ s1 => bnd (gr T n .unit s1) fun k s2 => putP (shutP s2) ⟨3, ⟨#[]⟩, 0, [k]⟩ ((tk T d).a : Int)) (gd_open h0 (by omega)) fun os1 => ?_
        refine gd_bnd (f := fun n k s2 => putP (shutP s2) ⟨3, ⟨#[]⟩, 0, [k]⟩ ((tk T d).a : Int)) (unit_of (ns := ns + 1) hw.1 hcw.2 (fun h => by simpa [brB] using h) c1 h1 (by omega) hdw) fun os2 => ?_
        exact gd_put hy hp.symm _ _ _ _
      · show unitP T (gr T n .expr) (gr T n .unit) (gr T n .term) ⟨d, ns, P.take a, os⟩ = _
        unfold unitP
        rw [isM_nm]
        show (if nm T d [33] = true then _ else _) = _
        rw [nm_km h0, if_pos (by decide)]
    · refine ⟨fun h => absurd h (by decide), fun _ h => absurd rfl h, fun _ m1 => ?_, fun h => absurd h (by decide)⟩
      obtain ⟨hx, rfl⟩ : x.toList = [] ∧ z = 0 := by simpa [holdsB] using hhb
      obtain rfl := tl_nil hx
      have h2 : (2 : Int) ≤ (ks.length : Int) := by simpa [kidsB] using hkb
      refine gd_up (q := fun n => rowP T (gr T n .unit) 4 [38, 38] ⟨d, ns, P.take a, os⟩) ?_ (fun n => rfl)
      refine row_gd (g := .unit) (kd := kdt P 4) (Nx := fun _ => True) (fun _ _ => trivial) hy hp hc (by omega) (by omega) (fun w hw => ?_) hk trivial m1
      intro a' d' os' c1 k1 _
      have hcw : 1 ≤ (pt P w).kind ∧ (pt P w).kind ≤ 10 := by simpa [clsB] using hcl w hw
      have hbt : btw 4 (pt P w).kind = 0 + (if brB 4 (pt P w).kind then 1 else 0) := by unfold btw; rfl
      have hnw := hnk w hw
      rw [hbt] at hnw
      exact unit_of (ihk w hw).1 hcw.2 (fun h => by simpa [brB] using h) c1 k1 (by omega) (hdk w hw)
    · refine ⟨fun h => absurd h (by decide), fun _ _ h => absurd rfl h, fun h => absurd h (by decide), fun _ m1 m2 => ?_⟩
      obtain ⟨hx, rfl⟩ : x.toList = [] ∧ z = 0 := by simpa [holdsB] using hhb
      obtain rfl := tl_nil hx
      have h2 : (2 : Int) ≤ (ks.length : Int) := by simpa [kidsB] using hkb
      refine gd_up (q := fun n => rowP T (gr T n .conj) 5 [124, 124] ⟨d, ns, P.take a, os⟩) ?_ (fun n => rfl)
      refine row_gd (g := .conj) (kd := kdt P 5) (Nx := fun d => nm T d [38, 38] = false) (fun d h => by rw [nm_km h]; decide) hy hp hc (by omega) (by omega) (fun w hw => ?_) hk m1 m2
      intro a' d' os' c1 k1 m3
      have hcw : 1 ≤ (pt P w).kind ∧ (pt P w).kind ≤ 10 := by simpa [clsB] using hcl w hw
      have hbt : btw 5 (pt P w).kind = 0 + (if brB 5 (pt P w).kind then 1 else 0) := by unfold btw; rfl
      have hnw := hnk w hw
      rw [hbt] at hnw
      exact conj_k (ihk w hw).1 hcw.2 c1 k1 (by omega) (hdk w hw) m3
    · refine ⟨fun h => absurd h (by decide), fun _ _ _ => ?_, fun h => absurd h (by decide), fun h => absurd h (by decide)⟩
      obtain ⟨w, v, rfl, c1, c2, rfl⟩ := two_kids hc (by have h9 : (ks.length : Int) = 2 := by simpa [kidsB] using hkb
                                                         omega)
      obtain ⟨hx, hz⟩ : x.toList = [] ∧ 1 ≤ z ∧ z ≤ 6 := by simpa [holdsB] using hhb
      obtain rfl := tl_nil hx
      have hcw : 11 ≤ (pt P w).kind ∧ (pt P w).kind ≤ 20 := by simpa [clsB] using hcl w (by simp)
      have hcv : 11 ≤ (pt P v).kind ∧ (pt P v).kind ≤ 20 := by simpa [clsB] using hcl v (by simp)
      have e1 : kdt P 6 w = tkp P w := by unfold kdt brB; simp
      have e2 : kdt P 6 v = tkp P v := by unfold kdt brB; simp
      have hk : Kx T d (kdt P 6 w ++ km (sgnL z) :: kdt P 6 v) := hk
      show Gd _ _ (d + (kdt P 6 w ++ km (sgnL z) :: kdt P 6 v).length) _ _
      rw [e1, e2] at hk ⊢
      obtain ⟨k1, k2⟩ := kx_app hk
      obtain ⟨k0, k2⟩ := kx_cons k2
      have hbt : ∀ n, btw 6 n = 0 := fun n => by unfold btw opB brB; simp
      have hnw := hnk w (by simp)
      have hnv := hnk v (by simp)
      rw [hbt] at hnw hnv
      have r1 := ((ihk w (by simp)).1 T a d ns os c1 k1 (by omega)).1 hcw.1
      rw [List.length_append, List.length_cons]
      exact comp_gd hy hp (bet_cmp k0 hz) rfl r1.2 (fun os => (((ihk v (by simp)).1 T (w + 1) _ ns os c2 k2 (by omega)).1 hcv.1).2) r1.1
    · refine ⟨fun h => absurd h (by decide), fun _ _ _ => ?_, fun h => absurd h (by decide), fun h => absurd h (by decide)⟩
      obtain ⟨w, v, rfl, c1, c2, rfl⟩ := two_kids hc (by have h9 : (ks.length : Int) = 2 := by simpa [kidsB] using hkb
                                                         omega)
      obtain ⟨hx, hz⟩ : x.toList = [] ∧ (z = 0 ∨ z = 1) := by simpa [holdsB] using hhb
      obtain rfl := tl_nil hx
      have hcw : 11 ≤ (pt P w).kind ∧ (pt P w).kind ≤ 20 := by simpa [clsB] using hcl w (by simp)
      have hcv : 11 ≤ (pt P v).kind ∧ (pt P v).kind ≤ 20 := by simpa [clsB] using hcl v (by simp)
      have e1 : kdt P 7 w = tkp P w := by unfold kdt brB; simp
      have e2 : kdt P 7 v = tkp P v := by unfold kdt brB; simp
      have hk : Kx T d (kdt P 7 w ++ kw (memL z) :: kdt P 7 v) := hk
      show Gd _ _ (d + (kdt P 7 w ++ kw (memL z) :: kdt P 7 v).length) _ _
      rw [e1, e2] at hk ⊢
      obtain ⟨k1, k2⟩ := kx_app hk
      obtain ⟨k0, k2⟩ := kx_cons k2
      have hbt : ∀ n, btw 7 n = 0 := fun n => by unfold btw opB brB; simp
      have hnw := hnk w (by simp)
      have hnv := hnk v (by simp)
      rw [hbt] at hnw hnv
      have r1 := ((ihk w (by simp)).1 T a d ns os c1 k1 (by omega)).1 hcw.1
      rw [List.length_append, List.length_cons]
      exact comp_gd hy hp (bet_in k0 hz) rfl r1.2 (fun os => (((ihk v (by simp)).1 T (w + 1) _ ns os c2 k2 (by omega)).1 hcv.1).2) r1.1
    · refine ⟨fun h => absurd h (by decide), fun _ _ _ => ?_, fun h => absurd h (by decide), fun h => absurd h (by decide)⟩
      obtain ⟨w, rfl, c1, rfl⟩ := one_kid hc (by have h9 : (ks.length : Int) = 1 := (by simpa [kidsB] using hkb); omega)
      have hw := ihk w (by simp)
      have hcw : 1 ≤ (pt P w).kind ∧ (pt P w).kind ≤ 10 := by simpa [clsB] using hcl w (by simp)
      have hnw := hnk w (by simp)
      have hdw := hdk w (by simp)
      obtain ⟨hx, rfl⟩ : (x.size : Int) ≤ 127 ∧ z = 0 := by simpa [holdsB] using hhb
      have hbt : btw 8 (pt P w).kind = 1 := by unfold btw opB brB; simp
      rw [hbt] at hnw
      have e1 : kdt P 8 w = tkp P w := by unfold kdt brB; simp
      have hk : Kx T d (kw [110, 101, 97, 114] :: km [40] :: kt x :: km [44] :: (kdt P 8 w ++ [km [41]])) := hk
      rw [e1] at hk
      obtain ⟨h0, h⟩ := kx_cons hk
      obtain ⟨h1, h⟩ := kx_cons h
      obtain ⟨h2, h⟩ := kx_cons h
      obtain ⟨h3, h⟩ := kx_cons h
      obtain ⟨h4, h5⟩ := kx_app h
      have h5 := kx_one h5
      show Gd _ _ (d + (kw [110, 101, 97, 114] :: km [40] :: kt x :: km [44] :: (kdt P 8 w ++ [km [41]])).length) _ _
      rw [e1]
      simp only [List.length_cons, List.length_append, List.length_nil]
      refine gd_up (q := fun n => selP T (gr T n .expr) 8 ⟨d, ns, P.take a, os⟩) (sel_gd (l := (tkp P w).length) hy hp rfl (by omega) h1 h2 h3 h5 (fun os => expr_of (ns := ns + 1) hw.1 hcw.2 c1 h4 (by omega) (by rw [nm_km h5]; decide) (by rw [nm_km h5]; decide))) fun n => ?_
      rw [unit_word n h0, atom_w h0, if_neg (by decide), if_neg (by decide), if_pos rfl]
    · refine ⟨fun h => absurd h (by decide), fun _ _ _ => ?_, fun h => absurd h (by decide), fun h => absurd h (by decide)⟩
      obtain ⟨w, rfl, c1, rfl⟩ := one_kid hc (by have h9 : (ks.length : Int) = 1 := (by simpa [kidsB] using hkb); omega)
      have hw := ihk w (by simp)
      have hcw : 1 ≤ (pt P w).kind ∧ (pt P w).kind ≤ 10 := by simpa [clsB] using hcl w (by simp)
      have hnw := hnk w (by simp)
      have hdw := hdk w (by simp)
      obtain ⟨hx, rfl⟩ : (x.size : Int) ≤ 127 ∧ z = 0 := by simpa [holdsB] using hhb
      have hbt : btw 9 (pt P w).kind = 1 := by unfold btw opB brB; simp
      rw [hbt] at hnw
      have e1 : kdt P 9 w = tkp P w := by unfold kdt brB; simp
      have hk : Kx T d (kw [97, 112, 97, 114, 116] :: km [40] :: kt x :: km [44] :: (kdt P 9 w ++ [km [41]])) := hk
      rw [e1] at hk
      obtain ⟨h0, h⟩ := kx_cons hk
      obtain ⟨h1, h⟩ := kx_cons h
      obtain ⟨h2, h⟩ := kx_cons h
      obtain ⟨h3, h⟩ := kx_cons h
      obtain ⟨h4, h5⟩ := kx_app h
      have h5 := kx_one h5
      show Gd _ _ (d + (kw [97, 112, 97, 114, 116] :: km [40] :: kt x :: km [44] :: (kdt P 9 w ++ [km [41]])).length) _ _
      rw [e1]
      simp only [List.length_cons, List.length_append, List.length_nil]
      refine gd_up (q := fun n => selP T (gr T n .expr) 9 ⟨d, ns, P.take a, os⟩) (sel_gd (l := (tkp P w).length) hy hp rfl (by omega) h1 h2 h3 h5 (fun os => expr_of (ns := ns + 1) hw.1 hcw.2 c1 h4 (by omega) (by rw [nm_km h5]; decide) (by rw [nm_km h5]; decide))) fun n => ?_
      rw [unit_word n h0, atom_w h0, if_neg (by decide), if_neg (by decide), if_neg (by decide), if_pos rfl]
    · refine ⟨fun h => absurd h (by decide), fun _ _ _ => ?_, fun h => absurd h (by decide), fun h => absurd h (by decide)⟩
      obtain ⟨rfl, rfl⟩ := no_kids hc (by simpa [kidsB] using hkb)
      obtain ⟨hx, rfl⟩ : (x.size : Int) ≤ 127 ∧ z = 0 := by simpa [holdsB] using hhb
      exact rd_10 hy hp hk
    · refine ⟨fun _ => ?_, fun h => absurd h (by decide), fun h => absurd h (by decide), fun h => absurd h (by decide)⟩
      obtain ⟨rfl, rfl⟩ := no_kids hc (by simpa [kidsB] using hkb)
      obtain ⟨hx, rfl⟩ : (x.size : Int) ≤ 127 ∧ z = 0 := by simpa [holdsB] using hhb
      exact ⟨ht_of (kx_one hk) (ht_kt x), rd_11 hy hp (kx_one hk)⟩
    · refine ⟨fun _ => ?_, fun h => absurd h (by decide), fun h => absurd h (by decide), fun h => absurd h (by decide)⟩
      obtain ⟨rfl, rfl⟩ := no_kids hc (by simpa [kidsB] using hkb)
      obtain ⟨hx, _⟩ : x.toList = [] ∧ -999999999999999999 ≤ z ∧ z ≤ 999999999999999999 := by simpa [holdsB] using hhb
      obtain rfl := tl_nil hx
      exact ⟨ht_of (kx_one hk) (ht_kn z), rd_12 hy hp (kx_one hk)⟩
    · refine ⟨fun _ => ?_, fun h => absurd h (by decide), fun h => absurd h (by decide), fun h => absurd h (by decide)⟩
      obtain ⟨hx, rfl⟩ : x.toList = [] ∧ z = 0 := by simpa [holdsB] using hhb
      obtain rfl := tl_nil hx
      have h64 : (ks.length : Int) ≤ 64 := by simpa [kidsB] using hkb
      have e1 : (fun v : Int => kdt P 13 v.toNat) = fun v : Int => tkp P v.toNat := by funext v; unfold kdt brB; simp
      have hk : Kx T d (km [123] :: (joinT (ks.map fun v => kdt P 13 v.toNat) (km [44]) ++ [km [125]])) := hk
      show Ht (tk T d) ∧ Gd _ _ (d + (km [123] :: (joinT (ks.map fun v => kdt P 13 v.toNat) (km [44]) ++ [km [125]])).length) _ _
      rw [e1] at hk ⊢
      refine ⟨ht_of (kx_cons hk).1 ht_set, rd_13 hy hp hc (fun w hw => ?_) (by omega) hk⟩
      have hcw : (pt P w).kind = 11 ∨ (pt P w).kind = 12 := by simpa [clsB] using hcl w hw
      exact elt_of hok (ihk w hw).2 hcw
    · refine ⟨fun _ => ?_, fun h => absurd h (by decide), fun h => absurd h (by decide), fun h => absurd h (by decide)⟩
      obtain ⟨rfl, rfl⟩ := no_kids hc (by simpa [kidsB] using hkb)
      obtain ⟨hx, hz⟩ : (x.size : Int) ≤ 127 ∧ 1 ≤ z ∧ z ≤ 3 := by simpa [holdsB] using hhb
      have hz3 : z = 1 ∨ z = 2 ∨ z = 3 := by omega
      exact ⟨ht_of (kx_cons hk).1 (who_ht hz3), rd_14 hy hz3 hp hk⟩
    · refine ⟨fun _ => ?_, fun h => absurd h (by decide), fun h => absurd h (by decide), fun h => absurd h (by decide)⟩
      obtain ⟨rfl, rfl⟩ := no_kids hc (by simpa [kidsB] using hkb)
      obtain ⟨hx, hz⟩ : x.toList = [] ∧ 1 ≤ z ∧ z ≤ 3 := by simpa [holdsB] using hhb
      obtain rfl := tl_nil hx
      have hz3 : z = 1 ∨ z = 2 ∨ z = 3 := by omega
      exact ⟨ht_of (kx_cons hk).1 (who_ht hz3), rd_15 hy hz3 (Or.inl ⟨rfl, rfl⟩) hp hk⟩
    · refine ⟨fun _ => ?_, fun h => absurd h (by decide), fun h => absurd h (by decide), fun h => absurd h (by decide)⟩
      obtain ⟨rfl, rfl⟩ := no_kids hc (by simpa [kidsB] using hkb)
      obtain ⟨hx, hz⟩ : x.toList = [] ∧ 1 ≤ z ∧ z ≤ 3 := by simpa [holdsB] using hhb
      obtain rfl := tl_nil hx
      have hz3 : z = 1 ∨ z = 2 ∨ z = 3 := by omega
      exact ⟨ht_of (kx_cons hk).1 (who_ht hz3), rd_15 hy hz3 (Or.inr (Or.inl ⟨rfl, rfl⟩)) hp hk⟩
    · refine ⟨fun _ => ?_, fun h => absurd h (by decide), fun h => absurd h (by decide), fun h => absurd h (by decide)⟩
      obtain ⟨rfl, rfl⟩ := no_kids hc (by simpa [kidsB] using hkb)
      obtain ⟨hx, hz⟩ : x.toList = [] ∧ 1 ≤ z ∧ z ≤ 3 := by simpa [holdsB] using hhb
      obtain rfl := tl_nil hx
      have hz3 : z = 1 ∨ z = 2 ∨ z = 3 := by omega
      exact ⟨ht_of (kx_cons hk).1 (who_ht hz3), rd_15 hy hz3 (Or.inr (Or.inr ⟨rfl, rfl⟩)) hp hk⟩
    · refine ⟨fun _ => ?_, fun h => absurd h (by decide), fun h => absurd h (by decide), fun h => absurd h (by decide)⟩
      obtain ⟨rfl, rfl⟩ := no_kids hc (by simpa [kidsB] using hkb)
      obtain ⟨hx, hz⟩ : (x.size : Int) ≤ 127 ∧ 1 ≤ z ∧ z ≤ 3 := by simpa [holdsB] using hhb
      have hz3 : z = 1 ∨ z = 2 ∨ z = 3 := by omega
      exact ⟨ht_of (kx_cons hk).1 (who_ht hz3), rd_18 hy hz3 hp hk⟩
    · refine ⟨fun _ => ?_, fun h => absurd h (by decide), fun h => absurd h (by decide), fun h => absurd h (by decide)⟩
      obtain ⟨w, rfl, c1, rfl⟩ := one_kid hc (by have h9 : (ks.length : Int) = 1 := (by simpa [kidsB] using hkb); omega)
      have hw := ihk w (by simp)
      have hcw : 11 ≤ (pt P w).kind ∧ (pt P w).kind ≤ 20 := by simpa [clsB] using hcl w (by simp)
      have hnw := hnk w (by simp)
      have hdw := hdk w (by simp)
      obtain ⟨hx, rfl⟩ : x.toList = [] ∧ z = 0 := by simpa [holdsB] using hhb
      obtain rfl := tl_nil hx
      have hbt : btw 19 (pt P w).kind = 1 := by unfold btw opB brB; simp
      rw [hbt] at hnw
      have e1 : kdt P 19 w = tkp P w := by unfold kdt brB; simp
      have hk : Kx T d (kw [105, 110, 116] :: km [40] :: (kdt P 19 w ++ [km [41]])) := hk
      rw [e1] at hk
      obtain ⟨h0, h⟩ := kx_cons hk
      obtain ⟨h1, h⟩ := kx_cons h
      obtain ⟨h4, h5⟩ := kx_app h
      have h5 := kx_one h5
      refine ⟨ht_of h0 (ht_kw (by decide)), ?_⟩
      show Gd _ _ (d + (kw [105, 110, 116] :: km [40] :: (kdt P 19 w ++ [km [41]])).length) _ _
      rw [e1]
      simp only [List.length_cons, List.length_append, List.length_nil]
      refine gd_up (q := fun n => bnd (withP T (gr T n .term) ⟨d + 1, ns, P.take a, os⟩) fun k s1 => putP s1 ⟨19, ⟨#[]⟩, 0, [k]⟩ ((tk T d).a : Int)) ?_ fun n => ?_
      · refine gd_bnd (f := fun n k s1 => putP s1 ⟨19, ⟨#[]⟩, 0, [k]⟩ ((tk T d).a : Int)) (gd_with (inn := fun n => gr T n .term) h1 (by omega) (fun os => ((hw.1 T a _ (ns + 1) os c1 h4 (by omega)).1 hcw.1).2) h5) fun os1 => ?_
        rw [show d + ((tkp P w).length + (0 + 1) + 1 + 1) = d + 1 + 1 + (tkp P w).length + 1 by omega]
        exact gd_put hy hp.symm _ _ _ _
      · rw [term_word n h0]
        have h9 := kq_at h0
        have ht : (tk T d).text.toList = [105, 110, 116] := by rw [h9.2.1, S_list]
        show (if (tk T d).text.toList = _ then _ else if (tk T d).text.toList = _ then _ else if (tk T d).text.toList = _ then _ else if (tk T d).text.toList = _ then _ else _) = _
        rw [ht, if_neg (by decide), if_neg (by decide), if_neg (by decide), if_pos rfl]
        rfl
    · refine ⟨fun _ => ?_, fun h => absurd h (by decide), fun h => absurd h (by decide), fun h => absurd h (by decide)⟩
      obtain ⟨w, rfl, c1, rfl⟩ := one_kid hc (by have h9 : (ks.length : Int) = 1 := (by simpa [kidsB] using hkb); omega)
      have hw := ihk w (by simp)
      have hcw : 1 ≤ (pt P w).kind ∧ (pt P w).kind ≤ 10 := by simpa [clsB] using hcl w (by simp)
      have hnw := hnk w (by simp)
      have hdw := hdk w (by simp)
      obtain ⟨hx, rfl⟩ : (x.size : Int) ≤ 127 ∧ z = 0 := by simpa [holdsB] using hhb
      have hbt : btw 20 (pt P w).kind = 1 := by unfold btw opB brB; simp
      rw [hbt] at hnw
      have e1 : kdt P 20 w = tkp P w := by unfold kdt brB; simp
      have hk : Kx T d (kw [99, 111, 117, 110, 116] :: km [40] :: kt x :: km [44] :: (kdt P 20 w ++ [km [41]])) := hk
      rw [e1] at hk
      obtain ⟨h0, h⟩ := kx_cons hk
      obtain ⟨h1, h⟩ := kx_cons h
      obtain ⟨h2, h⟩ := kx_cons h
      obtain ⟨h3, h⟩ := kx_cons h
      obtain ⟨h4, h5⟩ := kx_app h
      have h5 := kx_one h5
      refine ⟨ht_of h0 (ht_kw (by decide)), ?_⟩
      show Gd _ _ (d + (kw [99, 111, 117, 110, 116] :: km [40] :: kt x :: km [44] :: (kdt P 20 w ++ [km [41]])).length) _ _
      rw [e1]
      simp only [List.length_cons, List.length_append, List.length_nil]
      refine gd_up (q := fun n => selP T (gr T n .expr) 20 ⟨d, ns, P.take a, os⟩) (sel_gd (l := (tkp P w).length) hy hp rfl (by omega) h1 h2 h3 h5 (fun os => expr_of (ns := ns + 1) hw.1 hcw.2 c1 h4 (by omega) (by rw [nm_km h5]; decide) (by rw [nm_km h5]; decide))) fun n => ?_
      rw [term_word n h0]
      have h9 := kq_at h0
      have ht : (tk T d).text.toList = [99, 111, 117, 110, 116] := by rw [h9.2.1, S_list]
      show (if (tk T d).text.toList = _ then _ else if (tk T d).text.toList = _ then _ else if (tk T d).text.toList = _ then _ else if (tk T d).text.toList = _ then _ else if (tk T d).text.toList = _ then _ else _) = _
      rw [ht, if_neg (by decide), if_neg (by decide), if_neg (by decide), if_neg (by decide), if_pos rfl]
end
end Go.Proofs.YtlhlpamciafocaaGreatDoor.L
