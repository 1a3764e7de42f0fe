import Derived.Test.YtlhlpamciafocaaGreatDoorMgAU
import Derived.Sort.QuietIn
import Derived.RangeFuncCalls
import Derived.Test.YtlhlpamciafocaaGreatDoorPbN
import Derived.Test.YtlhlpamciafocaaGreatDoorMgAC
import Derived.Test.YtlhlpamciafocaaGreatDoorMgAP
namespace Go.Proofs.YtlhlpamciafocaaGreatDoor.L
open Go.RowKit Go.Shelf
set_option linter.unusedVariables false
set_option linter.unusedSimpArgs false
section
variable {P : List Pt} {w : ByteArray}
theorem sq_app {A B : List UInt8} {l1 l2 : List Tok} {d : Nat} (hs : Stands w d (A ++ B)) (h1 : Stands w d A → Stands w (d + A.length) B → Scq w d l1 (d + A.length)) (h2 : Stands w (d + A.length) B → Scq w (d + A.length) l2 (d + A.length + B.length)) : Scq w d (l1 ++ l2) (d + (A ++ B).length) := by
  obtain ⟨s1, s2⟩ := stands_app hs
  rw [List.length_append, ← Nat.add_assoc]
  exact (h1 s1 s2).trans (h2 s2)
theorem mk2_33 {c : UInt8} (h : c ≠ 61) : mk2 33 c = false := by unfold mk2; simp [h]
theorem itoa_hd (z : Int) : ∃ c r, Lib.itoa z = c :: r ∧ c ≠ 61 := by
  unfold Lib.itoa
  split
  · exact ⟨45, _, rfl, by decide⟩
  · obtain ⟨c, r, e, hc⟩ := dec_first (u := z.toNat)
    exact ⟨c, r, e, fun h => by rw [h] at hc; exact absurd hc (by decide)⟩
theorem who_hd (z : Int) : ∃ c r, whoL z = c :: r ∧ c ≠ 61 := by
  unfold whoL
  split
  · exact ⟨_, _, rfl, by decide⟩
  · split
    · exact ⟨_, _, rfl, by decide⟩
    · exact ⟨_, _, rfl, by decide⟩
theorem app_hd {A : List UInt8} (B : List UInt8) (h : ∃ c r, A = c :: r ∧ c ≠ 61) : ∃ c r, A ++ B = c :: r ∧ c ≠ 61 := by
  obtain ⟨c, r, e, hc⟩ := h
  exact ⟨c, r ++ B, by rw [e]; rfl, hc⟩
theorem two_kd {ks : List Int} (h : ks.length = 2) : ∃ v u, ks = [v, u] := by
  match ks, h with
  | [v, u], _ => exact ⟨v, u, rfl⟩
theorem stp_at {p p' : Nat} (h : Stp w p) (e : p' = p) : Stp w p' := by rw [e]; exact h
theorem sb_all (hok : Ok0 P) : ∀ y, y < P.length → Sb P y := by
  intro y
  induction y using Nat.strongRecOn with
  | ind y ih =>
    intro hy
    have hO := hok y hy
    have hlt : ∀ x, x ∈ (pt P y).kids → 0 ≤ x ∧ x < (y : Int) := fun x hx => hO.lt hx
    have ihk : ∀ v, v ∈ (pt P y).kids → Sb P v.toNat := fun v hv => ih v.toNat (by have := hlt v hv; omega) (by have := hlt v hv; omega)
    unfold Sb
    rw [txp_eq hlt, tkp_eq hlt]
    obtain ⟨hkb, hk1, hk20, hhb, _⟩ := hO.tab
    clear ih hO hlt
    obtain ⟨p, hp⟩ : ∃ p, pt P y = p := ⟨_, rfl⟩
    rw [hp] at ihk hkb hk1 hk20 hhb ⊢
    obtain ⟨k, x, z, ks⟩ := p
    simp only at ihk hkb hk1 hk20 hhb ⊢
    have hcase : k = 1 ∨ k = 2 ∨ k = 3 ∨ k = 4 ∨ k = 5 ∨ k = 6 ∨ k = 7 ∨ k = 8 ∨ k = 9 ∨ k = 10 ∨ k = 11 ∨ k = 12 ∨ k = 13 ∨ k = 14 ∨ k = 15 ∨ k = 16 ∨ k = 17 ∨ k = 18 ∨ k = 19 ∨ k = 20 := by omega
    clear hk1 hk20 hp
    rcases hcase with rfl | rfl | rfl | rfl | rfl | rfl | rfl | rfl | rfl | rfl | rfl | rfl | rfl | rfl | rfl | rfl | rfl | rfl | rfl | rfl
    · exact ⟨⟨_, _, rfl, by decide⟩, fun w d hs hp => scq_w hs ⟨_, _, rfl, by decide⟩ hp⟩
    · exact ⟨⟨_, _, rfl, by decide⟩, fun w d hs hp => scq_w hs ⟨_, _, rfl, by decide⟩ hp⟩
    · obtain ⟨v, rfl⟩ : ∃ v, ks = [v] := List.length_eq_one_iff.1 (by have h9 : (ks.length : Int) = 1 := (by simpa [kidsB] using hkb); omega)
      have hv := ihk v (by simp)
      refine ⟨⟨33, _, rfl, by decide⟩, fun w d hs hp => ?_⟩
      have hs : Stands w d ([33] ++ kdx P 3 v.toNat) := hs
      have hp : Stp w (d + ([33] ++ kdx P 3 v.toNat).length) := hp
      show Scq w d ([km [33]] ++ kdt P 3 v.toNat) (d + ([33] ++ kdx P 3 v.toNat).length)
      refine sq_app hs (fun s t => ?_) (fun t => kid_sc hv t (stp_at hp (by simp only [List.length_append]; omega)))
      obtain ⟨c, r, e, hc⟩ := kid_hd (k := 3) hv
      rw [e] at t
      exact scq_m1 33 s (by decide) (by rw [show bt w (d + 1) = c from st_b t]; exact mk2_33 hc) (by decide)
    · have h2 : (2 : Int) ≤ (ks.length : Int) := by simpa [kidsB] using hkb
      refine ⟨?_, fun w d hs hp => join_sc sep_and ks d (fun v hv => ihk v hv) hs hp⟩
      cases ks with
      | nil => simp at h2
      | cons v r =>
        show ∃ c r', Lib.join ((v :: r).map fun x => kdx P 4 x.toNat) _ = c :: r' ∧ c ≠ 61
        rw [List.map_cons, Lib.join_cons]
        exact app_hd _ (kid_hd (ihk v (by simp)))
    · have h2 : (2 : Int) ≤ (ks.length : Int) := by simpa [kidsB] using hkb
      refine ⟨?_, fun w d hs hp => join_sc sep_or ks d (fun v hv => ihk v hv) hs hp⟩
      cases ks with
      | nil => simp at h2
      | cons v r =>
        show ∃ c r', Lib.join ((v :: r).map fun x => kdx P 5 x.toNat) _ = c :: r' ∧ c ≠ 61
        rw [List.map_cons, Lib.join_cons]
        exact app_hd _ (kid_hd (ihk v (by simp)))
    · obtain ⟨v, u, rfl⟩ : ∃ v u, ks = [v, u] := two_kd (by have h9 : (ks.length : Int) = 2 := (by simpa [kidsB] using hkb); omega)
      have hv := ihk v (by simp)
      have hu := ihk u (by simp)
      refine ⟨app_hd (A := kdx P 6 v.toNat) _ (kid_hd hv), fun w d hs hp => ?_⟩
      have hs : Stands w d (kdx P 6 v.toNat ++ ([32] ++ (sgnL z ++ ([32] ++ kdx P 6 u.toNat)))) := hs
      have hp : Stp w (d + (kdx P 6 v.toNat ++ ([32] ++ (sgnL z ++ ([32] ++ kdx P 6 u.toNat)))).length) := hp
      show Scq w d (kdt P 6 v.toNat ++ ([] ++ ([km (sgnL z)] ++ ([] ++ kdt P 6 u.toNat)))) (d + (kdx P 6 v.toNat ++ ([32] ++ (sgnL z ++ ([32] ++ kdx P 6 u.toNat)))).length)
      refine sq_app hs (fun s t => kid_sc hv s (stp_of (st_b t) (by decide))) fun t => ?_
      refine sq_app t (fun s _ => scq_blank s) fun t => ?_
      refine sq_app t (fun s t => sgn_sc s (st_b t)) fun t => ?_
      refine sq_app t (fun s _ => scq_blank s) fun t => ?_
      exact kid_sc hu t (stp_at hp (by simp only [List.length_append]; omega))
    · obtain ⟨v, u, rfl⟩ : ∃ v u, ks = [v, u] := two_kd (by have h9 : (ks.length : Int) = 2 := (by simpa [kidsB] using hkb); omega)
      have hv := ihk v (by simp)
      have hu := ihk u (by simp)
      refine ⟨app_hd (A := kdx P 7 v.toNat) _ (kid_hd hv), fun w d hs hp => ?_⟩
      have hs : Stands w d (kdx P 7 v.toNat ++ ([32] ++ (memL z ++ ([32] ++ kdx P 7 u.toNat)))) := hs
      have hp : Stp w (d + (kdx P 7 v.toNat ++ ([32] ++ (memL z ++ ([32] ++ kdx P 7 u.toNat)))).length) := hp
      show Scq w d (kdt P 7 v.toNat ++ ([] ++ ([kw (memL z)] ++ ([] ++ kdt P 7 u.toNat)))) (d + (kdx P 7 v.toNat ++ ([32] ++ (memL z ++ ([32] ++ kdx P 7 u.toNat)))).length)
      refine sq_app hs (fun s t => kid_sc hv s (stp_of (st_b t) (by decide))) fun t => ?_
      refine sq_app t (fun s _ => scq_blank s) fun t => ?_
      refine sq_app t (fun s t => scq_w s wok_mem (stp_of (st_b t) (by decide))) fun t => ?_
      refine sq_app t (fun s _ => scq_blank s) fun t => ?_
      exact kid_sc hu t (stp_at hp (by simp only [List.length_append]; omega))
    · obtain ⟨v, rfl⟩ : ∃ v, ks = [v] := List.length_eq_one_iff.1 (by have h9 : (ks.length : Int) = 1 := (by simpa [kidsB] using hkb); omega)
      have hv := ihk v (by simp)
      have hx : x.size ≤ 127 := by have h9 : (x.size : Int) ≤ 127 ∧ z = 0 := (by simpa [holdsB] using hhb); omega
      refine ⟨⟨_, _, rfl, by decide⟩, fun w d hs hp => ?_⟩
      have hs : Stands w d ([110, 101, 97, 114] ++ ([40] ++ ((quoteL x.data.toList ++ ([44, 32] ++ kdx P 8 v.toNat)) ++ [41]))) := hs
      show Scq w d ([kw [110, 101, 97, 114]] ++ ([km [40]] ++ (([kt x] ++ ([km [44]] ++ kdt P 8 v.toNat)) ++ [km [41]]))) (d + ([110, 101, 97, 114] ++ ([40] ++ ((quoteL x.data.toList ++ ([44, 32] ++ kdx P 8 v.toNat)) ++ [41]))).length)
      refine sq_app hs (fun s t => scq_w s ⟨_, _, rfl, by decide⟩ (stp_of (st_b t) (by decide))) fun t => ?_
      refine sq_app t (fun s _ => scq_m s (by decide)) fun t => ?_
      refine sq_app t (fun s t2 => ?_) fun t => scq_m t (by decide)
      refine sq_app s (fun s _ => scq_q s hx) fun t => ?_
      refine sq_app t (fun s _ => (sep_com w _ s).1) fun t => ?_
      exact kid_sc hv t (stp_at (stp_of (st_b t2) (by decide)) (by simp only [List.length_append]; omega))
    · obtain ⟨v, rfl⟩ : ∃ v, ks = [v] := List.length_eq_one_iff.1 (by have h9 : (ks.length : Int) = 1 := (by simpa [kidsB] using hkb); omega)
      have hv := ihk v (by simp)
      have hx : x.size ≤ 127 := by have h9 : (x.size : Int) ≤ 127 ∧ z = 0 := (by simpa [holdsB] using hhb); omega
      refine ⟨⟨_, _, rfl, by decide⟩, fun w d hs hp => ?_⟩
      have hs : Stands w d ([97, 112, 97, 114, 116] ++ ([40] ++ ((quoteL x.data.toList ++ ([44, 32] ++ kdx P 9 v.toNat)) ++ [41]))) := hs
      show Scq w d ([kw [97, 112, 97, 114, 116]] ++ ([km [40]] ++ (([kt x] ++ ([km [44]] ++ kdt P 9 v.toNat)) ++ [km [41]]))) (d + ([97, 112, 97, 114, 116] ++ ([40] ++ ((quoteL x.data.toList ++ ([44, 32] ++ kdx P 9 v.toNat)) ++ [41]))).length)
      refine sq_app hs (fun s t => scq_w s ⟨_, _, rfl, by decide⟩ (stp_of (st_b t) (by decide))) fun t => ?_
      refine sq_app t (fun s _ => scq_m s (by decide)) fun t => ?_
      refine sq_app t (fun s t2 => ?_) fun t => scq_m t (by decide)
      refine sq_app s (fun s _ => scq_q s hx) fun t => ?_
      refine sq_app t (fun s _ => (sep_com w _ s).1) fun t => ?_
      exact kid_sc hv t (stp_at (stp_of (st_b t2) (by decide)) (by simp only [List.length_append]; omega))
    · have hx : x.size ≤ 127 := by have h9 : (x.size : Int) ≤ 127 ∧ z = 0 := (by simpa [holdsB] using hhb); omega
      refine ⟨⟨_, _, rfl, by decide⟩, fun w d hs hp => ?_⟩
      have hs : Stands w d ([116, 111, 108, 101, 114, 97, 116, 101, 100] ++ ([40] ++ (quoteL x.data.toList ++ [41]))) := hs
      show Scq w d ([kw [116, 111, 108, 101, 114, 97, 116, 101, 100]] ++ ([km [40]] ++ ([kt x] ++ [km [41]]))) (d + ([116, 111, 108, 101, 114, 97, 116, 101, 100] ++ ([40] ++ (quoteL x.data.toList ++ [41]))).length)
      refine sq_app hs (fun s t => scq_w s ⟨_, _, rfl, by decide⟩ (stp_of (st_b t) (by decide))) fun t => ?_
      refine sq_app t (fun s _ => scq_m s (by decide)) fun t => ?_
      exact sq_app t (fun s _ => scq_q s hx) fun t => scq_m t (by decide)
    · have hx : x.size ≤ 127 := by have h9 : (x.size : Int) ≤ 127 ∧ z = 0 := (by simpa [holdsB] using hhb); omega
      exact ⟨⟨34, _, rfl, by decide⟩, fun w d hs hp => scq_q hs hx⟩
    · have hz : -999999999999999999 ≤ z ∧ z ≤ 999999999999999999 := by have h9 : x.toList = [] ∧ -999999999999999999 ≤ z ∧ z ≤ 999999999999999999 := (by simpa [holdsB] using hhb); exact h9.2
      exact ⟨itoa_hd z, fun w d hs hp => scq_n hz hs hp⟩
    · refine ⟨⟨123, _, rfl, by decide⟩, fun w d hs hp => ?_⟩
      have hs : Stands w d ([123] ++ (Lib.join (ks.map fun v : Int => kdx P 13 v.toNat) [44, 32] ++ [125])) := hs
      show Scq w d ([km [123]] ++ (joinT (ks.map fun v : Int => kdt P 13 v.toNat) (km [44]) ++ [km [125]])) (d + ([123] ++ (Lib.join (ks.map fun v : Int => kdx P 13 v.toNat) [44, 32] ++ [125])).length)
      refine sq_app hs (fun s _ => scq_m s (by decide)) fun t => ?_
      exact sq_app t (fun s t2 => join_sc sep_com ks _ (fun v hv => ihk v hv) s (stp_of (st_b t2) (by decide))) fun t => scq_m t (by decide)
    · have hx : x.size ≤ 127 := by have h9 : (x.size : Int) ≤ 127 ∧ 1 ≤ z ∧ z ≤ 3 := (by simpa [holdsB] using hhb); omega
      refine ⟨app_hd _ (who_hd z), fun w d hs hp => ?_⟩
      have hs : Stands w d (whoL z ++ ([91] ++ (quoteL x.data.toList ++ [93]))) := hs
      show Scq w d ([kw (whoL z)] ++ ([km [91]] ++ ([kt x] ++ [km [93]]))) (d + (whoL z ++ ([91] ++ (quoteL x.data.toList ++ [93]))).length)
      refine sq_app hs (fun s t => scq_w s wok_who (stp_of (st_b t) (by decide))) fun t => ?_
      refine sq_app t (fun s _ => scq_m s (by decide)) fun t => ?_
      exact sq_app t (fun s _ => scq_q s hx) fun t => scq_m t (by decide)
    · refine ⟨app_hd _ (who_hd z), fun w d hs hp => ?_⟩
      have hs : Stands w d (whoL z ++ ([46] ++ [110, 97, 109, 101])) := hs
      have hp : Stp w (d + (whoL z ++ ([46] ++ [110, 97, 109, 101])).length) := hp
      show Scq w d ([kw (whoL z)] ++ ([km [46]] ++ [kw [110, 97, 109, 101]])) (d + (whoL z ++ ([46] ++ [110, 97, 109, 101])).length)
      refine sq_app hs (fun s t => scq_w s wok_who (stp_of (st_b t) (by decide))) fun t => ?_
      exact sq_app t (fun s _ => scq_m s (by decide)) fun t => scq_w t ⟨_, _, rfl, by decide⟩ (stp_at hp (by simp only [List.length_append]; omega))
    · refine ⟨app_hd _ (who_hd z), fun w d hs hp => ?_⟩
      have hs : Stands w d (whoL z ++ ([46] ++ [107, 101, 121, 115])) := hs
      have hp : Stp w (d + (whoL z ++ ([46] ++ [107, 101, 121, 115])).length) := hp
      show Scq w d ([kw (whoL z)] ++ ([km [46]] ++ [kw [107, 101, 121, 115]])) (d + (whoL z ++ ([46] ++ [107, 101, 121, 115])).length)
      refine sq_app hs (fun s t => scq_w s wok_who (stp_of (st_b t) (by decide))) fun t => ?_
      exact sq_app t (fun s _ => scq_m s (by decide)) fun t => scq_w t ⟨_, _, rfl, by decide⟩ (stp_at hp (by simp only [List.length_append]; omega))
    · refine ⟨app_hd _ (who_hd z), fun w d hs hp => ?_⟩
      have hs : Stands w d (whoL z ++ ([46] ++ [116, 97, 105, 110, 116, 115])) := hs
      have hp : Stp w (d + (whoL z ++ ([46] ++ [116, 97, 105, 110, 116, 115])).length) := hp
      show Scq w d ([kw (whoL z)] ++ ([km [46]] ++ [kw [116, 97, 105, 110, 116, 115]])) (d + (whoL z ++ ([46] ++ [116, 97, 105, 110, 116, 115])).length)
      refine sq_app hs (fun s t => scq_w s wok_who (stp_of (st_b t) (by decide))) fun t => ?_
      exact sq_app t (fun s _ => scq_m s (by decide)) fun t => scq_w t ⟨_, _, rfl, by decide⟩ (stp_at hp (by simp only [List.length_append]; omega))
    · have hx : x.size ≤ 127 := by have h9 : (x.size : Int) ≤ 127 ∧ 1 ≤ z ∧ z ≤ 3 := (by simpa [holdsB] using hhb); omega
      refine ⟨app_hd _ (app_hd _ (who_hd z)), fun w d hs hp => ?_⟩
      have hs : Stands w d ((whoL z ++ ([46] ++ [99, 97, 112])) ++ ([40] ++ (quoteL x.data.toList ++ [41]))) := hs
      show Scq w d (([kw (whoL z)] ++ ([km [46]] ++ [kw [99, 97, 112]])) ++ ([km [40]] ++ ([kt x] ++ [km [41]]))) (d + ((whoL z ++ ([46] ++ [99, 97, 112])) ++ ([40] ++ (quoteL x.data.toList ++ [41]))).length)
      refine sq_app hs (fun s t2 => ?_) fun t => ?_
      · refine sq_app s (fun s t => scq_w s wok_who (stp_of (st_b t) (by decide))) fun t => ?_
        exact sq_app t (fun s _ => scq_m s (by decide)) fun t => scq_w t ⟨_, _, rfl, by decide⟩ (stp_at (stp_of (st_b t2) (by decide)) (by simp only [List.length_append]; omega))
      · refine sq_app t (fun s _ => scq_m s (by decide)) fun t => ?_
        exact sq_app t (fun s _ => scq_q s hx) fun t => scq_m t (by decide)
    · obtain ⟨v, rfl⟩ : ∃ v, ks = [v] := List.length_eq_one_iff.1 (by have h9 : (ks.length : Int) = 1 := (by simpa [kidsB] using hkb); omega)
      have hv := ihk v (by simp)
      refine ⟨⟨_, _, rfl, by decide⟩, fun w d hs hp => ?_⟩
      have hs : Stands w d ([105, 110, 116] ++ ([40] ++ (kdx P 19 v.toNat ++ [41]))) := hs
      show Scq w d ([kw [105, 110, 116]] ++ ([km [40]] ++ (kdt P 19 v.toNat ++ [km [41]]))) (d + ([105, 110, 116] ++ ([40] ++ (kdx P 19 v.toNat ++ [41]))).length)
      refine sq_app hs (fun s t => scq_w s ⟨_, _, rfl, by decide⟩ (stp_of (st_b t) (by decide))) fun t => ?_
      refine sq_app t (fun s _ => scq_m s (by decide)) fun t => ?_
      exact sq_app t (fun s t2 => kid_sc hv s (stp_of (st_b t2) (by decide))) fun t => scq_m t (by decide)
    · obtain ⟨v, rfl⟩ : ∃ v, ks = [v] := List.length_eq_one_iff.1 (by have h9 : (ks.length : Int) = 1 := (by simpa [kidsB] using hkb); omega)
      have hv := ihk v (by simp)
      have hx : x.size ≤ 127 := by have h9 : (x.size : Int) ≤ 127 ∧ z = 0 := (by simpa [holdsB] using hhb); omega
      refine ⟨⟨_, _, rfl, by decide⟩, fun w d hs hp => ?_⟩
      have hs : Stands w d ([99, 111, 117, 110, 116] ++ ([40] ++ ((quoteL x.data.toList ++ ([44, 32] ++ kdx P 20 v.toNat)) ++ [41]))) := hs
      show Scq w d ([kw [99, 111, 117, 110, 116]] ++ ([km [40]] ++ (([kt x] ++ ([km [44]] ++ kdt P 20 v.toNat)) ++ [km [41]]))) (d + ([99, 111, 117, 110, 116] ++ ([40] ++ ((quoteL x.data.toList ++ ([44, 32] ++ kdx P 20 v.toNat)) ++ [41]))).length)
      refine sq_app hs (fun s t => scq_w s ⟨_, _, rfl, by decide⟩ (stp_of (st_b t) (by decide))) fun t => ?_
      refine sq_app t (fun s _ => scq_m s (by decide)) fun t => ?_
      refine sq_app t (fun s t2 => ?_) fun t => scq_m t (by decide)
      refine sq_app s (fun s _ => scq_q s hx) fun t => ?_
      refine sq_app t (fun s _ => (sep_com w _ s).1) fun t => ?_
      exact kid_sc hv t (stp_at (stp_of (st_b t2) (by decide)) (by simp only [List.length_append]; omega))
end
end Go.Proofs.YtlhlpamciafocaaGreatDoor.L
namespace Go.Proofs.YtlhlpamciafocaaGreatDoor.L
open Go.RowKit Go.Shelf
set_option linter.unusedVariables false
set_option linter.unusedSimpArgs false
theorem tk_kq (l : List Tok) (j : Nat) (h : j < l.length) : tk (l.map kq) j = kq (tk l j) := tk_map h
/-- THERE AND BACK: the text of a valid tree reads as that tree. -/
theorem reads_back {P : List Pt} (h1 : 1 ≤ P.length) (hL : P.length ≤ 1000) (hok : Ok0 P) (hl : ¬ Lst P) (hd : NoDeep P) (hn0 : (nests P).getD (P.length - 1) 0 = 0) (ht : ((txs P P.length).getD (P.length - 1) []).length ≤ 4096) :
    ∃ s, parR (S ((txs P P.length).getD (P.length - 1) [])) = .ok s ∧ s.ps = P := by
  obtain ⟨y, hy⟩ : ∃ y, y = P.length - 1 := ⟨_, rfl⟩
  have hyl : y < P.length := by omega
  have hyP : P.length = y + 1 := by omega
  rw [← hy] at hn0 ht ⊢
  have et : (txs P P.length).getD y [] = txp P y := getD_txs P hyl
  rw [et] at ht ⊢
  have hk : (pt P y).kind ≤ 10 := by
    unfold Lst at hl
    rw [← hy] at hl
    omega
  have hf1 : (fre P P.length).length ≤ 1 := by
    unfold Lst at hl
    omega
  have hc : Chn P 0 (pt P y).kids y := by
    have h9 := chn_fre hok P.length (Nat.le_refl _)
    have e : fre P P.length = (fre P y).take ((fre P y).length - (pt P y).kids.length) ++ [(y : Int)] := by rw [hyP]; rfl
    rw [e] at h9 hf1
    have hnil : (fre P y).take ((fre P y).length - (pt P y).kids.length) = [] := by
      rw [List.length_append, List.length_singleton] at hf1
      exact List.length_eq_zero_iff.1 (by omega)
    rw [hnil, List.nil_append] at h9
    generalize hv : (y : Int) = v at h9
    cases h9 with
    | @cons _ y' _ _ c1 c2 =>
      have e2 : y' = y := by omega
      subst e2
      exact c1
  have hz : (S (txp P y)).size = (txp P y).length := S_size _
  have hst : Stands (S (txp P y)) 0 (txp P y) := ⟨by rw [hz]; omega, fun j hj => by rw [Nat.zero_add]; rfl⟩
  have hsp : Stp (S (txp P y)) (0 + (txp P y).length) := stp_of (bt_out _ _ (by rw [hz]; omega)) (by decide)
  obtain ⟨l, hs, hm⟩ := (sb_all hok y hyl).2 _ 0 hst hsp
  have hT := sc_end hs (by rw [hz]; omega) (by rw [hz]; exact ht)
  have hlen : l.length = (tkp P y).length := by rw [← hm, List.length_map]
  have hkx : Kx (l ++ [tokE (S (txp P y)).size]) 0 (tkp P y) := fun j hj => by
    rw [Nat.zero_add, tk_l (by omega), ← hm, tk_kq l j (by omega)]
  have hend : tk (l ++ [tokE (S (txp P y)).size]) (0 + (tkp P y).length) = tokE (S (txp P y)).size := by rw [Nat.zero_add, ← hlen, tk_last]
  have hnm : ∀ m, nm (l ++ [tokE (S (txp P y)).size]) (0 + (tkp P y).length) m = false := fun m => nm_no (by rw [hend]; exact Nat.zero_ne_add_one 3) m
  obtain ⟨N, os, hg⟩ := expr_of (T := l ++ [tokE (S (txp P y)).size]) (a := 0) (d := 0) (ns := 0) (os := []) (rb_all hok hd hL y hyl) hk hc hkx (by rw [hn0]; rfl) (hnm _) (hnm _)
  have hTl : (l ++ [tokE (S (txp P y)).size]).length ≤ 4097 := by
    have h9 := scan_len (S (txp P y)) _ 0 rfl (Nat.zero_le _)
    have e : scanT (S (txp P y)) = scanS (S (txp P y)) 0 := by unfold scanT; exact if_pos (by rw [hz]; exact ht)
    rw [← e, hT] at h9
    simp only at h9
    omega
  have hgr : gr (l ++ [tokE (S (txp P y)).size]) 16392 .expr ⟨0, 0, [], []⟩ = .ok ((y : Int), ⟨0 + (tkp P y).length, 0, P.take (y + 1), os⟩) := by
    have h9 := hg (max N 16392) (by omega)
    have e9 := gr_less (T := l ++ [tokE (S (txp P y)).size]) (g := .expr) (s := ⟨0, 0, [], []⟩) (n := 16392) (m := max N 16392) (by show 4 * ((l ++ [tokE (S (txp P y)).size]).length - 0) + 3 < 16392; omega) (by omega)
    exact e9.symm.trans h9
  have htk : P.take (y + 1) = P := by rw [← hyP]; exact List.take_length
  rw [htk] at hgr
  refine ⟨⟨0 + (tkp P y).length, 0, P, os⟩, ?_, rfl⟩
  unfold parR
  rw [hT]
  simp only
  unfold wholeP
  rw [hgr, bnd_ok]
  simp only
  rw [hend, if_pos (show (tokE (S (txp P y)).size).kind = 0 from rfl), if_neg (by omega)]
end Go.Proofs.YtlhlpamciafocaaGreatDoor.L
namespace Go.Proofs.YtlhlpamciafocaaGreatDoor.L
open Go.RowKit Go.Shelf
set_option linter.unusedVariables false
theorem nest_root {P : List Pt} (hok : Ok0 P) (h1 : 1 ≤ P.length) : (nests P).getD (P.length - 1) 0 = 0 := by
  unfold nests
  rw [nsts_at hok P.length _ (P.length - 1) (Nat.le_refl _) (by simp) (fun k hk h9 => by have := (hok k hk).lt h9; omega)]
  rw [List.getD_eq_getElem?_getD, List.getElem?_replicate]
  split <;> rfl
/-- The text of a valid tree, if it is short enough, reads as that tree. -/
theorem reads_res {P : List Pt} (h : Res P 0 0) (hs : Shrt P P.length) : ∃ s, parR (S ((txs P P.length).getD (P.length - 1) [])) = .ok s ∧ s.ps = P := by
  rcases h with ⟨_, h, _⟩ | ⟨_, h, _⟩ | ⟨h1, h2, ⟨_, h⟩ | ⟨_, _, h, _⟩ | ⟨hok, hl, ⟨_, h⟩ | ⟨hd, _, _⟩⟩⟩
  · exact absurd h (by decide)
  · exact absurd h (by decide)
  · exact absurd h (by decide)
  · exact absurd h (by decide)
  · exact absurd h (by decide)
  · exact reads_back h1 h2 hok hl hd (nest_root hok h1) (hs _ (by omega))
end Go.Proofs.YtlhlpamciafocaaGreatDoor.L
namespace Go.Proofs.YtlhlpamciafocaaGreatDoor.L
open Go.RowKit Go.Shelf
set_option linter.unusedVariables false
set_option linter.unusedSimpArgs false
end Go.Proofs.YtlhlpamciafocaaGreatDoor.L
namespace Go.Proofs.YtlhlpamciafocaaGreatDoor.L
open Go.RowKit Go.Shelf
set_option linter.unusedVariables false
set_option linter.unusedSimpArgs false
section
variable {T : List Tok}
end
end Go.Proofs.YtlhlpamciafocaaGreatDoor.L
namespace Go.Proofs.YtlhlpamciafocaaGreatDoor.L
open Go.RowKit Go.Shelf
set_option linter.unusedVariables false
set_option linter.unusedSimpArgs false
section
variable {T : List Tok}
end
end Go.Proofs.YtlhlpamciafocaaGreatDoor.L
namespace Go.Proofs.YtlhlpamciafocaaGreatDoor.L
open Go.RowKit Go.Shelf
set_option linter.unusedVariables false
set_option linter.unusedSimpArgs false
section
variable {T : List Tok}
end
end Go.Proofs.YtlhlpamciafocaaGreatDoor.L
namespace Go.Proofs.YtlhlpamciafocaaGreatDoor.L
open Go.RowKit Go.Shelf
set_option linter.unusedVariables false
set_option linter.unusedSimpArgs false
end Go.Proofs.YtlhlpamciafocaaGreatDoor.L
namespace Go.RowKit
open Go
section
variable {n : Nat} {P : Program} {ops : Array Oper} {Q : Exit → Act → World → Prop} {md : Region.Mode} {l : Nat} {F : Fence}
end
end Go.RowKit
namespace Go.Proofs.YtlhlpamciafocaaGreatDoor.L.Sw
open Go.RowKit
set_option linter.unusedVariables false
theorem loadFm (W : World) (N : Nat) (a b c d e f g : Value) (h : W.heap[N]? = some (.cells #[a, b, c, d, e, f, g] 88 (0, 0))) : (loadVar 88 ⟨N, 0, none⟩).run Tryz.prog W = .ok (.agg #[a, b, c, d, e, f, g]) W := by
  have h0 : W.cell? ⟨N, 0, none⟩ = some a := by unfold World.cell?; rw [h]; rfl
  have h1 : W.cell? ⟨N, 1, none⟩ = some b := by unfold World.cell?; rw [h]; rfl
  have h2 : W.cell? ⟨N, 2, none⟩ = some c := by unfold World.cell?; rw [h]; rfl
  have h3 : W.cell? ⟨N, 3, none⟩ = some d := by unfold World.cell?; rw [h]; rfl
  have h4 : W.cell? ⟨N, 4, none⟩ = some e := by unfold World.cell?; rw [h]; rfl
  have h5 : W.cell? ⟨N, 5, none⟩ = some f := by unfold World.cell?; rw [h]; rfl
  have h6 : W.cell? ⟨N, 6, none⟩ = some g := by unfold World.cell?; rw [h]; rfl
  go_simp
theorem res_fm {fn : Func} {p : Tmp} (hr : fn.results = #[.cell p 88]) (tmps : Array Value) (W : World) (N : Nat) (a b c d e f g : Value) (hp : tmps.getD p undef = .pointer (some ⟨N, 0, none⟩)) (h : W.heap[N]? = some (.cells #[a, b, c, d, e, f, g] 88 (0, 0))) :
    (results fn tmps).run Tryz.prog W = .ok (.agg #[a, b, c, d, e, f, g]) W := by
  rw [results_cell1 hr, hp]
  have := loadFm W N a b c d e f g h
  simp [asAddr, this, Result.andThen]
set_option maxHeartbeats 4000000 in
theorem formof_any (k : Int) (w : World) : Calls Tryz.prog 39 #[.int .i64 k] w fun e w' => e = .returned (fmv (fmO k)) ∧ Below w.heap.size w w' := by
  rcases kind_cases k with (rfl | rfl | rfl | rfl | rfl | rfl | rfl | rfl | rfl | rfl | rfl | rfl | rfl | rfl | rfl | rfl | rfl | rfl | rfl | rfl) | h
  case inr =>
    have e1 : (k == 1) = false := by simp; omega
    have e2 : (k == 2) = false := by simp; omega
    have e3 : (k == 3) = false := by simp; omega
    have e4 : (k == 4) = false := by simp; omega
    have e5 : (k == 5) = false := by simp; omega
    have e6 : (k == 6) = false := by simp; omega
    have e7 : (k == 7) = false := by simp; omega
    have e8 : (k == 8) = false := by simp; omega
    have e9 : (k == 9) = false := by simp; omega
    have e10 : (k == 10) = false := by simp; omega
    have e11 : (k == 11) = false := by simp; omega
    have e12 : (k == 12) = false := by simp; omega
    have e13 : (k == 13) = false := by simp; omega
    have e14 : (k == 14) = false := by simp; omega
    have e15 : (k == 15) = false := by simp; omega
    have e16 : (k == 16) = false := by simp; omega
    have e17 : (k == 17) = false := by simp; omega
    have e18 : (k == 18) = false := by simp; omega
    have e19 : (k == 19) = false := by simp; omega
    have e20 : (k == 20) = false := by simp; omega
    have ef : fmO k = ⟨0, 0, 0, 0, false, 0, 0⟩ := by unfold fmO; repeat rw [if_neg (by omega)]
    rw [ef]
    clear ef h
    go_enter Tryz.func39, Tryz.ntmps39
    go_wp2
    (try simp only [Exit.inBlock, Exit.then])
    refine bodyPost_ret (res_fm rfl _ _ w.heap.size _ _ _ _ _ _ _ rfl (heap_alloc_new w _)) rfl ⟨rfl, belowA w _⟩
  all_goals
    go_enter Tryz.func39, Tryz.ntmps39
    go_wp2
    (try simp only [Exit.inBlock, Exit.then])
    refine bodyPost_ret (res_fm rfl _ _ w.heap.size _ _ _ _ _ _ _ rfl (heap_alloc_new w _)) rfl ⟨rfl, belowA w _⟩
end Go.Proofs.YtlhlpamciafocaaGreatDoor.L.Sw
namespace Go.Proofs.YtlhlpamciafocaaGreatDoor.L.Sw
open Go.RowKit
set_option linter.unusedVariables false
set_option maxHeartbeats 4000000 in
theorem fits_any (f : Fm) (kd nu : Int) (tx : ByteArray) (a : Option Addr) (n c : Nat) (w : World) : Calls Tryz.prog 56 #[fmv f, .agg #[.int .i64 kd, .string tx, .int .i64 nu, .slice a n c]] w fun e w' => e = .returned (.bool (fitsB f tx nu n)) ∧ Below w.heap.size w w' := by
  unfold fmv
  go_enter Tryz.func56, Tryz.ntmps56
  go_wp2
  all_goals go_ret
  all_goals refine ⟨ret_bool ?_, (belowA w _).alloc (by simp) _⟩
  all_goals unfold fitsB
  all_goals first | (simp_all; done) | (simp_all; omega) | (rw [Bool.eq_iff_iff]; simp_all; done) | (rw [Bool.eq_iff_iff]; simp_all; omega)
set_option maxHeartbeats 4000000 in
theorem takes_any (f : Fm) (c : Int) (w : World) : Calls Tryz.prog 55 #[fmv f, .int .i64 c] w fun e w' => e = .returned (.bool (takesB f c)) ∧ Below w.heap.size w w' := by
  unfold fmv
  go_enter Tryz.func55, Tryz.ntmps55
  go_wp2
  all_goals go_ret
  all_goals refine ⟨ret_bool ?_, belowA w _⟩
  all_goals unfold takesB
  all_goals first | (simp_all; done) | (simp_all; omega) | (rw [Bool.eq_iff_iff]; simp_all; done) | (rw [Bool.eq_iff_iff]; simp_all; omega)
end Go.Proofs.YtlhlpamciafocaaGreatDoor.L.Sw
