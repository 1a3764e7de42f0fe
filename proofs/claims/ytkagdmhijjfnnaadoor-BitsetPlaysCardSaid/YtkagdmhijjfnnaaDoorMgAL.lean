import Derived.Test.YtkagdmhijjfnnaaDoorMgAK
namespace Go.Proofs.YtkagdmhijjfnnaaDoor
open Go.RowKit Bs
theorem card_gap (S : Nat → Bool) {a b : Nat} (h : a ≤ b) (hn : ∀ t, a ≤ t → t < b → S t = false) : card b S = card a S := by
  obtain ⟨k, rfl⟩ : ∃ k, b = a + k := ⟨b - a, by omega⟩
  rw [card_shift, (card_zero_iff _ k).2 (fun i hi => hn (a + i) (by omega) (by omega)), Nat.add_zero]
theorem card_next (S : Nat → Bool) (a : Nat) (h : S a = true) : card (a + 1) S = card a S + 1 := by
  rw [card_shift]
  have : card 1 (fun b => S (a + b)) = 1 := by simp [card, h]
  omega
theorem next_sel {n : Nat} {S : Nat → Bool} {i r : Int} (h : IsNext n S i r) : IsSel n S ((rank n S i : Nat) : Int) r := by
  unfold rank
  rcases h with ⟨j, rfl, hj, hs, hi, ha⟩ | ⟨rfl, ha⟩
  · refine Or.inl ⟨j, rfl, hj, hs, ?_⟩
    have := card_gap S (a := min i.toNat n) (b := j) (by omega) (fun t h1 h2 => ha t (by omega) h2)
    omega
  · refine Or.inr ⟨rfl, Or.inr ?_⟩
    have := card_gap S (a := min i.toNat n) (b := n) (by omega) (fun t h1 h2 => ha t (by omega))
    omega
theorem prev_sel {n : Nat} {S : Nat → Bool} {i r : Int} (hno : ∀ a : Nat, i = a → S a = false) (h : IsPrev n S i r) : IsSel n S (((rank n S i : Nat) : Int) - 1) r := by
  unfold rank
  rcases h with ⟨j, rfl, hj, hs, hi, ha⟩ | ⟨rfl, ha⟩
  · refine Or.inl ⟨j, rfl, hj, hs, ?_⟩
    have hlt : (j : Int) < i := by
      apply Classical.byContradiction
      intro c
      rw [hno j (by omega)] at hs; cases hs
    have := card_gap S (a := j + 1) (b := min i.toNat n) (by omega) (fun t h1 h2 => ha t (by omega) (by omega))
    have := card_next S j hs
    omega
  · refine Or.inr ⟨rfl, Or.inl ?_⟩
    have := (card_zero_iff S (min i.toNat n)).2 (fun t ht => ha t (by omega))
    omega
theorem next_has {n : Nat} {S : Nat → Bool} (a : Nat) (h : a < n) (hs : S a = true) : IsNext n S a a := Or.inl ⟨a, rfl, h, hs, Int.le_refl _, fun t h1 h2 => by omega⟩
theorem prev_has {n : Nat} {S : Nat → Bool} (a : Nat) (h : a < n) (hs : S a = true) : IsPrev n S a a := Or.inl ⟨a, rfl, h, hs, Int.le_refl _, fun t h1 h2 => by omega⟩
theorem IsPrev.ex (n : Nat) (S : Nat → Bool) (i : Int) (hc : ∀ t, n ≤ t → S t = false) : ∃ r, IsPrev n S i r := by
  by_cases h : ∃ t : Nat, t < n ∧ (t : Int) ≤ i ∧ S t = true
  · have key : ∀ m, ∀ t : Nat, n ≤ t + m → t < n → (t : Int) ≤ i → S t = true → ∃ j : Nat, j < n ∧ S j = true ∧ (j : Int) ≤ i ∧ ∀ t : Nat, j < t → (t : Int) ≤ i → S t = false := by
      intro m
      induction m with
      | zero => intro t h1 h2; omega
      | succ m ih =>
        intro t h1 h2 h3 h4
        by_cases c : ∃ u : Nat, t < u ∧ (u : Int) ≤ i ∧ S u = true
        · obtain ⟨u, u1, u2, u3⟩ := c
          refine ih u (by omega) ?_ u2 u3
          apply Classical.byContradiction
          intro d
          rw [hc u (by omega)] at u3; cases u3
        · refine ⟨t, h2, h4, h3, fun u u1 u2 => ?_⟩
          cases e : S u
          · rfl
          · exact absurd ⟨u, u1, u2, e⟩ c
    obtain ⟨t, h1, h2, h3⟩ := h
    obtain ⟨j, a, b, c, d⟩ := key n t (by omega) h1 h2 h3
    exact ⟨j, Or.inl ⟨j, rfl, a, b, c, d⟩⟩
  · refine ⟨-1, Or.inr ⟨rfl, fun t ht => ?_⟩⟩
    cases e : S t
    · rfl
    · refine absurd ⟨t, ?_, ht, e⟩ h
      apply Classical.byContradiction
      intro d
      rw [hc t (by omega)] at e; cases e
theorem next_not {n : Nat} {S : Nat → Bool} {i r : Int} (hno : ∀ a : Nat, i = a → S a = false) (h : IsNext n S i r) (hr : r = i) : i < 0 := by
  rcases h with ⟨j, rfl, hj, hs, hi, ha⟩ | ⟨rfl, ha⟩
  · rw [hno j (by omega)] at hs; cases hs
  · omega
theorem has_false {p q n : Nat} {S : Nat → Bool} (i : Int) (w : World) (h : SetAt w p q n S) (hno : ∀ a : Nat, i = a → S a = false) :
    Calls Tryd.prog 30 #[.pointer (some ⟨p, 0, none⟩), .int .i64 i] w fun e w' => e = .returned (.bool false) ∧ ∃ m, w' = w.drewN m := by
  by_cases c : 0 ≤ i ∧ i < n
  · obtain ⟨a, rfl⟩ := Int.eq_ofNat_of_zero_le c.1
    have := has_set a w h (by omega)
    rwa [hno a rfl] at this
  · exact has_no p n i w h.c0 c
theorem rank_le (n : Nat) (S : Nat → Bool) (i : Int) (hn : n ≤ 65536) : rank n S i ≤ 65536 := by
  unfold rank
  have := card_le S (min i.toNat n)
  omega
end Go.Proofs.YtkagdmhijjfnnaaDoor
namespace Go.Proofs.YtkagdmhijjfnnaaDoor
open Go.RowKit Bs
set_option maxRecDepth 100000 in
set_option maxHeartbeats 8000000 in
theorem between_none (p : Nat) (a : Option Addr) (cap : Nat) (w : World) :
    Calls Tryd.prog 33 #[.pointer (some ⟨p, 0, none⟩), .slice a 0 cap] w fun e w' => e = .returned (.bool true) ∧ Like w w' := by
  go_enter Tryd.func33, Tryd.ntmps33
  go_wp2_with fail
  go_loop [5] (fun i => i = .int .i64 0) (fun _ => 0)
  case atStart => rfl
  case round =>
    obtain rfl := hrel
    go_wp2_with fail
    go_ret
    exact ⟨rfl, Like.refl _⟩
set_option maxRecDepth 100000 in
set_option maxHeartbeats 8000000 in
theorem between_some {p q n : Nat} {S : Nat → Bool} (b off cap : Nat) (zs : List Int) (w : World) (h : SetAt w p q n S) (ht : Tab w)
    (hz : ∀ j, j < zs.length → w.cell? ⟨b, off + j, none⟩ = some (.int .i64 (zs.getD j 0))) (reach : zs.length * 8 ≤ 140737488351232) :
    Calls Tryd.prog 33 #[.pointer (some ⟨p, 0, none⟩), .slice (some ⟨b, off, none⟩) zs.length cap] w fun e w' => e = .returned (.bool true) ∧ Like w w' := by
  have HS := hid (fun W (k : Like w W) => h.low k.low)
  have HT := hid (fun W (k : Like w W) => ht.low k.low ht.pos)
  have HZ := hid hz
  have HCL := hid h.cl
  have hnb := h.hn
  obtain ⟨L, hLe⟩ : ∃ L, L = zs.length := ⟨_, rfl⟩
  have HLE := hid hLe
  rw [← hLe] at reach ⊢
  clear hLe h ht hz
  go_enter Tryd.func33, Tryd.ntmps33
  go_wp2_with fail
  go_loopw [5] (fun i wr => ∃ j : Nat, j ≤ L ∧ i = .int .i64 j ∧ Like w wr) (fun i _ => L - (intOf i).toNat)
  case atStart => exact ⟨0, Nat.zero_le _, rfl, Like.refl _⟩
  case round =>
    obtain ⟨j, hj, rfl, hlike⟩ := hrel
    have LK := hid hlike
    clear hlike
    by_cases hlt : j < L
    · have hi1 : j < zs.length := by rw [← HLE.out]; exact hlt
      have hcz := (LK.out.cell ⟨b, off + j, none⟩).trans (HZ.out j hi1)
      have hjL : (j : Int) < (L : Int) := by omega
      obtain ⟨i, hie⟩ : ∃ i, i = zs.getD j 0 := ⟨_, rfl⟩
      rw [← hie] at hcz
      obtain ⟨r, hr⟩ := IsNext.ex n S i HCL.out
      have HNX := hid (fun W (k : Like w W) => next_set i r W (HS.out W k) (HT.out W k) hr)
      have HSR := hid hr
      have HSL := hid (next_sel hr)
      have hkb := rank_le n S i hnb
      have HRK := hid (fun W (k : Like w W) => rank_set i W (HS.out W k))
      have HPS := hid (fun r (hno : ∀ a : Nat, i = a → S a = false) (h : IsPrev n S i r) => prev_sel hno h)
      obtain ⟨k, hk⟩ : ∃ k, k = rank n S i := ⟨_, rfl⟩
      rw [← hk] at HSL hkb HPS
      simp only [← hk] at HRK
      have HSC := hid (fun W (l : Like w W) => sel_set (k : Int) r W (HS.out W l) (HT.out W l) (by omega) HSL.out)
      clear hie hi1 hr hk
      by_cases hin : ∃ a : Nat, i = a ∧ a < n ∧ S a = true
      · obtain ⟨a, rfl, han, has⟩ := hin
        obtain rfl := HSR.out.one (next_has a han has)
        have HHS := hid (fun W (k : Like w W) => has_true a W (HS.out W k) han has)
        have HPV := hid (fun W (k : Like w W) => prev_set a a W (HS.out W k) (prev_has a han has))
        have hge : decide ((0 : Int) ≤ (a : Int)) = true := by simp
        clear has han
        go_wp2_with (first
          | (go_at_call 28; refine (HRK.out _ (by repeat (first | exact LK.out | apply Like.drewN))).mono ?_; rintro e w1 ⟨rfl, m, hww⟩; subst hww)
          | (go_at_call 31; refine (HNX.out _ (by repeat (first | exact LK.out | apply Like.drewN))).mono ?_; rintro e w1 ⟨rfl, m, hww⟩; subst hww)
          | (go_at_call 29; refine (HSC.out _ (by repeat (first | exact LK.out | apply Like.drewN))).mono ?_; rintro e w1 ⟨rfl, hww⟩; subst hww)
          | (go_at_call 30; refine (HHS.out _ (by repeat (first | exact LK.out | apply Like.drewN))).mono ?_; rintro e w1 ⟨rfl, m, hww⟩; subst hww)
          | (go_at_call 32; refine (HPV.out _ (by repeat (first | exact LK.out | apply Like.drewN))).mono ?_; rintro e w1 ⟨rfl, m, hww⟩; subst hww))
        go_roundw
        case rel => exact ⟨j + 1, by omega, by go_num, LK.out.drewN _⟩
        case measure => simp [intOf]; omega
      · have hno : ∀ a : Nat, i = a → S a = false := fun a ha => by
          cases e : S a
          · rfl
          · refine absurd ⟨a, ha, ?_, e⟩ hin
            apply Classical.byContradiction
            intro d
            rw [HCL.out a (by omega)] at e; cases e
        obtain ⟨r2, hr2⟩ := IsPrev.ex n S i HCL.out
        have HHS := hid (fun W (k : Like w W) => has_false i W (HS.out W k) hno)
        have HPV := hid (fun W (k : Like w W) => prev_set i r2 W (HS.out W k) hr2)
        obtain ⟨k1, hk1⟩ : ∃ k1, (k : Int) - 1 = k1 := ⟨_, rfl⟩
        have HS2 := hid (fun W (l : Like w W) => sel_set k1 r2 W (HS.out W l) (HT.out W l) (by omega) (by rw [← hk1]; exact HPS.out r2 hno hr2))
        have HNN := hid (next_not hno HSR.out)
        clear hno hr2 hin
        by_cases hri : r = i
        · have hge : decide ((0 : Int) ≤ i) = false := by have := HNN.out hri; rw [decide_eq_false_iff_not]; omega
          subst hri
          go_wp2_with fail
          refine (HRK.out _ LK.out).mono ?_
          rintro e w1 ⟨rfl, m, hww⟩
          subst hww
          go_wp2_with fail
          refine (HNX.out _ (LK.out.drewN _)).mono ?_
          rintro e w1 ⟨rfl, m, hww⟩
          subst hww
          go_wp2_with fail
          refine (HSC.out _ (LK.out.drewN _)).mono ?_
          rintro e w1 ⟨rfl, hww⟩
          subst hww
          go_wp2_with fail
          refine (HHS.out _ (LK.out.drewN _)).mono ?_
          rintro e w1 ⟨rfl, m, hww⟩
          subst hww
          go_wp2_with fail
          refine (HNX.out _ (LK.out.drewN _)).mono ?_
          rintro e w1 ⟨rfl, m, hww⟩
          subst hww
          go_wp2_with fail
          refine (HHS.out _ (LK.out.drewN _)).mono ?_
          rintro e w1 ⟨rfl, m, hww⟩
          subst hww
          go_wp2_with fail
          refine (HHS.out _ (LK.out.drewN _)).mono ?_
          rintro e w1 ⟨rfl, m, hww⟩
          subst hww
          go_wp2_with fail
          refine (HPV.out _ (LK.out.drewN _)).mono ?_
          rintro e w1 ⟨rfl, m, hww⟩
          subst hww
          go_wp2_with fail
          refine (HS2.out _ (LK.out.drewN _)).mono ?_
          rintro e w1 ⟨rfl, hww⟩
          subst hww
          go_wp2_with fail
          go_roundw
          case rel => exact ⟨j + 1, by omega, by go_num, LK.out.drewN _⟩
          case measure => simp [intOf]; omega
        · have hb1 : (r == i) = false := beq_eq_false_iff_ne.2 hri
          have HRI := hid hri
          clear hri
          go_wp2_with fail
          refine (HRK.out _ LK.out).mono ?_
          rintro e w1 ⟨rfl, m, hww⟩
          subst hww
          go_wp2_with fail
          refine (HNX.out _ (LK.out.drewN _)).mono ?_
          rintro e w1 ⟨rfl, m, hww⟩
          subst hww
          go_wp2_with fail
          refine (HSC.out _ (LK.out.drewN _)).mono ?_
          rintro e w1 ⟨rfl, hww⟩
          subst hww
          go_wp2_with fail
          refine (HHS.out _ (LK.out.drewN _)).mono ?_
          rintro e w1 ⟨rfl, m, hww⟩
          subst hww
          go_wp2_with fail
          refine (HNX.out _ (LK.out.drewN _)).mono ?_
          rintro e w1 ⟨rfl, m, hww⟩
          subst hww
          go_wp2_with fail
          refine (HHS.out _ (LK.out.drewN _)).mono ?_
          rintro e w1 ⟨rfl, m, hww⟩
          subst hww
          go_wp2_with fail
          refine (HHS.out _ (LK.out.drewN _)).mono ?_
          rintro e w1 ⟨rfl, m, hww⟩
          subst hww
          go_wp2_with fail
          refine (HPV.out _ (LK.out.drewN _)).mono ?_
          rintro e w1 ⟨rfl, m, hww⟩
          subst hww
          go_wp2_with fail
          refine (HS2.out _ (LK.out.drewN _)).mono ?_
          rintro e w1 ⟨rfl, hww⟩
          subst hww
          go_wp2_with fail
          go_roundw
          case rel => exact ⟨j + 1, by omega, by go_num, LK.out.drewN _⟩
          case measure => simp [intOf]; omega
    · go_wp2_with fail
      go_ret
      exact ⟨rfl, LK.out⟩
/-- between. -/
theorem between_any {p q n : Nat} {S : Nat → Bool} (v : Value) (zs : List Int) (w : World) (h : SetAt w p q n S) (ht : Tab w) (hv : Ints w v zs) (reach : zs.length * 8 ≤ 140737488351232) :
    Calls Tryd.prog 33 #[.pointer (some ⟨p, 0, none⟩), v] w fun e w' => e = .returned (.bool true) ∧ Like w w' := by
  rcases hv with ⟨a, cap, rfl, rfl⟩ | ⟨b, off, cap, rfl, hb, hc⟩
  · exact between_none _ _ _ w
  · exact between_some b off cap zs w h ht hc reach
end Go.Proofs.YtkagdmhijjfnnaaDoor
