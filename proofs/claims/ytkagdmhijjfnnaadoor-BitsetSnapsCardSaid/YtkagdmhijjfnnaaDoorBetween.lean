import Derived.Test.YtkagdmhijjfnnaaDoorNear
namespace Go.Proofs.YtkagdmhijjfnnaaDoor
open Go.RowKit Bs
set_option maxRecDepth 100000 in
set_option maxHeartbeats 8000000 in
theorem between_none (p : Nat) (a : Option Addr) (cap : Nat) (w : World) :
    Calls Tryd.prog 33 #[.pointer (some ⟨p, 0, none⟩), .slice a 0 cap] w fun e w' => e = .returned (.bool true) ∧ Like w w' := by
  go_enter Tryd.func33, Tryd.ntmps33
  go_wp2_with fail
  go_loop [5] (fun i => i = .int .i64 0) (fun _ => 0)
  case atStart => rfl
  case round =>
    obtain rfl := hrel
    go_wp2_with fail
    go_ret
    exact ⟨rfl, Like.refl _⟩
set_option maxRecDepth 100000 in
set_option maxHeartbeats 8000000 in
theorem between_some {p q n : Nat} {S : Nat → Bool} (b off cap : Nat) (zs : List Int) (w : World) (h : SetAt w p q n S) (ht : Tab w)
    (hz : ∀ j, j < zs.length → w.cell? ⟨b, off + j, none⟩ = some (.int .i64 (zs.getD j 0))) (reach : zs.length * 8 ≤ 140737488351232) :
    Calls Tryd.prog 33 #[.pointer (some ⟨p, 0, none⟩), .slice (some ⟨b, off, none⟩) zs.length cap] w fun e w' => e = .returned (.bool true) ∧ Like w w' := by
  have HS := hid (fun W (k : Like w W) => h.low k.low)
  have HT := hid (fun W (k : Like w W) => ht.low k.low ht.pos)
  have HZ := hid hz
  have HCL := hid h.cl
  have hnb := h.hn
  obtain ⟨L, hLe⟩ : ∃ L, L = zs.length := ⟨_, rfl⟩
  have HLE := hid hLe
  rw [← hLe] at reach ⊢
  clear hLe h ht hz
  go_enter Tryd.func33, Tryd.ntmps33
  go_wp2_with fail
  go_loopw [5] (fun i wr => ∃ j : Nat, j ≤ L ∧ i = .int .i64 j ∧ Like w wr) (fun i _ => L - (intOf i).toNat)
  case atStart => exact ⟨0, Nat.zero_le _, rfl, Like.refl _⟩
  case round =>
    obtain ⟨j, hj, rfl, hlike⟩ := hrel
    have LK := hid hlike
    clear hlike
    by_cases hlt : j < L
    · have hi1 : j < zs.length := by rw [← HLE.out]; exact hlt
      have hcz := (LK.out.cell ⟨b, off + j, none⟩).trans (HZ.out j hi1)
      have hjL : (j : Int) < (L : Int) := by omega
      obtain ⟨i, hie⟩ : ∃ i, i = zs.getD j 0 := ⟨_, rfl⟩
      rw [← hie] at hcz
      obtain ⟨r, hr⟩ := IsNext.ex n S i HCL.out
      have HNX := hid (fun W (k : Like w W) => next_set i r W (HS.out W k) (HT.out W k) hr)
      have HSR := hid hr
      have HSL := hid (next_sel hr)
      have hkb := rank_le n S i hnb
      have HRK := hid (fun W (k : Like w W) => rank_set i W (HS.out W k))
      have HPS := hid (fun r (hno : ∀ a : Nat, i = a → S a = false) (h : IsPrev n S i r) => prev_sel hno h)
      obtain ⟨k, hk⟩ : ∃ k, k = rank n S i := ⟨_, rfl⟩
      rw [← hk] at HSL hkb HPS
      simp only [← hk] at HRK
      have HSC := hid (fun W (l : Like w W) => sel_set (k : Int) r W (HS.out W l) (HT.out W l) (by omega) HSL.out)
      clear hie hi1 hr hk
      by_cases hin : ∃ a : Nat, i = a ∧ a < n ∧ S a = true
      · obtain ⟨a, rfl, han, has⟩ := hin
        obtain rfl := HSR.out.one (next_has a han has)
        have HHS := hid (fun W (k : Like w W) => has_true a W (HS.out W k) han has)
        have HPV := hid (fun W (k : Like w W) => prev_set a a W (HS.out W k) (prev_has a han has))
        have hge : decide ((0 : Int) ≤ (a : Int)) = true := by simp
        clear has han
        go_wp2_with (first
          | (go_at_call 28; refine (HRK.out _ (by repeat (first | exact LK.out | apply Like.drewN))).mono ?_; rintro e w1 ⟨rfl, m, hww⟩; subst hww)
          | (go_at_call 31; refine (HNX.out _ (by repeat (first | exact LK.out | apply Like.drewN))).mono ?_; rintro e w1 ⟨rfl, m, hww⟩; subst hww)
          | (go_at_call 29; refine (HSC.out _ (by repeat (first | exact LK.out | apply Like.drewN))).mono ?_; rintro e w1 ⟨rfl, hww⟩; subst hww)
          | (go_at_call 30; refine (HHS.out _ (by repeat (first | exact LK.out | apply Like.drewN))).mono ?_; rintro e w1 ⟨rfl, m, hww⟩; subst hww)
          | (go_at_call 32; refine (HPV.out _ (by repeat (first | exact LK.out | apply Like.drewN))).mono ?_; rintro e w1 ⟨rfl, m, hww⟩; subst hww))
        go_roundw
        case rel => exact ⟨j + 1, by omega, by go_num, LK.out.drewN _⟩
        case measure => simp [intOf]; omega
      · have hno : ∀ a : Nat, i = a → S a = false := fun a ha => by
          cases e : S a
          · rfl
          · refine absurd ⟨a, ha, ?_, e⟩ hin
            apply Classical.byContradiction
            intro d
            rw [HCL.out a (by omega)] at e; cases e
        obtain ⟨r2, hr2⟩ := IsPrev.ex n S i HCL.out
        have HHS := hid (fun W (k : Like w W) => has_false i W (HS.out W k) hno)
        have HPV := hid (fun W (k : Like w W) => prev_set i r2 W (HS.out W k) hr2)
        obtain ⟨k1, hk1⟩ : ∃ k1, (k : Int) - 1 = k1 := ⟨_, rfl⟩
        have HS2 := hid (fun W (l : Like w W) => sel_set k1 r2 W (HS.out W l) (HT.out W l) (by omega) (by rw [← hk1]; exact HPS.out r2 hno hr2))
        have HNN := hid (next_not hno HSR.out)
        clear hno hr2 hin
        by_cases hri : r = i
        · have hge : decide ((0 : Int) ≤ i) = false := by have := HNN.out hri; rw [decide_eq_false_iff_not]; omega
          subst hri
          go_wp2_with fail
          refine (HRK.out _ LK.out).mono ?_
          rintro e w1 ⟨rfl, m, hww⟩
          subst hww
          go_wp2_with fail
          refine (HNX.out _ (LK.out.drewN _)).mono ?_
          rintro e w1 ⟨rfl, m, hww⟩
          subst hww
          go_wp2_with fail
          refine (HSC.out _ (LK.out.drewN _)).mono ?_
          rintro e w1 ⟨rfl, hww⟩
          subst hww
          go_wp2_with fail
          refine (HHS.out _ (LK.out.drewN _)).mono ?_
          rintro e w1 ⟨rfl, m, hww⟩
          subst hww
          go_wp2_with fail
          refine (HNX.out _ (LK.out.drewN _)).mono ?_
          rintro e w1 ⟨rfl, m, hww⟩
          subst hww
          go_wp2_with fail
          refine (HHS.out _ (LK.out.drewN _)).mono ?_
          rintro e w1 ⟨rfl, m, hww⟩
          subst hww
          go_wp2_with fail
          refine (HHS.out _ (LK.out.drewN _)).mono ?_
          rintro e w1 ⟨rfl, m, hww⟩
          subst hww
          go_wp2_with fail
          refine (HPV.out _ (LK.out.drewN _)).mono ?_
          rintro e w1 ⟨rfl, m, hww⟩
          subst hww
          go_wp2_with fail
          refine (HS2.out _ (LK.out.drewN _)).mono ?_
          rintro e w1 ⟨rfl, hww⟩
          subst hww
          go_wp2_with fail
          go_roundw
          case rel => exact ⟨j + 1, by omega, by go_num, LK.out.drewN _⟩
          case measure => simp [intOf]; omega
        · have hb1 : (r == i) = false := beq_eq_false_iff_ne.2 hri
          have HRI := hid hri
          clear hri
          go_wp2_with fail
          refine (HRK.out _ LK.out).mono ?_
          rintro e w1 ⟨rfl, m, hww⟩
          subst hww
          go_wp2_with fail
          refine (HNX.out _ (LK.out.drewN _)).mono ?_
          rintro e w1 ⟨rfl, m, hww⟩
          subst hww
          go_wp2_with fail
          refine (HSC.out _ (LK.out.drewN _)).mono ?_
          rintro e w1 ⟨rfl, hww⟩
          subst hww
          go_wp2_with fail
          refine (HHS.out _ (LK.out.drewN _)).mono ?_
          rintro e w1 ⟨rfl, m, hww⟩
          subst hww
          go_wp2_with fail
          refine (HNX.out _ (LK.out.drewN _)).mono ?_
          rintro e w1 ⟨rfl, m, hww⟩
          subst hww
          go_wp2_with fail
          refine (HHS.out _ (LK.out.drewN _)).mono ?_
          rintro e w1 ⟨rfl, m, hww⟩
          subst hww
          go_wp2_with fail
          refine (HHS.out _ (LK.out.drewN _)).mono ?_
          rintro e w1 ⟨rfl, m, hww⟩
          subst hww
          go_wp2_with fail
          refine (HPV.out _ (LK.out.drewN _)).mono ?_
          rintro e w1 ⟨rfl, m, hww⟩
          subst hww
          go_wp2_with fail
          refine (HS2.out _ (LK.out.drewN _)).mono ?_
          rintro e w1 ⟨rfl, hww⟩
          subst hww
          go_wp2_with fail
          go_roundw
          case rel => exact ⟨j + 1, by omega, by go_num, LK.out.drewN _⟩
          case measure => simp [intOf]; omega
    · go_wp2_with fail
      go_ret
      exact ⟨rfl, LK.out⟩
/-- between. -/
theorem between_any {p q n : Nat} {S : Nat → Bool} (v : Value) (zs : List Int) (w : World) (h : SetAt w p q n S) (ht : Tab w) (hv : Ints w v zs) (reach : zs.length * 8 ≤ 140737488351232) :
    Calls Tryd.prog 33 #[.pointer (some ⟨p, 0, none⟩), v] w fun e w' => e = .returned (.bool true) ∧ Like w w' := by
  rcases hv with ⟨a, cap, rfl, rfl⟩ | ⟨b, off, cap, rfl, hb, hc⟩
  · exact between_none _ _ _ w
  · exact between_some b off cap zs w h ht hc reach
end Go.Proofs.YtkagdmhijjfnnaaDoor
