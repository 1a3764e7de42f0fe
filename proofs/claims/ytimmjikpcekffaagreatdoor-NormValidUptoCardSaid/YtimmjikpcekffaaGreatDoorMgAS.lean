import Derived.Test.YtimmjikpcekffaaGreatDoorNve
import Derived.Test.YtimmjikpcekffaaGreatDoorMgAE
import Derived.Test.YtimmjikpcekffaaGreatDoorNvo
namespace Go.Proofs.YtimmjikpcekffaaGreatDoor.L
open Go.RowKit
set_option linter.unusedVariables false
set_option linter.unusedSimpArgs false
/-- A valid plan. -/
def VaP (M : List Pp) (S : List (List Pp)) : Prop := meS M S S.length ≤ 1000 ∧ (NoP M S ∨ PoP M S)
set_option maxHeartbeats 16000000 in
set_option maxRecDepth 100000 in
theorem nvalid_any (ma sa : Option Addr) (M : List Pp) (S : List (List Pp)) (mn sn mc sc : Nat) (hmn : mn = M.length) (hsn : sn = S.length) (w : World) (hM : PQ w ma M) (hS : PS w sa S) (hl : sn ≤ 4611686018427387904) (hB : meS M S S.length ≤ 4611686018427387904) (gM : GdP M) (gS : GdS' S) :
    Calls Tryz.prog 6 #[.agg #[.slice ma mn mc, .slice sa sn sc]] w fun e w' => (∃ b, e = .returned (.bool b) ∧ (b = true ↔ VaP M S)) ∧ Below w.heap.size w w' := by
  have LX : Below w.heap.size w (w.alloc (.cells #[.slice ma mn mc, .slice sa sn sc] 25)) := belowA w _
  have X0 : Bs (w.alloc (.cells #[.slice ma mn mc, .slice sa sn sc] 25)) w.heap.size [.slice ma mn mc, .slice sa sn sc] := by simpa using bs_new w #[.slice ma mn mc, .slice sa sn sc] 25
  have HLX := hid LX
  have HX0 := hid X0
  have HN := hid hsn
  have HMN := hid hmn
  have HM := hid (hM.low LX)
  have HS := hid (hS.low LX)
  have HB := hid hB
  have HL := hid hl
  have HGM := hid gM
  have HGS := hid gS
  clear LX X0 hmn hsn hM hS gM gS hB hl
  go_enter Tryz.func6, Tryz.ntmps6
  go_upto_region 1 with (fail)
  generalize w.alloc (.cells #[.slice ma mn mc, .slice sa sn sc] 25) = x0 at *
  have c0 := HX0.out.2 0 _ rfl
  have c1 := HX0.out.2 1 _ rfl
  generalize hbw : w.heap.size = bp at *
  have HBP := hid hbw
  clear hbw
  go_wp2_with fail
  refine (nfits_any ma sa M S mn sn mc sc HMN.out HN.out x0 HM.out HS.out HL.out HB.out).mono ?_
  rintro e x1 ⟨rfl, hb1⟩
  have HB1 := hid hb1
  have d0 := (HX0.out.low hb1).2 0 _ rfl
  have d1 := (HX0.out.low hb1).2 1 _ rfl
  clear hb1
  by_cases hf : meS M S S.length ≤ 1000
  · have HF := hid hf
    rw [show decide (meS M S S.length ≤ 1000) = true by simp [hf]]
    clear hf
    go_wp2_with fail
    refine (fnodes_any ma sa M S mn sn mc sc HMN.out HN.out x1 (HM.out.low HB1.out) (HS.out.low HB1.out) HL.out HGM.out HGS.out).mono ?_
    rintro e x2 ⟨⟨b, rfl, hbb⟩, hb2⟩
    have HB2 := hid (show Below x0.heap.size x0 x2 from HB1.out.trans (hb2.mono HB1.out.size))
    have HBB := hid hbb
    have e0 := (HX0.out.low HB2.out).2 0 _ rfl
    have e1 := (HX0.out.low HB2.out).2 1 _ rfl
    clear hbb hb2
    cases b
    · go_wp2_with fail
      refine (fpods_any ma sa M S mn sn mc sc HMN.out HN.out x2 (HM.out.low HB2.out) HGM.out).mono ?_
      rintro e x3 ⟨⟨b, rfl, hbb⟩, hb3⟩
      have HB3 := hid (show Below x0.heap.size x0 x3 from HB2.out.trans (hb3.mono HB2.out.size))
      have HBC := hid hbb
      clear hbb hb3
      go_wp2_with fail
      go_ret
      refine ⟨⟨_, rfl, ?_⟩, by rw [HBP.out]; exact HLX.out.trans (HB3.out.mono (by have h1 := HLX.out.size; have h2 := HBP.out; omega))⟩
      rw [HBC.out]
      constructor
      · exact fun h => ⟨HF.out, .inr h⟩
      · rintro ⟨_, h | h⟩
        · exact absurd (HBB.out.2 h) (by first | decide | simp)
        · exact h
    · go_wp2_with fail
      go_ret
      refine ⟨⟨_, rfl, ?_⟩, by rw [HBP.out]; exact HLX.out.trans (HB2.out.mono (by have h1 := HLX.out.size; have h2 := HBP.out; omega))⟩
      constructor
      · exact fun _ => ⟨HF.out, .inl (HBB.out.1 (by first | rfl | trivial))⟩
      · intro _; rfl
  · have HF := hid hf
    rw [show decide (meS M S S.length ≤ 1000) = false by simp [hf]]
    clear hf
    go_wp2_with fail
    go_ret
    refine ⟨⟨_, rfl, ?_⟩, by rw [HBP.out]; exact HLX.out.trans (HB1.out.mono (by have h1 := HLX.out.size; have h2 := HBP.out; omega))⟩
    constructor
    · intro h; cases h
    · intro h; exact absurd h.1 HF.out
end Go.Proofs.YtimmjikpcekffaaGreatDoor.L
namespace Go.Proofs.YtimmjikpcekffaaGreatDoor.L
open Go.RowKit
set_option linter.unusedVariables false
set_option linter.unusedSimpArgs false
/-- The measure of the first k parts. -/
def rm (T : List Pp) : Nat → Nat
  | 0 => 0
  | k + 1 => rm T k + (1 + ((pp T k).l.tx.length + (pp T k).l.nm.length))
theorem rm_me (T : List Pp) : ∀ k, rm T k + T.length = meA T k + k
  | 0 => by simp [rm, meA]
  | k + 1 => by
    have := rm_me T k
    simp only [rm, meA]
    omega
theorem rm_all (T : List Pp) : rm T T.length = meL T := by
  have := rm_me T T.length
  unfold meL
  omega
theorem rm_le (T : List Pp) {j k : Nat} (h : j ≤ k) : rm T j ≤ rm T k := by
  induction k with
  | zero => have : j = 0 := by omega
            subst this; exact Nat.le_refl _
  | succ k ih =>
    by_cases e : j = k + 1
    · subst e; exact Nat.le_refl _
    · exact Nat.le_trans (ih (by omega)) (Nat.le_add_right _ _)
/-- A measure that is counted up to one thousand alone. -/
def Mes (r m : Nat) : Prop := (r ≤ 1000 ∧ m = r) ∨ (1000 < r ∧ 1000 < m)
set_option maxHeartbeats 16000000 in
set_option maxRecDepth 100000 in
theorem rmeasure_any (a : Option Addr) (T : List Pp) (L cap : Nat) (hLe : L = T.length) (w : World) (hT : PQ w a T) (hG : GdP T) :
    Calls Tryz.prog 29 #[.slice a L cap] w fun e w' => (∃ r : Nat, e = .returned (.int .i64 r) ∧ Mes r (meL T) ∧ r ≤ 562949953421312) ∧ Below w.heap.size w w' := by
  have HT := hid hT
  have HL := hid hLe
  have HG := hid hG
  have hL : L ≤ 17592186044000 := by rw [hLe]; exact hG.1
  clear hT hLe hG
  go_enter Tryz.func29, Tryz.ntmps29
  go_wp2_with fail
  go_loopw [3, 4] (fun v i wr => ∃ k m : Nat, k ≤ L ∧ i = .int .i64 k ∧ v = .int .i64 m ∧ m ≤ 562949953421312 ∧ Hid (m = rm T k) ∧ Hid (Below w.heap.size w wr)) (fun _ i _ => L - (intOf i).toNat)
  case atStart => exact ⟨0, 0, Nat.zero_le _, rfl, rfl, Nat.zero_le _, hid rfl, hid (Below.refl _ _)⟩
  case round =>
    obtain ⟨k, m, hk, rfl, rfl, hmb, HU, HB⟩ := hrel
    by_cases hlt : k < L
    · have g1 : (k : Int) < (L : Int) := by omega
      have g0 : (0 : Int) ≤ (k : Int) := by omega
      by_cases hm : m ≤ 1000
      · have d1 : decide ((m : Int) ≤ 1000) = true := by simp; omega
        rcases HT.out.low HB.out with h0 | ⟨b2, o2, rfl, hb2, hc2⟩
        · have := HL.out; omega
        obtain ⟨xa, xc, na, nc, ka, kc, c, r1, r2, r3⟩ := hc2 k (by rw [← HL.out]; exact hlt)
        have hg := HG.out.2 k (by rw [← HL.out]; exact hlt)
        have q9 := c 9 _ rfl
        have q10 := c 10 _ rfl
        obtain ⟨xn, hx⟩ : ∃ xn, xn = (pp T k).l.tx.length := ⟨_, rfl⟩
        obtain ⟨nn, hn⟩ : ∃ nn, nn = (pp T k).l.nm.length := ⟨_, rfl⟩
        have hgx : xn ≤ 140737488355328 := by rw [hx]; exact hg.2.1
        have hgn : nn ≤ 140737488355328 := by rw [hn]; exact hg.2.2.1
        rw [← hx] at q9
        rw [← hn] at q10
        have HX := hid hx
        have HN := hid hn
        clear hx hn c r1 r2 r3 hc2 hg
        go_wp2_with fail
        go_quiet (fail)
        go_wp2_with fail
        refine ⟨⟨k + 1, m + (1 + (xn + nn)), by omega, by go_num, by go_num, by omega, hid ?_, hid (below_drewN HB.out nq)⟩, by simp [intOf]; omega⟩
        rw [HX.out, HN.out, HU.out]
        rfl
      · have d1 : decide ((m : Int) ≤ 1000) = false := by simp; omega
        go_wp2_with fail
        go_ret
        refine ⟨⟨m, rfl, .inr ⟨by omega, ?_⟩, hmb⟩, HB.out⟩
        have h1 := rm_le T (show k ≤ T.length by have := HL.out; omega)
        rw [rm_all] at h1
        have := HU.out
        omega
    · obtain rfl : k = L := by omega
      go_wp2_with fail
      go_ret
      refine ⟨⟨m, rfl, ?_, hmb⟩, HB.out⟩
      have h1 := rm_all T
      rw [← HL.out, ← HU.out] at h1
      unfold Mes
      omega
end Go.Proofs.YtimmjikpcekffaaGreatDoor.L
namespace Go.Proofs.YtimmjikpcekffaaGreatDoor.L
open Go.RowKit
set_option linter.unusedVariables false
set_option linter.unusedSimpArgs false
set_option maxHeartbeats 16000000 in
set_option maxRecDepth 100000 in
theorem rmeas_any (ma sa : Option Addr) (M : List Pp) (S : List (List Pp)) (mn sn mc sc : Nat) (hmn : mn = M.length) (hsn : sn = S.length) (w : World) (hM : PQ w ma M) (hS : PS w sa S) (hl : sn ≤ 4611686018427387904) (gM : GdP M) (gS : GdS' S) :
    Calls Tryz.prog 17 #[.agg #[.slice ma mn mc, .slice sa sn sc]] w fun e w' => (∃ r : Nat, e = .returned (.int .i64 r) ∧ (r ≤ 1000 ↔ meS M S S.length ≤ 1000) ∧ r ≤ 1001) ∧ Below w.heap.size w w' := by
  have LX : Below w.heap.size w (w.alloc (.cells #[.slice ma mn mc, .slice sa sn sc] 25)) := belowA w _
  have X0 : Bs (w.alloc (.cells #[.slice ma mn mc, .slice sa sn sc] 25)) w.heap.size [.slice ma mn mc, .slice sa sn sc] := by simpa using bs_new w #[.slice ma mn mc, .slice sa sn sc] 25
  have HLX := hid LX
  have HN := hid hsn
  have HC := hid (rmeasure_any ma M mn mc hmn _ (hM.low LX) gM)
  have HS := hid (hS.low LX)
  have HGS := hid gS
  clear LX hmn hsn hM hS gM gS
  go_enter Tryz.func17, Tryz.ntmps17
  go_wp2_with fail
  generalize w.alloc (.cells #[.slice ma mn mc, .slice sa sn sc] 25) = x0 at *
  refine HC.out.mono ?_
  rintro e x1 ⟨⟨m0, rfl, hme, hmb0⟩, hb⟩
  clear HC
  have X1 := hid (X0.low hb)
  have HS1 := hid (HS.out.low hb)
  have HL1 := hid (HLX.out.trans (hb.mono HLX.out.size))
  have HM0 := hid hme
  clear HLX HS X0 hb hme
  generalize hbw : w.heap.size = bp at *
  have HBP := hid hbw
  clear hbw
  go_wp2_with fail
  go_loopw [3, 4] (fun v i wr => ∃ k m : Nat, k ≤ sn ∧ i = .int .i64 k ∧ v = .int .i64 m ∧ m ≤ 1125899906842624 ∧ Hid (Mes m (meS M S k)) ∧ Hid (Below x1.heap.size x1 wr)) (fun _ i _ => sn - (intOf i).toNat)
  case atStart => exact ⟨0, m0, Nat.zero_le _, rfl, rfl, by omega, hid HM0.out, hid (Below.refl _ _)⟩
  case round =>
    obtain ⟨k, m, hk, rfl, rfl, hmb, HU, HBW⟩ := hrel
    have XW := X1.out.low HBW.out
    have c0 := XW.2 0 _ rfl
    have c1 := XW.2 1 _ rfl
    clear XW
    by_cases hlt : k < sn
    · have g1 : (k : Int) < (sn : Int) := by omega
      have g0 : (0 : Int) ≤ (k : Int) := by omega
      by_cases hm : m ≤ 1000
      · have d1 : decide ((m : Int) ≤ 1000) = true := by simp; omega
        rcases HS1.out.low HBW.out with h0 | ⟨b2, o2, rfl, hb2, hc2⟩
        · have := HN.out; omega
        obtain ⟨la, lc, c, r⟩ := hc2 k (by rw [← HN.out]; exact hlt)
        obtain ⟨ln, hln⟩ : ∃ ln, ln = (S.getD k []).length := ⟨_, rfl⟩
        have HC := hid (rmeasure_any la (S.getD k []) ln lc hln wr r (HGS.out k (by rw [← HN.out]; exact hlt)))
        rw [← hln] at c
        clear hc2 r hln
        go_wp2_with fail
        refine HC.out.mono ?_
        rintro e x2 ⟨⟨q, rfl, hme, hqb⟩, hb⟩
        have HX2 := hid (HBW.out.trans (hb.mono HBW.out.size))
        have HQ := hid hme
        clear HC hb hme
        go_wp2_with fail
        refine ⟨⟨k + 1, m + q, by omega, by go_num, by go_num, by omega, hid ?_, HX2⟩, by simp [intOf]; omega⟩
        have h1 := HU.out
        have h2 := HQ.out
        show Mes (m + q) (meS M S k + meL (S.getD k []))
        unfold Mes at *
        omega
      · have d1 : decide ((m : Int) ≤ 1000) = false := by simp; omega
        have d2 : decide ((1000 : Int) < (m : Int)) = true := by simp; omega
        have HFB := hid (show Below w.heap.size w wr by rw [HBP.out]; exact HL1.out.trans (HBW.out.mono (by have h1 := HL1.out.size; have h2 := HBP.out; omega)))
        go_wp2_with fail
        go_ret
        refine ⟨⟨1001, rfl, ?_, Nat.le_refl _⟩, HFB.out⟩
        have h1 := HU.out
        have h2 := meS_le M S (show k ≤ S.length by have := HN.out; omega)
        unfold Mes at h1
        omega
    · obtain rfl : k = sn := by omega
      have HFB := hid (show Below w.heap.size w wr by rw [HBP.out]; exact HL1.out.trans (HBW.out.mono (by have h1 := HL1.out.size; have h2 := HBP.out; omega)))
      have hmu := HU.out
      rw [HN.out] at hmu
      have HMU := hid hmu
      clear hmu
      by_cases hm : m ≤ 1000
      · have d2 : decide ((1000 : Int) < (m : Int)) = false := by simp; omega
        go_wp2_with fail
        go_ret
        refine ⟨⟨m, rfl, ?_, by omega⟩, HFB.out⟩
        have h1 := HMU.out
        unfold Mes at h1
        omega
      · have d2 : decide ((1000 : Int) < (m : Int)) = true := by simp; omega
        go_wp2_with fail
        go_ret
        refine ⟨⟨1001, rfl, ?_, Nat.le_refl _⟩, HFB.out⟩
        have h1 := HMU.out
        unfold Mes at h1
        omega
end Go.Proofs.YtimmjikpcekffaaGreatDoor.L
namespace Go.Proofs.YtimmjikpcekffaaGreatDoor.L
open Go.RowKit
set_option linter.unusedVariables false
set_option linter.unusedSimpArgs false
/-- What the document's For answers. -/
def RFoP (pods : Bool) (M : List Pp) (S : List (List Pp)) : Prop := meS M S S.length ≤ 1000 ∧ (pods = true → S.length = 0) ∧ RTkP pods (S.length : Nat) M ∧ ∀ j, j < S.length → RTkP true 0 (S.getD j [])
set_option maxHeartbeats 16000000 in
set_option maxRecDepth 100000 in
theorem rfor_any (pods : Bool) (ma sa : Option Addr) (M : List Pp) (S : List (List Pp)) (mn sn mc sc : Nat) (hmn : mn = M.length) (hsn : sn = S.length) (w : World) (hM : PQ w ma M) (hS : PS w sa S) (hl : sn ≤ 4611686018427387904) (gM : GdP M) (gS : GdS' S) :
    Calls Tryz.prog 10 #[.agg #[.slice ma mn mc, .slice sa sn sc], .bool pods] w fun e w' => (∃ b, e = .returned (.bool b) ∧ (b = true ↔ RFoP pods M S)) ∧ Below w.heap.size w w' := by
  have LX : Below w.heap.size w (w.alloc (.cells #[.slice ma mn mc, .slice sa sn sc] 25)) := belowA w _
  have X0 : Bs (w.alloc (.cells #[.slice ma mn mc, .slice sa sn sc] 25)) w.heap.size [.slice ma mn mc, .slice sa sn sc] := by simpa using bs_new w #[.slice ma mn mc, .slice sa sn sc] 25
  have HLX := hid LX
  have HX0 := hid X0
  have HN := hid hsn
  have HMN := hid hmn
  have HM := hid (hM.low LX)
  have HS := hid (hS.low LX)
  have HGM := hid gM
  have HGS := hid gS
  have HME := hid rmeas_any
  have HLI := hid rlist_any
  clear LX X0 hmn hsn hM hS gM gS
  go_enter Tryz.func10, Tryz.ntmps10
  go_wp2_with fail
  generalize w.alloc (.cells #[.slice ma mn mc, .slice sa sn sc] 25) = x0 at *
  refine (HME.out ma sa M S mn sn mc sc HMN.out HN.out x0 HM.out HS.out hl HGM.out HGS.out).mono ?_
  rintro e x1 ⟨⟨r, rfl, hr, hr2⟩, hb1⟩
  have HB1 := hid hb1
  have HR := hid hr
  clear hb1 hr
  have X1 := HX0.out.low HB1.out
  have c0 := X1.2 0 _ rfl
  have c1 := X1.2 1 _ rfl
  have z1 := X1.1
  have HX1 := hid X1
  clear X1
  by_cases hbig : 1000 < r
  · have d1 : decide ((1000 : Int) < (r : Int)) = true := by simp; omega
    go_wp2_with fail
    go_ret
    refine ⟨⟨_, rfl, fun h => (by cases h), fun h => ?_⟩, HLX.out.trans (HB1.out.mono HLX.out.size)⟩
    have := HR.out.2 h.1
    omega
  have d1 : decide ((1000 : Int) < (r : Int)) = false := by simp; omega
  have HMS := hid (HR.out.1 (by omega))
  have rest : ∀ (hp : Hid (pods = true → S.length = 0)), (pods = true → decide ((0 : Int) < (sn : Int)) = false) → True := fun _ _ => trivial
  clear rest
  by_cases hps : pods = true ∧ 0 < sn
  · obtain ⟨hp, hs0⟩ := hps
    subst hp
    have d2 : decide ((0 : Int) < (sn : Int)) = true := by simp; omega
    have d3 : decide (0 < sn) = true := by simp; omega
    go_wp2_with fail
    go_ret
    refine ⟨⟨_, rfl, fun h => (by cases h), fun h => ?_⟩, HLX.out.trans (HB1.out.mono HLX.out.size)⟩
    have h2 := h.2.1 rfl
    rw [← HN.out] at h2
    omega
  have HPS := hid (show pods = true → S.length = 0 from fun h => by rw [← HN.out]; exact Nat.eq_zero_of_not_pos (fun h2 => hps ⟨h, h2⟩))
  cases pods
  case' true =>
    have d2 : decide ((0 : Int) < (sn : Int)) = false := by have := HPS.out rfl; have h3 := HN.out; simp; omega
    have d3 : decide (0 < sn) = false := by have := HPS.out rfl; have h3 := HN.out; simp; omega
  all_goals
    clear hps
    go_wp2_with fail
    refine (HLI.out _ _ ma M mn mc HMN.out x1 (HM.out.low HB1.out) HGM.out).mono ?_
    rintro e x2 ⟨⟨b, rfl, hbb⟩, hb2⟩
    have HB2 := hid (show Below x0.heap.size x0 x2 from HB1.out.trans (hb2.mono HB1.out.size))
    have HBB := hid hbb
    have X2 := HX1.out.low hb2
    have HX2 := hid X2
    clear X2 hbb hb2 c0 c1 z1
    cases b
    · go_wp2_with fail
      go_ret
      refine ⟨⟨_, rfl, fun h => (by cases h), fun h => ?_⟩, HLX.out.trans (HB2.out.mono HLX.out.size)⟩
      have h3 := h.2.2.1
      rw [← HN.out] at h3
      exact HBB.out.2 h3
    · have HTM := hid (HBB.out.1 (by first | rfl | trivial))
      clear HBB
      go_wp2_with fail
      go_loopw [5] (fun i wr => ∃ k : Nat, k ≤ sn ∧ i = .int .i64 k ∧ Hid (∀ j, j < k → RTkP true 0 (S.getD j [])) ∧ Hid (Below x2.heap.size x2 wr)) (fun i _ => sn - (intOf i).toNat)
      case atStart => exact ⟨0, Nat.zero_le _, rfl, hid (fun j hj => by omega), hid (Below.refl _ _)⟩
      case round =>
        obtain ⟨k, hk, rfl, HU, HBW⟩ := hrel
        have XW := HX2.out.low HBW.out
        have c1 := XW.2 1 _ rfl
        have zw := XW.1
        clear XW
        have HBX := hid (show Below x0.heap.size x0 wr from HB2.out.trans (HBW.out.mono HB2.out.size))
        by_cases hlt : k < sn
        · rcases HS.out.low HBX.out with h0 | ⟨b2, o2, rfl, hb2, hc2⟩
          · have := HN.out; omega
          obtain ⟨la, lc, c, r⟩ := hc2 k (by rw [← HN.out]; exact hlt)
          obtain ⟨ln, hln⟩ : ∃ ln, ln = (S.getD k []).length := ⟨_, rfl⟩
          have HRR := hid r
          have HLN := hid hln
          rw [← hln] at c
          have g1 : (k : Int) < (sn : Int) := by omega
          have g0 : (0 : Int) ≤ (k : Int) := by omega
          clear hc2 r hln
          go_wp2_with fail
          refine (HLI.out true 0 la (S.getD k []) ln lc HLN.out wr HRR.out (HGS.out k (by rw [← HN.out]; exact hlt))).mono ?_
          rintro e x3 ⟨⟨b, rfl, hbb⟩, hb3⟩
          have HB3 := hid (show Below x2.heap.size x2 x3 from HBW.out.trans (hb3.mono HBW.out.size))
          have HBB := hid hbb
          clear hbb hb3 c c1
          cases b
          · go_wp2_with fail
            go_ret
            refine ⟨⟨_, rfl, fun h => (by cases h), fun h => ?_⟩, HLX.out.trans ((HB2.out.trans (HB3.out.mono HB2.out.size)).mono HLX.out.size)⟩
            exact HBB.out.2 (h.2.2.2 k (by rw [← HN.out]; exact hlt))
          · go_wp2_with fail
            refine ⟨⟨k + 1, by omega, by go_num, hid (fun j hj => ?_), HB3⟩, by simp [intOf]; omega⟩
            by_cases e : j = k
            · rw [e]; exact HBB.out.1 (by first | rfl | trivial)
            · exact HU.out j (by omega)
        · obtain rfl : k = sn := by omega
          go_wp2_with fail
          go_ret
          refine ⟨⟨_, rfl, fun _ => ⟨HMS.out, fun h => (by first | exact HPS.out h | exact HPS.out trivial), by rw [← HN.out]; exact HTM.out, fun j hj => HU.out j (by rw [HN.out]; exact hj)⟩, fun _ => rfl⟩, HLX.out.trans (HBX.out.mono HLX.out.size)⟩
/-- What the document's Valid answers. -/
def RVaP (M : List Pp) (S : List (List Pp)) : Prop := RFoP false M S ∨ RFoP true M S
set_option maxHeartbeats 16000000 in
set_option maxRecDepth 100000 in
theorem rvalid_any16 (ma sa : Option Addr) (M : List Pp) (S : List (List Pp)) (mn sn mc sc : Nat) (hmn : mn = M.length) (hsn : sn = S.length) (w : World) (hM : PQ w ma M) (hS : PS w sa S) (hl : sn ≤ 4611686018427387904) (gM : GdP M) (gS : GdS' S) :
    Calls Tryz.prog 5 #[.agg #[.slice ma mn mc, .slice sa sn sc]] w fun e w' => (∃ b, e = .returned (.bool b) ∧ (b = true ↔ RVaP M S)) ∧ Below w.heap.size w w' := by
  have LX : Below w.heap.size w (w.alloc (.cells #[.slice ma mn mc, .slice sa sn sc] 25)) := belowA w _
  have X0 : Bs (w.alloc (.cells #[.slice ma mn mc, .slice sa sn sc] 25)) w.heap.size [.slice ma mn mc, .slice sa sn sc] := by simpa using bs_new w #[.slice ma mn mc, .slice sa sn sc] 25
  have HLX := hid LX
  have HX0 := hid X0
  have HFO := hid (fun pods (W : World) (hb : Below w.heap.size w W) => rfor_any pods ma sa M S mn sn mc sc hmn hsn W (PQ.low hM hb) (PS.low hS hb) hl gM gS)
  clear LX X0 hmn hsn hM hS gM gS
  go_enter Tryz.func5, Tryz.ntmps5
  go_wp2_with fail
  generalize w.alloc (.cells #[.slice ma mn mc, .slice sa sn sc] 25) = x0 at *
  refine (HFO.out false x0 HLX.out).mono ?_
  rintro e x1 ⟨⟨b, rfl, hbb⟩, hb1⟩
  have HB1 := hid (show Below w.heap.size w x1 from HLX.out.trans (hb1.mono HLX.out.size))
  have HBB := hid hbb
  have X1 := HX0.out.low hb1
  have c0 := X1.2 0 _ rfl
  have c1 := X1.2 1 _ rfl
  have z1 := X1.1
  clear X1 hb1 hbb
  cases b
  · go_wp2_with fail
    refine (HFO.out true x1 HB1.out).mono ?_
    rintro e x2 ⟨⟨b2, rfl, hbb2⟩, hb2⟩
    have HB2 := hid (show Below w.heap.size w x2 from HB1.out.trans (hb2.mono HB1.out.size))
    have HB3 := hid hbb2
    clear hb2 hbb2
    go_wp2_with fail
    go_ret
    refine ⟨⟨_, rfl, ?_⟩, HB2.out⟩
    rw [HB3.out]
    exact ⟨fun h => Or.inr h, fun h => h.elim (fun h => absurd (HBB.out.2 h) (by decide)) id⟩
  · go_wp2_with fail
    go_ret
    exact ⟨⟨_, rfl, fun _ => Or.inl (HBB.out.1 (by first | rfl | trivial)), fun _ => rfl⟩, HB1.out⟩
end Go.Proofs.YtimmjikpcekffaaGreatDoor.L
