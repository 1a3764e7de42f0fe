import Derived.Test.YtiddnjjaidiohaaGreatDoorMgAF
namespace Go.Proofs.YtiddnjjaidiohaaGreatDoor.L
open Go.RowKit
set_option linter.unusedVariables false
/-- The rules of a membership whose kids are x and y. -/
def mbO (so si : Nat → Int) (x y : Nat) (t : Int) : Option (Nat × Int) :=
  if setO (so x) = 0 then some (141, (x : Int)) else if so y ≠ setO (so x) ∧ so y ≠ 6 then some (141, (y : Int)) else stO si [(x : Int), (y : Int)] t
set_option maxHeartbeats 16000000 in
set_option maxRecDepth 100000 in
theorem member_any (a : Option Addr) (T : List Pt) (pc gt n : Nat) (so si : Nat → Int) (t x y : Nat) (w : World) (hT : PL w a T) (hy : TyR w gt n so si) (ht : t < T.length) (hks : (pt T t).kids = [(x : Int), (y : Int)]) (hx : x < n) (hyn : y < n) (hL : T.length ≤ 1000) (hn : n ≤ 1000) :
    Calls Tryz.prog 79 #[.agg #[.slice a T.length pc, .slice (some ⟨gt, 0, none⟩) n n], .int .i64 (t : Int)] w fun e w' => ∃ ev, e = .returned ev ∧ AnsR (mbO so si x y t) w.heap.size w' ev ∧ Below w.heap.size w w' := by
  obtain ⟨L, hLe⟩ : ∃ L, L = T.length := ⟨_, rfl⟩
  have HT := hid hT
  have HY := hid hy
  have HL := hid hLe
  have HTL := hid ht
  have HKS := hid hks
  have HSE := hid setof_any
  have HFA := hid (fun a W => sfault_any 141 a W)
  have HST := hid (fun W h1 h2 => still_any a T pc gt n so si t W h1 h2 ht (by rw [hks]; intro z hz; simp at hz; omega) (by rw [hks]; simp) hL hn)
  rw [hks] at HST
  rw [← hLe] at hL ht HST ⊢
  have HB0 := hid (belowA w (.cells #[.slice a L pc, .slice (some ⟨gt, 0, none⟩) n n] 87))
  have HX0 := hid (heap_alloc_new w (.cells #[.slice a L pc, .slice (some ⟨gt, 0, none⟩) n n] 87))
  clear hT hy hLe hks
  go_enter Tryz.func79, Tryz.ntmps79
  go_upto_region 1 with (fail)
  have HTX := hid (HT.out.low HB0.out)
  generalize w.alloc (.cells #[.slice a L pc, .slice (some ⟨gt, 0, none⟩) n n] 87) = X at *
  have ⟨x0, x1⟩ := cellsW HX0.out
  rcases HTX.out with h0 | ⟨b2, o2, rfl, hb2, hc2⟩
  · have := HTL.out; omega
  obtain ⟨ka, kc, q0, q1, q2, q3, rk⟩ := hc2 t HTL.out
  rw [HKS.out] at q3 rk
  simp only [List.length_cons, List.length_nil] at q3
  have g5 : (t : Int) < (L : Int) := by omega
  have g6 : (0 : Int) ≤ (t : Int) := by omega
  have ht4 : ((t : Int) * 4).toNat = t * 4 := by omega
  rcases rk with h0 | ⟨b1, o1, e0, hb1, hc1⟩
  · simp at h0
  subst e0
  have p0 := hc1 0 (by simp)
  have p1 := hc1 1 (by simp)
  rw [Nat.add_zero] at p0
  simp only [List.getD_cons_zero, List.getD_cons_succ] at p0 p1
  clear hc1 hb1 hc2 q0 q1 q2
  go_quiet (fail)
  have HVQ := hid (show Below X.heap.size X (X.drewN nq) from below_drewN (Below.refl _ _) nq)
  have HBQ := hid (bchS HB0.out HVQ.out)
  have HXWQ := hid ((HVQ.out.block _ (lt_blk HX0.out)).trans HX0.out)
  clear p0 p1 q3 x0 x1
  generalize X.drewN nq = Q at *
  have HTQ := hid (HT.out.low HBQ.out)
  have HYQ := hid (HY.out.low HBQ.out)
  have ⟨y0, y1⟩ := cellsW HXWQ.out
  have s1 := (HYQ.out.2 x hx).1
  have s2 := (HYQ.out.2 y hyn).1
  have hx2 : ((x : Int) * 2).toNat = x * 2 := by omega
  have hy2 : ((y : Int) * 2).toNat = y * 2 := by omega
  have g7 : (x : Int) < (n : Int) := by omega
  have g8 : (0 : Int) ≤ (x : Int) := by omega
  have g9 : (y : Int) < (n : Int) := by omega
  have g10 : (0 : Int) ≤ (y : Int) := by omega
  obtain ⟨sx, hsx⟩ : ∃ sx, sx = so x := ⟨_, rfl⟩
  obtain ⟨sy, hsy⟩ : ∃ sy, sy = so y := ⟨_, rfl⟩
  rw [← hsx] at s1
  rw [← hsy] at s2
  have HRES := hid (show mbO so si x y t = if setO sx = 0 then some (141, (x : Int)) else if sy ≠ setO sx ∧ sy ≠ 6 then some (141, (y : Int)) else stO si [(x : Int), (y : Int)] t by unfold mbO; rw [hsx, hsy])
  clear hsx hsy
  rcases setO_cases sx with ⟨rfl, hso⟩ | ⟨rfl, hso⟩ | ⟨hso, ha, hb⟩
  · have HSV := hid (fun W => HSE.out 2 W)
    rw [hso] at HRES HSV
    clear hso HSE
    by_cases h4 : sy = 4
    · subst h4
      rw [if_neg (by decide), if_neg (by decide)] at HRES
      go_wp2_with (first | (go_at_call 83; refine (HSV.out _).mono ?_; rintro e w1 ⟨rfl, hww⟩; have hw2 := hww.symm; clear hww; subst hw2) | (go_at_call 93; refine (HST.out _ HTQ.out HYQ.out).mono ?_; rintro e w1 ⟨ev, rfl, hf, l1⟩; have HF := hid hf; have L1 := hid l1; clear hf l1))
      go_ret
      exact ⟨ev, rfl, by rw [HRES.out]; exact HF.out.low (Below.refl _ _) HBQ.out.size, bchS HBQ.out L1.out⟩
    · have h4' : (sy != 4) = true := by simp [h4]
      by_cases h6 : sy = 6
      · subst h6
        rw [if_neg (by decide), if_neg (by decide)] at HRES
        clear h4
        go_wp2_with (first | (go_at_call 83; refine (HSV.out _).mono ?_; rintro e w1 ⟨rfl, hww⟩; have hw2 := hww.symm; clear hww; subst hw2) | (go_at_call 93; refine (HST.out _ HTQ.out HYQ.out).mono ?_; rintro e w1 ⟨ev, rfl, hf, l1⟩; have HF := hid hf; have L1 := hid l1; clear hf l1))
        go_ret
        exact ⟨ev, rfl, by rw [HRES.out]; exact HF.out.low (Below.refl _ _) HBQ.out.size, bchS HBQ.out L1.out⟩
      · have h6' : (sy != 6) = true := by simp [h6]
        rw [if_neg (by decide), if_pos ⟨h4, h6⟩] at HRES
        clear h4 h6
        go_wp2_with (first | (go_at_call 83; refine (HSV.out _).mono ?_; rintro e w1 ⟨rfl, hww⟩; have hw2 := hww.symm; clear hww; subst hw2) | (go_at_call 38; refine (HFA.out _ _).mono ?_; rintro e w1 ⟨rfl, hf, l1⟩; have HF := hid hf; have L1 := hid l1; clear hf l1))
        go_ret
        exact ⟨_, rfl, Or.inr ⟨_, 141, (y : Int), HRES.out, rfl, HF.out, HBQ.out.size⟩, bchS HBQ.out L1.out⟩
  · have HSV := hid (fun W => HSE.out 3 W)
    rw [hso] at HRES HSV
    clear hso HSE
    by_cases h4 : sy = 5
    · subst h4
      rw [if_neg (by decide), if_neg (by decide)] at HRES
      go_wp2_with (first | (go_at_call 83; refine (HSV.out _).mono ?_; rintro e w1 ⟨rfl, hww⟩; have hw2 := hww.symm; clear hww; subst hw2) | (go_at_call 93; refine (HST.out _ HTQ.out HYQ.out).mono ?_; rintro e w1 ⟨ev, rfl, hf, l1⟩; have HF := hid hf; have L1 := hid l1; clear hf l1))
      go_ret
      exact ⟨ev, rfl, by rw [HRES.out]; exact HF.out.low (Below.refl _ _) HBQ.out.size, bchS HBQ.out L1.out⟩
    · have h4' : (sy != 5) = true := by simp [h4]
      by_cases h6 : sy = 6
      · subst h6
        rw [if_neg (by decide), if_neg (by decide)] at HRES
        clear h4
        go_wp2_with (first | (go_at_call 83; refine (HSV.out _).mono ?_; rintro e w1 ⟨rfl, hww⟩; have hw2 := hww.symm; clear hww; subst hw2) | (go_at_call 93; refine (HST.out _ HTQ.out HYQ.out).mono ?_; rintro e w1 ⟨ev, rfl, hf, l1⟩; have HF := hid hf; have L1 := hid l1; clear hf l1))
        go_ret
        exact ⟨ev, rfl, by rw [HRES.out]; exact HF.out.low (Below.refl _ _) HBQ.out.size, bchS HBQ.out L1.out⟩
      · have h6' : (sy != 6) = true := by simp [h6]
        rw [if_neg (by decide), if_pos ⟨h4, h6⟩] at HRES
        clear h4 h6
        go_wp2_with (first | (go_at_call 83; refine (HSV.out _).mono ?_; rintro e w1 ⟨rfl, hww⟩; have hw2 := hww.symm; clear hww; subst hw2) | (go_at_call 38; refine (HFA.out _ _).mono ?_; rintro e w1 ⟨rfl, hf, l1⟩; have HF := hid hf; have L1 := hid l1; clear hf l1))
        go_ret
        exact ⟨_, rfl, Or.inr ⟨_, 141, (y : Int), HRES.out, rfl, HF.out, HBQ.out.size⟩, bchS HBQ.out L1.out⟩
  · have HSX := hid (fun W => HSE.out sx W)
    rw [hso] at HSX HRES
    rw [if_pos rfl] at HRES
    clear hso ha hb HSE
    go_wp2_with (first | (go_at_call 83; refine (HSX.out _).mono ?_; rintro e w1 ⟨rfl, hww⟩; have hw2 := hww.symm; clear hww; subst hw2) | (go_at_call 38; refine (HFA.out _ _).mono ?_; rintro e w1 ⟨rfl, hf, l1⟩; have HF := hid hf; have L1 := hid l1; clear hf l1))
    go_ret
    exact ⟨_, rfl, Or.inr ⟨_, 141, (x : Int), HRES.out, rfl, HF.out, HBQ.out.size⟩, bchS HBQ.out L1.out⟩
end Go.Proofs.YtiddnjjaidiohaaGreatDoor.L
