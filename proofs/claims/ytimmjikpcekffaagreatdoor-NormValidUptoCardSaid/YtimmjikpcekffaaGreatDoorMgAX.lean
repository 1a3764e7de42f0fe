import Derived.Test.YtimmjikpcekffaaGreatDoorS5
import Derived.Test.YtimmjikpcekffaaGreatDoorMgAA
import Derived.Test.YtimmjikpcekffaaGreatDoorMgAD
import Derived.Deep.QuietTactic
import Derived.BigQuiet
namespace Go.Proofs.YtimmjikpcekffaaGreatDoor.L
open Go.RowKit
set_option linter.unusedVariables false
set_option maxHeartbeats 8000000 in
set_option maxRecDepth 100000 in
theorem so_13 (pa : Option Addr) (pn pc gt n : Nat) (so si : Nat → Int) (tx : ByteArray) (nu : Int) (ka : Option Addr) (ks : List Int) (kc : Nat) (w : World) (hm : ks.length ≠ 0) (hl : ks.length ≤ 1000) (hn : n ≤ 1000) (hy : TyR w gt n so si) (hk : RdI w ka ks) (hin : ∀ x, x ∈ ks → 0 ≤ x ∧ x < n) :
    Calls Tryz.prog 101 #[.agg #[.slice pa pn pc, .slice (some ⟨gt, 0, none⟩) n n], .agg #[.int .i64 13, .string tx, .int .i64 nu, .slice ka ks.length kc]] w fun e w' => e = .returned (.int .i64 (setO (so (ks.getD 0 0).toNat))) ∧ Below w.heap.size w w' := by
  obtain ⟨m, hmm⟩ : ∃ m, m = ks.length := ⟨_, rfl⟩
  have HM := hid hmm
  have HY := hid hy
  have HK := hid hk
  have HIN := hid hin
  have HSE := hid setof_any
  rw [← hmm] at hm hl ⊢
  have hm0 : ((m : Int) == 0) = false := by simp; omega
  clear hy hk hin hmm
  have HB0 := hid (belowA w (.cells #[.slice pa pn pc, .slice (some ⟨gt, 0, none⟩) n n] 125))
  have HX0 := hid (heap_alloc_new w (.cells #[.slice pa pn pc, .slice (some ⟨gt, 0, none⟩) n n] 125))
  go_enter Tryz.func101, Tryz.ntmps101
  go_upto_region 1 with (fail)
  generalize hY : w.alloc (.cells #[.slice pa pn pc, .slice (some ⟨gt, 0, none⟩) n n] 125) = Y at *
  have HS0 := hid (show Y.heap.size = w.heap.size + 1 by rw [← hY]; simp)
  clear hY
  have HB1 := hid (belowA Y (.cells #[.int .i64 13, .string tx, .int .i64 nu, .slice ka m kc] 31))
  have HX1 := hid (heap_alloc_new Y (.cells #[.int .i64 13, .string tx, .int .i64 nu, .slice ka m kc] 31))
  have HXW := hid ((HB1.out.block _ (lt_blk HX0.out)).trans HX0.out)
  generalize Y.alloc (.cells #[.int .i64 13, .string tx, .int .i64 nu, .slice ka m kc] 31) = V at *
  rw [HS0.out] at HX1
  have HB := hid (show Below w.heap.size w V from bchS HB0.out HB1.out)
  generalize hpb : w.heap.size + 1 = pb at *
  clear hpb
  have ⟨x0, x1, x2, x3⟩ := cells4 HX1.out
  have ⟨y0, y1⟩ := cellsW HXW.out
  rcases HK.out.low HB.out (Nat.le_refl _) with h0 | ⟨b1, o1, e0, hb1, hc1⟩
  · have := HM.out; omega
  subst e0
  have h0n : 0 < ks.length := by rw [← HM.out]; omega
  have p0 := hc1 0 h0n
  rw [Nat.add_zero] at p0
  have hmem : ks.getD 0 0 ∈ ks := by rw [List.getD_eq_getElem?_getD, List.getElem?_eq_getElem h0n]; exact List.getElem_mem _
  have hx := HIN.out _ hmem
  obtain ⟨x, hxe⟩ : ∃ x : Nat, ks.getD 0 0 = x := ⟨(ks.getD 0 0).toNat, by omega⟩
  have HXE := hid hxe
  rw [hxe] at p0 hx
  have t1 := ((HY.out.low HB.out).2 x (by omega)).1
  have g1 : (0 : Int) < (m : Int) := by omega
  have g3 : (x : Int) < (n : Int) := by omega
  have g4 : (0 : Int) ≤ (x : Int) := by omega
  have hx2 : ((x : Int) * 2).toNat = x * 2 := by omega
  obtain ⟨s, hs⟩ : ∃ s, s = so x := ⟨_, rfl⟩
  rw [← hs] at t1
  have HRES := hid (show setO (so (ks.getD 0 0).toNat) = setO s by rw [hxe, Int.toNat_natCast, hs])
  clear hc1 hmem hx hxe hs hb1 h0n
  go_upto_region 17 with (fail)
  go_quiet ((go_at_call 128; exact Calls.quiet_of_same (HSE.out _ _)))
  go_wp2_with fail
  go_ret
  refine ⟨?_, below_drewN HB.out _⟩
  rw [HRES.out]
  rfl
end Go.Proofs.YtimmjikpcekffaaGreatDoor.L
namespace Go.Proofs.YtimmjikpcekffaaGreatDoor.L
open Go.RowKit
set_option linter.unusedVariables false
theorem setO_cases (s : Int) : (s = 2 ∧ setO s = 4) ∨ (s = 3 ∧ setO s = 5) ∨ (setO s = 0 ∧ s ≠ 2 ∧ s ≠ 3) := by
  unfold setO
  by_cases a : s = 2
  · exact Or.inl ⟨a, by rw [if_pos a]⟩
  · by_cases b : s = 3
    · exact Or.inr (Or.inl ⟨b, by rw [if_neg a, if_pos b]⟩)
    · exact Or.inr (Or.inr ⟨by rw [if_neg a, if_neg b], a, b⟩)
/-- The rules of a comparison whose kids are x and y. -/
def cmO (so si : Nat → Int) (nu : Int) (x y : Nat) (t : Int) : Option (Nat × Int) :=
  if setO (so x) = 0 then some (141, (x : Int)) else if so y ≠ so x then some (141, (y : Int)) else if so x = 2 ∧ eqtB nu = false then some (141, t) else stO si [(x : Int), (y : Int)] t
set_option maxHeartbeats 16000000 in
set_option maxRecDepth 100000 in
theorem compared_any (a : Option Addr) (T : List Pt) (pc gt n : Nat) (so si : Nat → Int) (t x y : Nat) (w : World) (hT : PL w a T) (hy : TyR w gt n so si) (ht : t < T.length) (hks : (pt T t).kids = [(x : Int), (y : Int)]) (hx : x < n) (hyn : y < n) (hL : T.length ≤ 1000) (hn : n ≤ 1000) :
    Calls Tryz.prog 123 #[.agg #[.slice a T.length pc, .slice (some ⟨gt, 0, none⟩) n n], .int .i64 (t : Int)] w fun e w' => ∃ ev, e = .returned ev ∧ AnsR (cmO so si (pt T t).num x y t) w.heap.size w' ev ∧ Below w.heap.size w w' := by
  obtain ⟨L, hLe⟩ : ∃ L, L = T.length := ⟨_, rfl⟩
  have HT := hid hT
  have HY := hid hy
  have HL := hid hLe
  have HTL := hid ht
  have HKS := hid hks
  have HSE := hid setof_any
  have HEQ := hid equates_any
  have HFA := hid (fun a W => sfault_any 141 a W)
  have HST := hid (fun W h1 h2 => still_any a T pc gt n so si t W h1 h2 ht (by rw [hks]; intro z hz; simp at hz; omega) (by rw [hks]; simp) hL hn)
  rw [hks] at HST
  rw [← hLe] at hL ht HST ⊢
  have HB0 := hid (belowA w (.cells #[.slice a L pc, .slice (some ⟨gt, 0, none⟩) n n] 125))
  have HX0 := hid (heap_alloc_new w (.cells #[.slice a L pc, .slice (some ⟨gt, 0, none⟩) n n] 125))
  clear hT hy hLe hks
  go_enter Tryz.func123, Tryz.ntmps123
  go_upto_region 1 with (fail)
  have HTX := hid (HT.out.low HB0.out)
  generalize w.alloc (.cells #[.slice a L pc, .slice (some ⟨gt, 0, none⟩) n n] 125) = X at *
  have ⟨x0, x1⟩ := cellsW HX0.out
  rcases HTX.out with h0 | ⟨b2, o2, rfl, hb2, hc2⟩
  · have := HTL.out; omega
  obtain ⟨ka, kc, q0, q1, q2, q3, rk⟩ := hc2 t HTL.out
  rw [HKS.out] at q3 rk
  obtain ⟨kd, hkd⟩ : ∃ kd, kd = (pt T t).kind := ⟨_, rfl⟩
  obtain ⟨tx, htx⟩ : ∃ tx, tx = (pt T t).text := ⟨_, rfl⟩
  obtain ⟨nu, hnu⟩ : ∃ nu, nu = (pt T t).num := ⟨_, rfl⟩
  rw [← hkd] at q0
  rw [← htx] at q1
  rw [← hnu] at q2
  have HNU := hid hnu
  have RK := hid rk
  simp only [List.length_cons, List.length_nil] at q3
  have g5 : (t : Int) < (L : Int) := by omega
  have g6 : (0 : Int) ≤ (t : Int) := by omega
  have ht4 : ((t : Int) * 4).toNat = t * 4 := by omega
  have HB1 := hid (belowA X (.cells #[.int .i64 kd, .string tx, .int .i64 nu, .slice ka 2 kc] 31))
  have HX1 := hid (heap_alloc_new X (.cells #[.int .i64 kd, .string tx, .int .i64 nu, .slice ka 2 kc] 31))
  clear hc2 rk hkd htx hnu
  go_upto_region 2 with (fail)
  have HXW := hid ((HB1.out.block _ (lt_blk HX0.out)).trans HX0.out)
  have HB := hid (show Below w.heap.size w _ from bchS HB0.out HB1.out)
  have RV := hid (RK.out.low HB1.out (Nat.le_refl _))
  clear q0 q1 q2 q3 x0 x1
  generalize X.alloc (.cells #[.int .i64 kd, .string tx, .int .i64 nu, .slice ka 2 kc] 31) = V at *
  generalize X.heap.size = pb at *
  rcases RV.out with h0 | ⟨b1, o1, e0, hb1, hc1⟩
  · simp at h0
  subst e0
  have p0 := hc1 0 (by simp)
  have p1 := hc1 1 (by simp)
  rw [Nat.add_zero] at p0
  simp only [List.getD_cons_zero, List.getD_cons_succ] at p0 p1
  have ⟨x0, x1, x2, x3⟩ := cells4 HX1.out
  clear hc1 hb1
  go_quiet (fail)
  have HVQ := hid (show Below V.heap.size V (V.drewN nq) from below_drewN (Below.refl _ _) nq)
  have HBQ := hid (bchS HB.out HVQ.out)
  have HX1Q := hid ((HVQ.out.block _ (lt_blk HX1.out)).trans HX1.out)
  have HXWQ := hid ((HVQ.out.block _ (lt_blk HXW.out)).trans HXW.out)
  clear p0 p1 x0 x1 x2 x3
  generalize V.drewN nq = Q at *
  have HTQ := hid (HT.out.low HBQ.out)
  have HYQ := hid (HY.out.low HBQ.out)
  have ⟨x0, x1, x2, x3⟩ := cells4 HX1Q.out
  have ⟨y0, y1⟩ := cellsW HXWQ.out
  have s1 := (HYQ.out.2 x hx).1
  have s2 := (HYQ.out.2 y hyn).1
  have hx2 : ((x : Int) * 2).toNat = x * 2 := by omega
  have hy2 : ((y : Int) * 2).toNat = y * 2 := by omega
  have g7 : (x : Int) < (n : Int) := by omega
  have g8 : (0 : Int) ≤ (x : Int) := by omega
  have g9 : (y : Int) < (n : Int) := by omega
  have g10 : (0 : Int) ≤ (y : Int) := by omega
  obtain ⟨sx, hsx⟩ : ∃ sx, sx = so x := ⟨_, rfl⟩
  obtain ⟨sy, hsy⟩ : ∃ sy, sy = so y := ⟨_, rfl⟩
  rw [← hsx] at s1
  rw [← hsy] at s2
  have HRES := hid (show cmO so si (pt T t).num x y t = if setO sx = 0 then some (141, (x : Int)) else if sy ≠ sx then some (141, (y : Int)) else if sx = 2 ∧ eqtB nu = false then some (141, (t : Int)) else stO si [(x : Int), (y : Int)] t by unfold cmO; rw [hsx, hsy, HNU.out])
  clear hsx hsy
  rcases setO_cases sx with ⟨rfl, hso⟩ | ⟨rfl, hso⟩ | ⟨hso, ha, hb⟩
  · rw [hso] at HRES
    clear hso
    by_cases hne : sy = 2
    · subst hne
      cases heq : eqtB nu
      · have HEQE := hid heq
        rw [heq] at HRES
        clear heq
        go_wp2_with (first
          | (go_at_call 128; refine (HSE.out _ _).mono ?_; rintro e w1 ⟨rfl, hww⟩; have hw2 := hww.symm; clear hww; subst hw2)
          | (go_at_call 138; refine (HEQ.out _ _).mono ?_; rw [HEQE.out]; rintro e w1 ⟨rfl, hww⟩; have hw2 := hww.symm; clear hww; subst hw2)
          | (go_at_call 66; refine (HFA.out _ _).mono ?_; rintro e w1 ⟨rfl, hf, l1⟩; have HF := hid hf; have L1 := hid l1; clear hf l1))
        go_ret
        exact ⟨_, rfl, Or.inr ⟨_, 141, (t : Int), HRES.out, rfl, HF.out, HBQ.out.size⟩, bchS HBQ.out L1.out⟩
      · have HEQE := hid heq
        rw [heq] at HRES
        clear heq
        go_wp2_with (first | (go_at_call 128; refine (HSE.out _ _).mono ?_; rintro e w1 ⟨rfl, hww⟩; have hw2 := hww.symm; clear hww; subst hw2) | (go_at_call 138; refine (HEQ.out _ _).mono ?_; rw [HEQE.out]; rintro e w1 ⟨rfl, hww⟩; have hw2 := hww.symm; clear hww; subst hw2) | (go_at_call 139; refine (HST.out _ HTQ.out HYQ.out).mono ?_; rintro e w1 ⟨ev, rfl, hf, l1⟩; have HF := hid hf; have L1 := hid l1; clear hf l1))
        go_ret
        exact ⟨ev, rfl, by rw [HRES.out]; exact HF.out.low (Below.refl _ _) HBQ.out.size, bchS HBQ.out L1.out⟩
    · have hne' : (sy != 2) = true := by simp [hne]
      rw [if_neg (by decide), if_pos hne] at HRES
      clear hne
      go_wp2_with (first | (go_at_call 128; refine (HSE.out _ _).mono ?_; rintro e w1 ⟨rfl, hww⟩; have hw2 := hww.symm; clear hww; subst hw2) | (go_at_call 66; refine (HFA.out _ _).mono ?_; rintro e w1 ⟨rfl, hf, l1⟩; have HF := hid hf; have L1 := hid l1; clear hf l1))
      go_ret
      exact ⟨_, rfl, Or.inr ⟨_, 141, (y : Int), HRES.out, rfl, HF.out, HBQ.out.size⟩, bchS HBQ.out L1.out⟩
  · rw [hso] at HRES
    clear hso
    by_cases hne : sy = 3
    · subst hne
      go_wp2_with (first | (go_at_call 128; refine (HSE.out _ _).mono ?_; rintro e w1 ⟨rfl, hww⟩; have hw2 := hww.symm; clear hww; subst hw2) | (go_at_call 139; refine (HST.out _ HTQ.out HYQ.out).mono ?_; rintro e w1 ⟨ev, rfl, hf, l1⟩; have HF := hid hf; have L1 := hid l1; clear hf l1))
      go_ret
      exact ⟨ev, rfl, by rw [HRES.out]; exact HF.out.low (Below.refl _ _) HBQ.out.size, bchS HBQ.out L1.out⟩
    · have hne' : (sy != 3) = true := by simp [hne]
      rw [if_neg (by decide), if_pos hne] at HRES
      clear hne
      go_wp2_with (first | (go_at_call 128; refine (HSE.out _ _).mono ?_; rintro e w1 ⟨rfl, hww⟩; have hw2 := hww.symm; clear hww; subst hw2) | (go_at_call 66; refine (HFA.out _ _).mono ?_; rintro e w1 ⟨rfl, hf, l1⟩; have HF := hid hf; have L1 := hid l1; clear hf l1))
      go_ret
      exact ⟨_, rfl, Or.inr ⟨_, 141, (y : Int), HRES.out, rfl, HF.out, HBQ.out.size⟩, bchS HBQ.out L1.out⟩
  · have HSX := hid (fun W => HSE.out sx W)
    rw [hso] at HSX HRES
    rw [if_pos rfl] at HRES
    clear hso ha hb HSE
    go_wp2_with (first | (go_at_call 128; refine (HSX.out _).mono ?_; rintro e w1 ⟨rfl, hww⟩; have hw2 := hww.symm; clear hww; subst hw2) | (go_at_call 66; refine (HFA.out _ _).mono ?_; rintro e w1 ⟨rfl, hf, l1⟩; have HF := hid hf; have L1 := hid l1; clear hf l1))
    go_ret
    exact ⟨_, rfl, Or.inr ⟨_, 141, (x : Int), HRES.out, rfl, HF.out, HBQ.out.size⟩, bchS HBQ.out L1.out⟩
end Go.Proofs.YtimmjikpcekffaaGreatDoor.L
namespace Go.Proofs.YtimmjikpcekffaaGreatDoor.L
open Go.RowKit
set_option linter.unusedVariables false
/-- The rules of a membership whose kids are x and y. -/
def mbO (so si : Nat → Int) (x y : Nat) (t : Int) : Option (Nat × Int) :=
  if setO (so x) = 0 then some (141, (x : Int)) else if so y ≠ setO (so x) ∧ so y ≠ 6 then some (141, (y : Int)) else stO si [(x : Int), (y : Int)] t
set_option maxHeartbeats 16000000 in
set_option maxRecDepth 100000 in
theorem member_any (a : Option Addr) (T : List Pt) (pc gt n : Nat) (so si : Nat → Int) (t x y : Nat) (w : World) (hT : PL w a T) (hy : TyR w gt n so si) (ht : t < T.length) (hks : (pt T t).kids = [(x : Int), (y : Int)]) (hx : x < n) (hyn : y < n) (hL : T.length ≤ 1000) (hn : n ≤ 1000) :
    Calls Tryz.prog 124 #[.agg #[.slice a T.length pc, .slice (some ⟨gt, 0, none⟩) n n], .int .i64 (t : Int)] w fun e w' => ∃ ev, e = .returned ev ∧ AnsR (mbO so si x y t) w.heap.size w' ev ∧ Below w.heap.size w w' := by
  obtain ⟨L, hLe⟩ : ∃ L, L = T.length := ⟨_, rfl⟩
  have HT := hid hT
  have HY := hid hy
  have HL := hid hLe
  have HTL := hid ht
  have HKS := hid hks
  have HSE := hid setof_any
  have HFA := hid (fun a W => sfault_any 141 a W)
  have HST := hid (fun W h1 h2 => still_any a T pc gt n so si t W h1 h2 ht (by rw [hks]; intro z hz; simp at hz; omega) (by rw [hks]; simp) hL hn)
  rw [hks] at HST
  rw [← hLe] at hL ht HST ⊢
  have HB0 := hid (belowA w (.cells #[.slice a L pc, .slice (some ⟨gt, 0, none⟩) n n] 125))
  have HX0 := hid (heap_alloc_new w (.cells #[.slice a L pc, .slice (some ⟨gt, 0, none⟩) n n] 125))
  clear hT hy hLe hks
  go_enter Tryz.func124, Tryz.ntmps124
  go_upto_region 1 with (fail)
  have HTX := hid (HT.out.low HB0.out)
  generalize w.alloc (.cells #[.slice a L pc, .slice (some ⟨gt, 0, none⟩) n n] 125) = X at *
  have ⟨x0, x1⟩ := cellsW HX0.out
  rcases HTX.out with h0 | ⟨b2, o2, rfl, hb2, hc2⟩
  · have := HTL.out; omega
  obtain ⟨ka, kc, q0, q1, q2, q3, rk⟩ := hc2 t HTL.out
  rw [HKS.out] at q3 rk
  simp only [List.length_cons, List.length_nil] at q3
  have g5 : (t : Int) < (L : Int) := by omega
  have g6 : (0 : Int) ≤ (t : Int) := by omega
  have ht4 : ((t : Int) * 4).toNat = t * 4 := by omega
  rcases rk with h0 | ⟨b1, o1, e0, hb1, hc1⟩
  · simp at h0
  subst e0
  have p0 := hc1 0 (by simp)
  have p1 := hc1 1 (by simp)
  rw [Nat.add_zero] at p0
  simp only [List.getD_cons_zero, List.getD_cons_succ] at p0 p1
  clear hc1 hb1 hc2 q0 q1 q2
  go_quiet (fail)
  have HVQ := hid (show Below X.heap.size X (X.drewN nq) from below_drewN (Below.refl _ _) nq)
  have HBQ := hid (bchS HB0.out HVQ.out)
  have HXWQ := hid ((HVQ.out.block _ (lt_blk HX0.out)).trans HX0.out)
  clear p0 p1 q3 x0 x1
  generalize X.drewN nq = Q at *
  have HTQ := hid (HT.out.low HBQ.out)
  have HYQ := hid (HY.out.low HBQ.out)
  have ⟨y0, y1⟩ := cellsW HXWQ.out
  have s1 := (HYQ.out.2 x hx).1
  have s2 := (HYQ.out.2 y hyn).1
  have hx2 : ((x : Int) * 2).toNat = x * 2 := by omega
  have hy2 : ((y : Int) * 2).toNat = y * 2 := by omega
  have g7 : (x : Int) < (n : Int) := by omega
  have g8 : (0 : Int) ≤ (x : Int) := by omega
  have g9 : (y : Int) < (n : Int) := by omega
  have g10 : (0 : Int) ≤ (y : Int) := by omega
  obtain ⟨sx, hsx⟩ : ∃ sx, sx = so x := ⟨_, rfl⟩
  obtain ⟨sy, hsy⟩ : ∃ sy, sy = so y := ⟨_, rfl⟩
  rw [← hsx] at s1
  rw [← hsy] at s2
  have HRES := hid (show mbO so si x y t = if setO sx = 0 then some (141, (x : Int)) else if sy ≠ setO sx ∧ sy ≠ 6 then some (141, (y : Int)) else stO si [(x : Int), (y : Int)] t by unfold mbO; rw [hsx, hsy])
  clear hsx hsy
  rcases setO_cases sx with ⟨rfl, hso⟩ | ⟨rfl, hso⟩ | ⟨hso, ha, hb⟩
  · have HSV := hid (fun W => HSE.out 2 W)
    rw [hso] at HRES HSV
    clear hso HSE
    by_cases h4 : sy = 4
    · subst h4
      rw [if_neg (by decide), if_neg (by decide)] at HRES
      go_wp2_with (first | (go_at_call 128; refine (HSV.out _).mono ?_; rintro e w1 ⟨rfl, hww⟩; have hw2 := hww.symm; clear hww; subst hw2) | (go_at_call 139; refine (HST.out _ HTQ.out HYQ.out).mono ?_; rintro e w1 ⟨ev, rfl, hf, l1⟩; have HF := hid hf; have L1 := hid l1; clear hf l1))
      go_ret
      exact ⟨ev, rfl, by rw [HRES.out]; exact HF.out.low (Below.refl _ _) HBQ.out.size, bchS HBQ.out L1.out⟩
    · have h4' : (sy != 4) = true := by simp [h4]
      by_cases h6 : sy = 6
      · subst h6
        rw [if_neg (by decide), if_neg (by decide)] at HRES
        clear h4
        go_wp2_with (first | (go_at_call 128; refine (HSV.out _).mono ?_; rintro e w1 ⟨rfl, hww⟩; have hw2 := hww.symm; clear hww; subst hw2) | (go_at_call 139; refine (HST.out _ HTQ.out HYQ.out).mono ?_; rintro e w1 ⟨ev, rfl, hf, l1⟩; have HF := hid hf; have L1 := hid l1; clear hf l1))
        go_ret
        exact ⟨ev, rfl, by rw [HRES.out]; exact HF.out.low (Below.refl _ _) HBQ.out.size, bchS HBQ.out L1.out⟩
      · have h6' : (sy != 6) = true := by simp [h6]
        rw [if_neg (by decide), if_pos ⟨h4, h6⟩] at HRES
        clear h4 h6
        go_wp2_with (first | (go_at_call 128; refine (HSV.out _).mono ?_; rintro e w1 ⟨rfl, hww⟩; have hw2 := hww.symm; clear hww; subst hw2) | (go_at_call 66; refine (HFA.out _ _).mono ?_; rintro e w1 ⟨rfl, hf, l1⟩; have HF := hid hf; have L1 := hid l1; clear hf l1))
        go_ret
        exact ⟨_, rfl, Or.inr ⟨_, 141, (y : Int), HRES.out, rfl, HF.out, HBQ.out.size⟩, bchS HBQ.out L1.out⟩
  · have HSV := hid (fun W => HSE.out 3 W)
    rw [hso] at HRES HSV
    clear hso HSE
    by_cases h4 : sy = 5
    · subst h4
      rw [if_neg (by decide), if_neg (by decide)] at HRES
      go_wp2_with (first | (go_at_call 128; refine (HSV.out _).mono ?_; rintro e w1 ⟨rfl, hww⟩; have hw2 := hww.symm; clear hww; subst hw2) | (go_at_call 139; refine (HST.out _ HTQ.out HYQ.out).mono ?_; rintro e w1 ⟨ev, rfl, hf, l1⟩; have HF := hid hf; have L1 := hid l1; clear hf l1))
      go_ret
      exact ⟨ev, rfl, by rw [HRES.out]; exact HF.out.low (Below.refl _ _) HBQ.out.size, bchS HBQ.out L1.out⟩
    · have h4' : (sy != 5) = true := by simp [h4]
      by_cases h6 : sy = 6
      · subst h6
        rw [if_neg (by decide), if_neg (by decide)] at HRES
        clear h4
        go_wp2_with (first | (go_at_call 128; refine (HSV.out _).mono ?_; rintro e w1 ⟨rfl, hww⟩; have hw2 := hww.symm; clear hww; subst hw2) | (go_at_call 139; refine (HST.out _ HTQ.out HYQ.out).mono ?_; rintro e w1 ⟨ev, rfl, hf, l1⟩; have HF := hid hf; have L1 := hid l1; clear hf l1))
        go_ret
        exact ⟨ev, rfl, by rw [HRES.out]; exact HF.out.low (Below.refl _ _) HBQ.out.size, bchS HBQ.out L1.out⟩
      · have h6' : (sy != 6) = true := by simp [h6]
        rw [if_neg (by decide), if_pos ⟨h4, h6⟩] at HRES
        clear h4 h6
        go_wp2_with (first | (go_at_call 128; refine (HSV.out _).mono ?_; rintro e w1 ⟨rfl, hww⟩; have hw2 := hww.symm; clear hww; subst hw2) | (go_at_call 66; refine (HFA.out _ _).mono ?_; rintro e w1 ⟨rfl, hf, l1⟩; have HF := hid hf; have L1 := hid l1; clear hf l1))
        go_ret
        exact ⟨_, rfl, Or.inr ⟨_, 141, (y : Int), HRES.out, rfl, HF.out, HBQ.out.size⟩, bchS HBQ.out L1.out⟩
  · have HSX := hid (fun W => HSE.out sx W)
    rw [hso] at HSX HRES
    rw [if_pos rfl] at HRES
    clear hso ha hb HSE
    go_wp2_with (first | (go_at_call 128; refine (HSX.out _).mono ?_; rintro e w1 ⟨rfl, hww⟩; have hw2 := hww.symm; clear hww; subst hw2) | (go_at_call 66; refine (HFA.out _ _).mono ?_; rintro e w1 ⟨rfl, hf, l1⟩; have HF := hid hf; have L1 := hid l1; clear hf l1))
    go_ret
    exact ⟨_, rfl, Or.inr ⟨_, 141, (x : Int), HRES.out, rfl, HF.out, HBQ.out.size⟩, bchS HBQ.out L1.out⟩
end Go.Proofs.YtimmjikpcekffaaGreatDoor.L
namespace Go.Proofs.YtimmjikpcekffaaGreatDoor.L
open Go.RowKit
set_option linter.unusedVariables false
def lowB (c : Int) : Bool := decide (97 ≤ c ∧ c ≤ 122) || decide (48 ≤ c ∧ c ≤ 57)
def wordB (c : Int) : Bool := lowB c || decide (65 ≤ c ∧ c ≤ 90)
def innB (c : Int) : Bool := wordB c || c == 45 || c == 95 || c == 46
theorem low_any (c : Int) (w : World) : Calls Tryz.prog 207 #[.int .u8 c] w fun e w' => e = .returned (.bool (lowB c)) ∧ w' = w := by
  unfold lowB
  by_cases a : 97 ≤ c
  · by_cases b : c ≤ 122
    · go_enter Tryz.func207, Tryz.ntmps207
      go_wp2
      go_ret
      exact ⟨ret_bool (by simp [a, b]), rfl⟩
    · have a2 : 48 ≤ c := by omega
      have b2 : ¬ c ≤ 57 := by omega
      go_enter Tryz.func207, Tryz.ntmps207
      go_wp2
      go_ret
      exact ⟨ret_bool (by simp; omega), rfl⟩
  · by_cases a2 : 48 ≤ c
    · by_cases b2 : c ≤ 57
      · go_enter Tryz.func207, Tryz.ntmps207
        go_wp2
        go_ret
        exact ⟨ret_bool (by simp), rfl⟩
      · go_enter Tryz.func207, Tryz.ntmps207
        go_wp2
        go_ret
        exact ⟨ret_bool (by simp; omega), rfl⟩
    · go_enter Tryz.func207, Tryz.ntmps207
      go_wp2
      go_ret
      exact ⟨ret_bool (by simp; omega), rfl⟩
theorem word_any (c : Int) (w : World) : Calls Tryz.prog 197 #[.int .u8 c] w fun e w' => e = .returned (.bool (wordB c)) ∧ w' = w := by
  have HL := hid (fun W => low_any c W)
  unfold wordB
  cases e1 : lowB c
  · rw [e1] at HL
    by_cases a : 65 ≤ c
    · by_cases b : c ≤ 90
      · go_enter Tryz.func197, Tryz.ntmps197
        go_wp2_with (go_at_call 207; refine (HL.out _).mono ?_; rintro e w1 ⟨rfl, hww⟩; subst hww)
        go_ret
        exact ⟨ret_bool (by simp [a, b]), rfl⟩
      · go_enter Tryz.func197, Tryz.ntmps197
        go_wp2_with (go_at_call 207; refine (HL.out _).mono ?_; rintro e w1 ⟨rfl, hww⟩; subst hww)
        go_ret
        exact ⟨ret_bool (by simp; omega), rfl⟩
    · go_enter Tryz.func197, Tryz.ntmps197
      go_wp2_with (go_at_call 207; refine (HL.out _).mono ?_; rintro e w1 ⟨rfl, hww⟩; subst hww)
      go_ret
      exact ⟨ret_bool (by simp; omega), rfl⟩
  · rw [e1] at HL
    go_enter Tryz.func197, Tryz.ntmps197
    go_wp2_with (go_at_call 207; refine (HL.out _).mono ?_; rintro e w1 ⟨rfl, hww⟩; subst hww)
    go_ret
    exact ⟨ret_bool (by simp), rfl⟩
def at' (s : ByteArray) (i : Nat) : Int := ((s.data.toList.getD i 0).toNat : Int)
theorem at_get (s : ByteArray) (k : Nat) (h : k < s.size) : at' s k = ((s[k]'h).toNat : Int) := by
  unfold at'
  simp [h]
  rfl
theorem all_snoc {p : Int → Bool} {s : ByteArray} {k : Nat} (h : ∀ j, j < k → p (at' s j) = true) (h' : p (at' s k) = true) : ∀ j, j < k + 1 → p (at' s j) = true := by
  intro j hj
  by_cases e : j < k
  · exact h j e
  · obtain rfl : j = k := by omega
    exact h'
def allB (p : Int → Bool) (s : ByteArray) : Bool := decide (∀ i, i < s.size → p (at' s i) = true)
theorem all_bad {p : Int → Bool} {s : ByteArray} {k : Nat} (hk : k < s.size) (h : p (at' s k) = false) : allB p s = false := by
  unfold allB
  rw [decide_eq_false]
  intro x
  rw [x k hk] at h
  cases h
theorem all_good {p : Int → Bool} {s : ByteArray} (h : ∀ j, j < s.size → p (at' s j) = true) : allB p s = true := by
  unfold allB
  exact decide_eq_true h
set_option maxHeartbeats 4000000 in
theorem plain_any (s : ByteArray) (w : World) (hs : s.size ≤ maxLen) : Calls Tryz.prog 196 #[.string s] w fun e w' => e = .returned (.bool (allB innB s)) ∧ w' = w := by
  unfold maxLen at hs
  go_enter Tryz.func196, Tryz.ntmps196
  go_wp2
  go_loop [6] (fun i => ∃ k : Nat, k ≤ s.size ∧ i = .int .i64 k ∧ Hid (∀ j, j < k → innB (at' s j) = true)) (fun i => s.size - (intOf i).toNat)
  case atStart => exact ⟨0, Nat.zero_le _, rfl, hid (fun j hj => by omega)⟩
  case round =>
    obtain ⟨k, hk, rfl, HO⟩ := hrel
    by_cases hlt : k < s.size
    · obtain ⟨c, hc⟩ : ∃ c : Int, ((s[k]'hlt).toNat : Int) = c := ⟨_, rfl⟩
      have HC := hid ((at_get s k hlt).trans hc)
      have HL := hid (fun W => word_any c W)
      by_cases c1 : wordB c = true
      · rw [c1] at HL
        have HO2 := hid (all_snoc (p := innB) HO.out (show innB (at' s k) = true by rw [HC.out]; unfold innB; rw [c1]; rfl))
        clear HO HC c1
        go_wp2_with (go_at_call 197; refine (HL.out _).mono ?_; rintro e w1 ⟨rfl, hww⟩; subst hww)
        exact ⟨⟨k + 1, by omega, by go_num, HO2⟩, by simp [intOf]; omega⟩
      · have c1' : wordB c = false := by simpa using c1
        rw [c1'] at HL
        by_cases c3 : c = 45
        · subst c3
          have HO2 := hid (all_snoc (p := innB) HO.out (show innB (at' s k) = true by rw [HC.out]; decide))
          clear HO HC c1 c1'
          go_wp2_with (go_at_call 197; refine (HL.out _).mono ?_; rintro e w1 ⟨rfl, hww⟩; subst hww)
          exact ⟨⟨k + 1, by omega, by go_num, HO2⟩, by simp [intOf]; omega⟩
        · by_cases c4 : c = 95
          · subst c4
            have HO2 := hid (all_snoc (p := innB) HO.out (show innB (at' s k) = true by rw [HC.out]; decide))
            clear HO HC c1 c1' c3
            go_wp2_with (go_at_call 197; refine (HL.out _).mono ?_; rintro e w1 ⟨rfl, hww⟩; subst hww)
            exact ⟨⟨k + 1, by omega, by go_num, HO2⟩, by simp [intOf]; omega⟩
          · by_cases c5 : c = 46
            · subst c5
              have HO2 := hid (all_snoc (p := innB) HO.out (show innB (at' s k) = true by rw [HC.out]; decide))
              clear HO HC c1 c1' c3 c4
              go_wp2_with (go_at_call 197; refine (HL.out _).mono ?_; rintro e w1 ⟨rfl, hww⟩; subst hww)
              exact ⟨⟨k + 1, by omega, by go_num, HO2⟩, by simp [intOf]; omega⟩
            · have HN := hid (all_bad (p := innB) hlt (show innB (at' s k) = false by rw [HC.out]; unfold innB; simp [c1', c3, c4, c5]))
              have b3 : (c != 45) = true := by simpa using c3
              have b4 : (c != 95) = true := by simpa using c4
              have b5 : (c != 46) = true := by simpa using c5
              clear c1 c1' c3 c4 c5
              go_wp2_with (go_at_call 197; refine (HL.out _).mono ?_; rintro e w1 ⟨rfl, hww⟩; subst hww)
              go_ret
              exact ⟨ret_bool HN.out.symm, rfl⟩
    · obtain rfl : k = s.size := by omega
      have HN := hid (all_good HO.out)
      go_wp2
      go_ret
      exact ⟨ret_bool HN.out.symm, rfl⟩
theorem empty_yes {s : ByteArray} (h : s.size = 0) : s.toList.isEmpty = true := by
  rw [ByteArray.toList_eq]
  simp
  rw [ByteArray.size_eq_zero_iff.1 h]
  rfl
theorem empty_no {s : ByteArray} (h : s.size ≠ 0) : s.toList.isEmpty = false := by
  rw [ByteArray.toList_eq]
  cases e : s.data.toList.isEmpty
  · rfl
  · simp at e
    exact absurd (by show s.data.size = 0; rw [e]; rfl) h
def valB (s : ByteArray) : Bool := decide (s.size = 0) || (decide (s.size ≤ 63) && allB innB s && (wordB (at' s 0) || at' s 0 == 45) && wordB (at' s (s.size - 1)))
end Go.Proofs.YtimmjikpcekffaaGreatDoor.L
