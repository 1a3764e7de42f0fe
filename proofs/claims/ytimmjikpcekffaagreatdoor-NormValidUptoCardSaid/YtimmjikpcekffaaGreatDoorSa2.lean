import Derived.Test.YtimmjikpcekffaaGreatDoorMgBA
import Derived.Test.YtimmjikpcekffaaGreatDoorMgAX
namespace Go.Proofs.YtimmjikpcekffaaGreatDoor.L
open Go.RowKit
set_option linter.unusedVariables false
theorem undrewS {B : Nat} {w w' : World} (h : Below B w.drew w') : Below B w w' := ⟨h.os, h.tape, h.output, h.size, h.block⟩
/-- What broken answers at the part t. -/
def brO (T : List Pt) (so si : Nat → Int) (t : Nat) (sc : Int) : Option (Nat × Int) :=
  if (pt T t).kind = 6 then cmO so si (pt T t).num ((pt T t).kids.getD 0 0).toNat ((pt T t).kids.getD 1 0).toNat t
  else if (pt T t).kind = 7 then mbO so si ((pt T t).kids.getD 0 0).toNat ((pt T t).kids.getD 1 0).toNat t
  else if (pt T t).kind = 13 then alO so (so ((pt T t).kids.getD 0 0).toNat) (pt T t).kids
  else if (pt T t).kind = 19 then rdO (pt T ((pt T t).kids.getD 0 0).toNat).kind (((pt T t).kids.getD 0 0).toNat : Int)
  else asO (pt T t).kind (pt T t).num sc (pt T t).text t
set_option maxHeartbeats 8000000 in
set_option maxRecDepth 100000 in
theorem br_6 (a : Option Addr) (T : List Pt) (pc gt n : Nat) (so si : Nat → Int) (t : Nat) (sc : Int) (w : World) (hT : PL w a T) (hy : TyR w gt n so si) (ht : t < T.length) (hin : ∀ x, x ∈ (pt T t).kids → 0 ≤ x ∧ x < n) (hkl : (pt T t).kids.length ≤ 1000) (hL : T.length ≤ 1000) (hnl : n ≤ T.length) (hk : (pt T t).kind = 6) (x y : Nat) (hks2 : (pt T t).kids = [(x : Int), (y : Int)]) :
    Calls Tryz.prog 100 #[.agg #[.slice a T.length pc, .slice (some ⟨gt, 0, none⟩) n n], .int .i64 (t : Int), .int .i64 sc] w fun e w' => ∃ ev, e = .returned ev ∧ AnsR (brO T so si t sc) w.heap.size w' ev ∧ Below w.heap.size w w' := by
  have hn : n ≤ 1000 := by omega
  have hx : x < n := by have := hin x (by rw [hks2]; simp); omega
  have hyn : y < n := by have := hin y (by rw [hks2]; simp); omega
  have HC := hid (fun W h1 h2 => compared_any a T pc gt n so si t x y W h1 h2 ht hks2 hx hyn hL hn)
  have HR := hid (show brO T so si t sc = _ from by unfold brO; simp only [hk, hks2]; simp; rfl)

  obtain ⟨L, hLe⟩ : ∃ L, L = T.length := ⟨_, rfl⟩
  have HT := hid hT
  have HY := hid hy
  have HL := hid hLe
  have HTL := hid ht
  rw [← hLe] at hL ht ⊢
  try rw [← hLe] at HC
  have HB0 := hid (belowA w (.cells #[.slice a L pc, .slice (some ⟨gt, 0, none⟩) n n] 125))
  have HX0 := hid (heap_alloc_new w (.cells #[.slice a L pc, .slice (some ⟨gt, 0, none⟩) n n] 125))
  clear hT hy hLe
  go_enter Tryz.func100, Tryz.ntmps100
  go_upto_region 1 with (fail)
  have HTX := hid (HT.out.low HB0.out)
  generalize w.alloc (.cells #[.slice a L pc, .slice (some ⟨gt, 0, none⟩) n n] 125) = X at *
  have ⟨x0, x1⟩ := cellsW HX0.out
  rcases HTX.out with h0 | ⟨b2, o2, rfl, hb2, hc2⟩
  · have := HTL.out; omega
  obtain ⟨ka, kc, q0, q1, q2, q3, rk⟩ := hc2 t HTL.out
  rw [hk] at q0
  obtain ⟨tx, htx⟩ : ∃ tx, tx = (pt T t).text := ⟨_, rfl⟩
  obtain ⟨nu, hnu⟩ : ∃ nu, nu = (pt T t).num := ⟨_, rfl⟩
  obtain ⟨ks, hks⟩ : ∃ ks, ks = (pt T t).kids := ⟨_, rfl⟩
  rw [← htx] at q1
  rw [← hnu] at q2
  rw [← hks] at q3 rk
  obtain ⟨m, hm⟩ : ∃ m, m = ks.length := ⟨_, rfl⟩
  rw [← hm] at q3
  have HTXT := hid htx
  have HNU := hid hnu
  have HKS := hid hks
  have HM := hid hm
  have RK := hid rk
  have g5 : (t : Int) < (L : Int) := by omega
  have g6 : (0 : Int) ≤ (t : Int) := by omega
  have ht4 : ((t : Int) * 4).toNat = t * 4 := by omega
  have HB1 := hid (belowA X (.cells #[.int .i64 6, .string tx, .int .i64 nu, .slice ka m kc] 31))
  have HX1 := hid (heap_alloc_new X (.cells #[.int .i64 6, .string tx, .int .i64 nu, .slice ka m kc] 31))
  clear hc2 rk htx hnu hks hm
  go_upto_region 2 with (fail)
  have HXW := hid ((HB1.out.block _ (lt_blk HX0.out)).trans HX0.out)
  have HB := hid (show Below w.heap.size w _ from bchS HB0.out HB1.out)
  have RV := hid (RK.out.low HB1.out (Nat.le_refl _))
  clear q0 q1 q2 q3 x0 x1
  generalize X.alloc (.cells #[.int .i64 6, .string tx, .int .i64 nu, .slice ka m kc] 31) = V at *
  generalize X.heap.size = pb at *
  have ⟨x0, x1, x2, x3⟩ := cells4 HX1.out
  have ⟨y0, y1⟩ := cellsW HXW.out
  have HTV := hid (HT.out.low HB.out)
  have HYV := hid (HY.out.low HB.out)
  go_wp2_with (go_at_call 123; refine (HC.out _ HTV.out HYV.out).mono ?_; rintro e w1 ⟨ev, rfl, h1, l1⟩; have HA := hid h1; have L1 := hid l1; clear h1 l1)
  go_ret
  exact ⟨_, rfl, HR.out ▸ HA.out.low (Below.refl _ _) HB.out.size, bchS HB.out L1.out⟩
set_option maxHeartbeats 8000000 in
set_option maxRecDepth 100000 in
theorem br_7 (a : Option Addr) (T : List Pt) (pc gt n : Nat) (so si : Nat → Int) (t : Nat) (sc : Int) (w : World) (hT : PL w a T) (hy : TyR w gt n so si) (ht : t < T.length) (hin : ∀ x, x ∈ (pt T t).kids → 0 ≤ x ∧ x < n) (hkl : (pt T t).kids.length ≤ 1000) (hL : T.length ≤ 1000) (hnl : n ≤ T.length) (hk : (pt T t).kind = 7) (x y : Nat) (hks2 : (pt T t).kids = [(x : Int), (y : Int)]) :
    Calls Tryz.prog 100 #[.agg #[.slice a T.length pc, .slice (some ⟨gt, 0, none⟩) n n], .int .i64 (t : Int), .int .i64 sc] w fun e w' => ∃ ev, e = .returned ev ∧ AnsR (brO T so si t sc) w.heap.size w' ev ∧ Below w.heap.size w w' := by
  have hn : n ≤ 1000 := by omega
  have hx : x < n := by have := hin x (by rw [hks2]; simp); omega
  have hyn : y < n := by have := hin y (by rw [hks2]; simp); omega
  have HC := hid (fun W h1 h2 => member_any a T pc gt n so si t x y W h1 h2 ht hks2 hx hyn hL hn)
  have HR := hid (show brO T so si t sc = _ from by unfold brO; simp only [hk, hks2]; simp; rfl)

  obtain ⟨L, hLe⟩ : ∃ L, L = T.length := ⟨_, rfl⟩
  have HT := hid hT
  have HY := hid hy
  have HL := hid hLe
  have HTL := hid ht
  rw [← hLe] at hL ht ⊢
  try rw [← hLe] at HC
  have HB0 := hid (belowA w (.cells #[.slice a L pc, .slice (some ⟨gt, 0, none⟩) n n] 125))
  have HX0 := hid (heap_alloc_new w (.cells #[.slice a L pc, .slice (some ⟨gt, 0, none⟩) n n] 125))
  clear hT hy hLe
  go_enter Tryz.func100, Tryz.ntmps100
  go_upto_region 1 with (fail)
  have HTX := hid (HT.out.low HB0.out)
  generalize w.alloc (.cells #[.slice a L pc, .slice (some ⟨gt, 0, none⟩) n n] 125) = X at *
  have ⟨x0, x1⟩ := cellsW HX0.out
  rcases HTX.out with h0 | ⟨b2, o2, rfl, hb2, hc2⟩
  · have := HTL.out; omega
  obtain ⟨ka, kc, q0, q1, q2, q3, rk⟩ := hc2 t HTL.out
  rw [hk] at q0
  obtain ⟨tx, htx⟩ : ∃ tx, tx = (pt T t).text := ⟨_, rfl⟩
  obtain ⟨nu, hnu⟩ : ∃ nu, nu = (pt T t).num := ⟨_, rfl⟩
  obtain ⟨ks, hks⟩ : ∃ ks, ks = (pt T t).kids := ⟨_, rfl⟩
  rw [← htx] at q1
  rw [← hnu] at q2
  rw [← hks] at q3 rk
  obtain ⟨m, hm⟩ : ∃ m, m = ks.length := ⟨_, rfl⟩
  rw [← hm] at q3
  have HTXT := hid htx
  have HNU := hid hnu
  have HKS := hid hks
  have HM := hid hm
  have RK := hid rk
  have g5 : (t : Int) < (L : Int) := by omega
  have g6 : (0 : Int) ≤ (t : Int) := by omega
  have ht4 : ((t : Int) * 4).toNat = t * 4 := by omega
  have HB1 := hid (belowA X (.cells #[.int .i64 7, .string tx, .int .i64 nu, .slice ka m kc] 31))
  have HX1 := hid (heap_alloc_new X (.cells #[.int .i64 7, .string tx, .int .i64 nu, .slice ka m kc] 31))
  clear hc2 rk htx hnu hks hm
  go_upto_region 2 with (fail)
  have HXW := hid ((HB1.out.block _ (lt_blk HX0.out)).trans HX0.out)
  have HB := hid (show Below w.heap.size w _ from bchS HB0.out HB1.out)
  have RV := hid (RK.out.low HB1.out (Nat.le_refl _))
  clear q0 q1 q2 q3 x0 x1
  generalize X.alloc (.cells #[.int .i64 7, .string tx, .int .i64 nu, .slice ka m kc] 31) = V at *
  generalize X.heap.size = pb at *
  have ⟨x0, x1, x2, x3⟩ := cells4 HX1.out
  have ⟨y0, y1⟩ := cellsW HXW.out
  have HTV := hid (HT.out.low HB.out)
  have HYV := hid (HY.out.low HB.out)
  go_wp2_with (go_at_call 124; refine (HC.out _ HTV.out HYV.out).mono ?_; rintro e w1 ⟨ev, rfl, h1, l1⟩; have HA := hid h1; have L1 := hid l1; clear h1 l1)
  go_ret
  exact ⟨_, rfl, HR.out ▸ HA.out.low (Below.refl _ _) HB.out.size, bchS HB.out L1.out⟩
set_option maxHeartbeats 8000000 in
set_option maxRecDepth 100000 in
theorem br_13 (a : Option Addr) (T : List Pt) (pc gt n : Nat) (so si : Nat → Int) (t : Nat) (sc : Int) (w : World) (hT : PL w a T) (hy : TyR w gt n so si) (ht : t < T.length) (hin : ∀ x, x ∈ (pt T t).kids → 0 ≤ x ∧ x < n) (hkl : (pt T t).kids.length ≤ 1000) (hL : T.length ≤ 1000) (hnl : n ≤ T.length) (hk : (pt T t).kind = 13) :
    Calls Tryz.prog 100 #[.agg #[.slice a T.length pc, .slice (some ⟨gt, 0, none⟩) n n], .int .i64 (t : Int), .int .i64 sc] w fun e w' => ∃ ev, e = .returned ev ∧ AnsR (brO T so si t sc) w.heap.size w' ev ∧ Below w.heap.size w w' := by
  have hn : n ≤ 1000 := by omega
  have HC := hid (fun ka kc W h1 h2 => alike_any (.slice a T.length pc) gt n so si ka (pt T t).kids kc W h1 h2 hin hkl hn ⟨_, _, _, rfl⟩)
  have HR := hid (show brO T so si t sc = alO so (so ((pt T t).kids.getD 0 0).toNat) (pt T t).kids from by unfold brO; rw [hk]; rfl)

  obtain ⟨L, hLe⟩ : ∃ L, L = T.length := ⟨_, rfl⟩
  have HT := hid hT
  have HY := hid hy
  have HL := hid hLe
  have HTL := hid ht
  rw [← hLe] at hL ht ⊢
  try rw [← hLe] at HC
  have HB0 := hid (belowA w (.cells #[.slice a L pc, .slice (some ⟨gt, 0, none⟩) n n] 125))
  have HX0 := hid (heap_alloc_new w (.cells #[.slice a L pc, .slice (some ⟨gt, 0, none⟩) n n] 125))
  clear hT hy hLe
  go_enter Tryz.func100, Tryz.ntmps100
  go_upto_region 1 with (fail)
  have HTX := hid (HT.out.low HB0.out)
  generalize w.alloc (.cells #[.slice a L pc, .slice (some ⟨gt, 0, none⟩) n n] 125) = X at *
  have ⟨x0, x1⟩ := cellsW HX0.out
  rcases HTX.out with h0 | ⟨b2, o2, rfl, hb2, hc2⟩
  · have := HTL.out; omega
  obtain ⟨ka, kc, q0, q1, q2, q3, rk⟩ := hc2 t HTL.out
  rw [hk] at q0
  obtain ⟨tx, htx⟩ : ∃ tx, tx = (pt T t).text := ⟨_, rfl⟩
  obtain ⟨nu, hnu⟩ : ∃ nu, nu = (pt T t).num := ⟨_, rfl⟩
  obtain ⟨ks, hks⟩ : ∃ ks, ks = (pt T t).kids := ⟨_, rfl⟩
  rw [← htx] at q1
  rw [← hnu] at q2
  rw [← hks] at q3 rk
  obtain ⟨m, hm⟩ : ∃ m, m = ks.length := ⟨_, rfl⟩
  rw [← hm] at q3
  have HTXT := hid htx
  have HNU := hid hnu
  have HKS := hid hks
  have HM := hid hm
  have RK := hid rk
  have g5 : (t : Int) < (L : Int) := by omega
  have g6 : (0 : Int) ≤ (t : Int) := by omega
  have ht4 : ((t : Int) * 4).toNat = t * 4 := by omega
  have HB1 := hid (belowA X (.cells #[.int .i64 13, .string tx, .int .i64 nu, .slice ka m kc] 31))
  have HX1 := hid (heap_alloc_new X (.cells #[.int .i64 13, .string tx, .int .i64 nu, .slice ka m kc] 31))
  clear hc2 rk htx hnu hks hm
  go_upto_region 2 with (fail)
  have HXW := hid ((HB1.out.block _ (lt_blk HX0.out)).trans HX0.out)
  have HB := hid (show Below w.heap.size w _ from bchS HB0.out HB1.out)
  have RV := hid (RK.out.low HB1.out (Nat.le_refl _))
  clear q0 q1 q2 q3 x0 x1
  generalize X.alloc (.cells #[.int .i64 13, .string tx, .int .i64 nu, .slice ka m kc] 31) = V at *
  generalize X.heap.size = pb at *
  have ⟨x0, x1, x2, x3⟩ := cells4 HX1.out
  have ⟨y0, y1⟩ := cellsW HXW.out
  have HTV := hid (HT.out.low HB.out)
  have HYV := hid (HY.out.low HB.out)
  rw [← HKS.out, ← HM.out] at HC
  rw [← HKS.out] at HR
  go_wp2_with (go_at_call 125; refine (HC.out ka kc _ HYV.out RV.out).mono ?_; rintro e w1 ⟨ev, rfl, h1, l1⟩; have HA := hid h1; have L1 := hid l1; clear h1 l1)
  go_ret
  exact ⟨_, rfl, HR.out ▸ HA.out.low (Below.refl _ _) HB.out.size, bchS HB.out L1.out⟩
set_option maxHeartbeats 8000000 in
set_option maxRecDepth 100000 in
theorem br_else (a : Option Addr) (T : List Pt) (pc gt n : Nat) (so si : Nat → Int) (t : Nat) (sc : Int) (w : World) (hT : PL w a T) (hy : TyR w gt n so si) (ht : t < T.length) (hin : ∀ x, x ∈ (pt T t).kids → 0 ≤ x ∧ x < n) (hkl : (pt T t).kids.length ≤ 1000) (hL : T.length ≤ 1000) (hnl : n ≤ T.length) (hk : (pt T t).kind ≠ 6 ∧ (pt T t).kind ≠ 7 ∧ (pt T t).kind ≠ 13 ∧ (pt T t).kind ≠ 19) (hs : (pt T t).text.size ≤ maxLen) :
    Calls Tryz.prog 100 #[.agg #[.slice a T.length pc, .slice (some ⟨gt, 0, none⟩) n n], .int .i64 (t : Int), .int .i64 sc] w fun e w' => ∃ ev, e = .returned ev ∧ AnsR (brO T so si t sc) w.heap.size w' ev ∧ Below w.heap.size w w' := by
  have hn : n ≤ 1000 := by omega
  obtain ⟨h6, h7, h13, h19⟩ := hk
  have HC := hid (fun kv W => asked_any (pt T t).kind (pt T t).text (pt T t).num sc t kv hs W)
  have HR := hid (show brO T so si t sc = asO (pt T t).kind (pt T t).num sc (pt T t).text t from by unfold brO; rw [if_neg h6, if_neg h7, if_neg h13, if_neg h19])
  have e6 : ((pt T t).kind == 6) = false := by simp; omega
  have e7 : ((pt T t).kind == 7) = false := by simp; omega
  have e13 : ((pt T t).kind == 13) = false := by simp; omega
  have e19 : ((pt T t).kind == 19) = false := by simp; omega
  clear h6 h7 h13 h19

  obtain ⟨L, hLe⟩ : ∃ L, L = T.length := ⟨_, rfl⟩
  have HT := hid hT
  have HY := hid hy
  have HL := hid hLe
  have HTL := hid ht
  rw [← hLe] at hL ht ⊢
  try rw [← hLe] at HC
  have HB0 := hid (belowA w (.cells #[.slice a L pc, .slice (some ⟨gt, 0, none⟩) n n] 125))
  have HX0 := hid (heap_alloc_new w (.cells #[.slice a L pc, .slice (some ⟨gt, 0, none⟩) n n] 125))
  clear hT hy hLe
  go_enter Tryz.func100, Tryz.ntmps100
  go_upto_region 1 with (fail)
  have HTX := hid (HT.out.low HB0.out)
  generalize w.alloc (.cells #[.slice a L pc, .slice (some ⟨gt, 0, none⟩) n n] 125) = X at *
  have ⟨x0, x1⟩ := cellsW HX0.out
  rcases HTX.out with h0 | ⟨b2, o2, rfl, hb2, hc2⟩
  · have := HTL.out; omega
  obtain ⟨ka, kc, q0, q1, q2, q3, rk⟩ := hc2 t HTL.out
  obtain ⟨kd, hkd⟩ : ∃ kd, kd = (pt T t).kind := ⟨_, rfl⟩
  rw [← hkd] at q0 HC
  have HKD := hid hkd
  rw [← hkd] at e6 e7 e13 e19
  clear hkd
  obtain ⟨tx, htx⟩ : ∃ tx, tx = (pt T t).text := ⟨_, rfl⟩
  obtain ⟨nu, hnu⟩ : ∃ nu, nu = (pt T t).num := ⟨_, rfl⟩
  obtain ⟨ks, hks⟩ : ∃ ks, ks = (pt T t).kids := ⟨_, rfl⟩
  rw [← htx] at q1
  rw [← hnu] at q2
  rw [← hks] at q3 rk
  obtain ⟨m, hm⟩ : ∃ m, m = ks.length := ⟨_, rfl⟩
  rw [← hm] at q3
  have HTXT := hid htx
  have HNU := hid hnu
  have HKS := hid hks
  have HM := hid hm
  have RK := hid rk
  have g5 : (t : Int) < (L : Int) := by omega
  have g6 : (0 : Int) ≤ (t : Int) := by omega
  have ht4 : ((t : Int) * 4).toNat = t * 4 := by omega
  have HB1 := hid (belowA X (.cells #[.int .i64 kd, .string tx, .int .i64 nu, .slice ka m kc] 31))
  have HX1 := hid (heap_alloc_new X (.cells #[.int .i64 kd, .string tx, .int .i64 nu, .slice ka m kc] 31))
  clear hc2 rk htx hnu hks hm
  go_upto_region 2 with (fail)
  have HXW := hid ((HB1.out.block _ (lt_blk HX0.out)).trans HX0.out)
  have HB := hid (show Below w.heap.size w _ from bchS HB0.out HB1.out)
  have RV := hid (RK.out.low HB1.out (Nat.le_refl _))
  clear q0 q1 q2 q3 x0 x1
  generalize X.alloc (.cells #[.int .i64 kd, .string tx, .int .i64 nu, .slice ka m kc] 31) = V at *
  generalize X.heap.size = pb at *
  have ⟨x0, x1, x2, x3⟩ := cells4 HX1.out
  have ⟨y0, y1⟩ := cellsW HXW.out
  have HTV := hid (HT.out.low HB.out)
  have HYV := hid (HY.out.low HB.out)
  rw [← HTXT.out, ← HNU.out] at HC
  rw [← HKD.out, ← HTXT.out, ← HNU.out] at HR
  go_wp2_with (go_at_call 127; refine (HC.out _ _).mono ?_; rintro e w1 ⟨ev, rfl, h1, l1⟩; have HA := hid h1; have L1 := hid l1; clear h1 l1)
  go_ret
  exact ⟨_, rfl, HR.out ▸ HA.out.low (Below.refl _ _) HB.out.size, bchS HB.out L1.out⟩
set_option maxHeartbeats 8000000 in
set_option maxRecDepth 100000 in
theorem br_19 (a : Option Addr) (T : List Pt) (pc gt n : Nat) (so si : Nat → Int) (t : Nat) (sc : Int) (w : World) (hT : PL w a T) (hy : TyR w gt n so si) (ht : t < T.length) (hin : ∀ x, x ∈ (pt T t).kids → 0 ≤ x ∧ x < n) (hkl : (pt T t).kids.length ≤ 1000) (hL : T.length ≤ 1000) (hnl : n ≤ T.length) (hk : (pt T t).kind = 19) (x : Nat) (hks1 : (pt T t).kids = [(x : Int)]) :
    Calls Tryz.prog 100 #[.agg #[.slice a T.length pc, .slice (some ⟨gt, 0, none⟩) n n], .int .i64 (t : Int), .int .i64 sc] w fun e w' => ∃ ev, e = .returned ev ∧ AnsR (brO T so si t sc) w.heap.size w' ev ∧ Below w.heap.size w w' := by
  have hn : n ≤ 1000 := by omega
  have hx : x < n := by have := hin x (by rw [hks1]; simp); omega
  have HC := hid (fun W h1 => readable_any a T pc (.slice (some ⟨gt, 0, none⟩) n n) x W h1 (by omega) hL)
  have HR := hid (show brO T so si t sc = rdO (pt T x).kind (x : Int) from by unfold brO; rw [if_neg (by omega), if_neg (by omega), if_neg (by omega), if_pos hk, hks1]; simp)

  obtain ⟨L, hLe⟩ : ∃ L, L = T.length := ⟨_, rfl⟩
  have HT := hid hT
  have HY := hid hy
  have HL := hid hLe
  have HTL := hid ht
  rw [← hLe] at hL ht ⊢
  try rw [← hLe] at HC
  have HB0 := hid (belowA w (.cells #[.slice a L pc, .slice (some ⟨gt, 0, none⟩) n n] 125))
  have HX0 := hid (heap_alloc_new w (.cells #[.slice a L pc, .slice (some ⟨gt, 0, none⟩) n n] 125))
  clear hT hy hLe
  go_enter Tryz.func100, Tryz.ntmps100
  go_upto_region 1 with (fail)
  have HTX := hid (HT.out.low HB0.out)
  generalize w.alloc (.cells #[.slice a L pc, .slice (some ⟨gt, 0, none⟩) n n] 125) = X at *
  have ⟨x0, x1⟩ := cellsW HX0.out
  rcases HTX.out with h0 | ⟨b2, o2, rfl, hb2, hc2⟩
  · have := HTL.out; omega
  obtain ⟨ka, kc, q0, q1, q2, q3, rk⟩ := hc2 t HTL.out
  rw [hk] at q0
  obtain ⟨tx, htx⟩ : ∃ tx, tx = (pt T t).text := ⟨_, rfl⟩
  obtain ⟨nu, hnu⟩ : ∃ nu, nu = (pt T t).num := ⟨_, rfl⟩
  obtain ⟨ks, hks⟩ : ∃ ks, ks = (pt T t).kids := ⟨_, rfl⟩
  rw [← htx] at q1
  rw [← hnu] at q2
  rw [← hks] at q3 rk
  obtain ⟨m, hm⟩ : ∃ m, m = ks.length := ⟨_, rfl⟩
  rw [← hm] at q3
  have HTXT := hid htx
  have HNU := hid hnu
  have HKS := hid hks
  have HM := hid hm
  have RK := hid rk
  have g5 : (t : Int) < (L : Int) := by omega
  have g6 : (0 : Int) ≤ (t : Int) := by omega
  have ht4 : ((t : Int) * 4).toNat = t * 4 := by omega
  have HB1 := hid (belowA X (.cells #[.int .i64 19, .string tx, .int .i64 nu, .slice ka m kc] 31))
  have HX1 := hid (heap_alloc_new X (.cells #[.int .i64 19, .string tx, .int .i64 nu, .slice ka m kc] 31))
  clear hc2 rk htx hnu hks hm
  go_upto_region 2 with (fail)
  have HXW := hid ((HB1.out.block _ (lt_blk HX0.out)).trans HX0.out)
  have HB := hid (show Below w.heap.size w _ from bchS HB0.out HB1.out)
  have RV := hid (RK.out.low HB1.out (Nat.le_refl _))
  clear q0 q1 q2 q3 x0 x1
  generalize X.alloc (.cells #[.int .i64 19, .string tx, .int .i64 nu, .slice ka m kc] 31) = V at *
  generalize X.heap.size = pb at *
  have ⟨x0, x1, x2, x3⟩ := cells4 HX1.out
  have ⟨y0, y1⟩ := cellsW HXW.out
  have HTV := hid (HT.out.low HB.out)
  have HYV := hid (HY.out.low HB.out)
  have hks9 : ks = [(x : Int)] := HKS.out.trans hks1
  subst hks9
  have hm1 : m = 1 := HM.out
  subst hm1
  rcases RV.out with h0 | ⟨b1, o1, e0, hb1, hc1⟩
  · simp at h0
  subst e0
  have p0 := hc1 0 (by simp)
  rw [Nat.add_zero] at p0
  simp only [List.getD_cons_zero] at p0
  have HGW := hid (lt_blk HXW.out)
  have HGP := hid (lt_blk HX1.out)
  have HGB := hid hb1
  clear hc1 hb1
  go_upto_region 10 with (fail)
  go_region_held3 (fun Y => Y.cell? ⟨w.heap.size, 0, none⟩ = some (.slice (some ⟨b2, o2, none⟩) L pc) ∧ Y.cell? ⟨w.heap.size, 1, none⟩ = some (.slice (some ⟨gt, 0, none⟩) n n) ∧ Y.cell? ⟨pb, 3, none⟩ = some (.slice (some ⟨b1, o1, none⟩) 1 kc) ∧ Y.cell? ⟨b1, o1, none⟩ = some (.int .i64 (x : Int))) (first | exact ⟨y0, y1, x3, p0⟩ | (refine ⟨?_, ?_, ?_, ?_⟩ <;> assumption) | go_keep)
    ((go_at_call 126; refine (HC.out _ (by exact HTV.out)).mono ?_; rintro e w1 ⟨ev, rfl, h1, l1⟩; have HA := hid h1; have L1 := hid (show Below V.heap.size V w1 from by first | exact l1 | exact undrewS l1); clear h1 l1; have c0 := (L1.out.cell (p := ⟨w.heap.size, 0, none⟩) HGW.out).trans y0; have c1 := (L1.out.cell (p := ⟨w.heap.size, 1, none⟩) HGW.out).trans y1; have c2 := (L1.out.cell (p := ⟨pb, 3, none⟩) HGP.out).trans x3; have c3 := (L1.out.cell (p := ⟨b1, o1, none⟩) HGB.out).trans p0))
  go_wp2_with fail
  go_ret
  exact ⟨_, rfl, HR.out ▸ HA.out.low (Below.refl _ _) HB.out.size, bchS HB.out L1.out⟩
end Go.Proofs.YtimmjikpcekffaaGreatDoor.L
