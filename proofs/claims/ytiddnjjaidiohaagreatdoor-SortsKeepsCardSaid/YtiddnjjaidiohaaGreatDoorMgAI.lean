import Derived.Test.YtiddnjjaidiohaaGreatDoorMgAH
import Derived.Test.YtiddnjjaidiohaaGreatDoorMgAD
namespace Go.Proofs.YtiddnjjaidiohaaGreatDoor.L
open Go.RowKit Go.Shelf
set_option linter.unusedVariables false
/-- A fault lies in a block: its code and its place, no name, no cause. -/
def Flt (W : World) (N c : Nat) (a : Int) : Prop := W.heap[N]? = some (.cells #[.int .i64 (c : Int), .int .i64 a, .string ⟨#[]⟩, .nilIface] 52 (0, 0))
theorem Flt.low {W W' : World} {N c : Nat} {a : Int} (h : Flt W N c a) (hb : Below W.heap.size W W') : Flt W' N c a := (hb.block N (lt_blk h)).trans h
def fv (N : Nat) : Value := .iface 48 (.pointer (some ⟨N, 0, none⟩))
set_option maxHeartbeats 1000000 in
theorem fault_any (c : Nat) (a : Int) (w : World) : Calls Tryz.prog 45 #[.int .i64 (c : Int), .int .i64 a] w fun e w' => e = .returned (fv w.heap.size) ∧ Flt w' w.heap.size c a ∧ Below w.heap.size w w' := by
  unfold fv
  go_enter Tryz.func45, Tryz.ntmps45
  go_wp2
  go_ret
  exact ⟨rfl, heap_alloc_new w _, belowA w _⟩
set_option maxHeartbeats 4000000 in
set_option maxRecDepth 100000 in
theorem indexf_any (a : Option Addr) (A : List Int) (ca : Nat) (w : World) (ha : RdI w a A) (hA : A.length ≤ 1000) :
    Calls Tryz.prog 48 #[.slice a A.length ca, .func (.func 49) #[] #[]] w fun e w' => ∃ i : Int, e = .returned (.int .i64 i) ∧ w' = w ∧ ((∃ j : Nat, i = j ∧ j < A.length ∧ 32 < A.getD j 0 ∧ ∀ k, k < j → A.getD k 0 ≤ 32) ∨ (i = -1 ∧ ∀ k, k < A.length → A.getD k 0 ≤ 32)) := by
  obtain ⟨L, hL⟩ : ∃ L, L = A.length := ⟨_, rfl⟩
  have HL := hid hL
  have RA := hid ha
  have HTD := hid toodeep_any
  rw [← hL] at hA ⊢
  clear ha hL
  go_enter Tryz.func48, Tryz.ntmps48
  go_wp2_with fail
  go_loopw [8] (fun i wr => ∃ k : Nat, k ≤ L ∧ i = .int .i64 k ∧ Hid (wr = w) ∧ Hid (∀ j, j < k → A.getD j 0 ≤ 32)) (fun i _ => L - (intOf i).toNat)
  case atStart => exact ⟨0, Nat.zero_le _, rfl, hid rfl, hid (fun j hj => by omega)⟩
  case round =>
    obtain ⟨k, hk, rfl, HW, HE⟩ := hrel
    obtain rfl := HW.out
    by_cases hlt : k < L
    · rcases RA.out with h0 | ⟨b1, o1, rfl, hb1, hc1⟩
      · have := HL.out; omega
      have p0 := hc1 k (by rw [← HL.out]; exact hlt)
      obtain ⟨x, hx⟩ : ∃ x, x = A.getD k 0 := ⟨_, rfl⟩
      rw [← hx] at p0
      have HX := hid hx
      clear hc1 hx
      have g1 : (k : Int) < (L : Int) := by omega
      have g2 : (0 : Int) ≤ (k : Int) := by omega
      by_cases hd : 32 < x
      · have HD := hid (show decide (32 < x) = true by simp; omega)
        go_wp2_with (go_at_call 49; refine (HTD.out _ _).mono ?_; rw [HD.out]; rintro e w1 ⟨rfl, hww⟩; have hw2 := hww.symm; clear hww; subst hw2)
        go_ret
        exact ⟨_, rfl, by first | rfl | trivial, .inl ⟨k, rfl, by first | exact hlt | (rw [← HL.out]; exact hlt), by rw [← HX.out]; exact hd, HE.out⟩⟩
      · have HD := hid (show decide (32 < x) = false by simp; omega)
        go_wp2_with (go_at_call 49; refine (HTD.out _ _).mono ?_; rw [HD.out]; rintro e w1 ⟨rfl, hww⟩; have hw2 := hww.symm; clear hww; subst hw2)
        refine ⟨⟨k + 1, by omega, by go_num, hid (by first | rfl | trivial), hid (fun j hj => ?_)⟩, by simp [intOf]; omega⟩
        by_cases e : j = k
        · rw [e, ← HX.out]; omega
        · exact HE.out j (by omega)
    · obtain rfl : k = L := by omega
      go_wp2_with fail
      go_ret
      exact ⟨_, rfl, by first | rfl | trivial, .inr ⟨rfl, fun j hj => HE.out j (by first | exact hj | (rw [HL.out]; exact hj))⟩⟩
theorem nat_of (i : Int) (h : 0 ≤ i) : ∃ n : Nat, i = n := ⟨i.toNat, by omega⟩
set_option maxHeartbeats 8000000 in
set_option maxRecDepth 100000 in
theorem checked_any (a : Option Addr) (T : List Pt) (cap : Nat) (w : World) (hT : PL w a T) (hG : GdT T) :
    Calls Tryz.prog 27 #[.agg #[.slice a T.length cap]] w fun e w' => Below w.heap.size w w' ∧
      ((∃ v, e = .returned (.tuple #[v, .nilIface]) ∧ OwnI w' w.heap.size v (nests T) ∧ Res T 0 0) ∨
       (∃ (N c i : Nat), e = .returned (.tuple #[.slice none 0 0, fv N]) ∧ Flt w' N c i ∧ w.heap.size ≤ N ∧ Res T c i ∧ c ≠ 0)) := by
  obtain ⟨L, hLe⟩ : ∃ L, L = T.length := ⟨_, rfl⟩
  have HT := hid hT
  have HL := hid hLe
  have HG := hid hG
  have HFA := hid fault_any
  have hLm := hG.1
  rw [← hLe] at hLm ⊢
  have HX0 := hid (Boxed.new w 26 (.slice a L cap))
  have HB0 := hid (belowA w (.cells #[.slice a L cap] 26))
  clear hT hLe hG
  by_cases h0 : L = 0
  · have e0 : ((L : Int) == 0) = true := by simp [h0]
    have HH := hid h0
    clear h0
    have HF := hid (HFA.out 130 0)
    go_enter Tryz.func27, Tryz.ntmps27
    go_wp2_with (go_at_call 45; refine (HF.out _).mono ?_; rintro e w1 ⟨rfl, f1, l1⟩; have F1 := hid f1; have L1 := hid l1; clear f1 l1)
    (try simp only [Exit.inBlock, Exit.then])
    exact bodyPost_ret (results_tmp2 rfl _ _ _) rfl ⟨HB0.out.trans (L1.out.mono HB0.out.size), .inr ⟨w.heap.size + 1, 130, 0, rfl, by have := F1.out; simpa using this, by omega, .inl ⟨by rw [← HL.out]; exact HH.out, rfl, rfl⟩, by decide⟩⟩
  · have e0 : ((L : Int) == 0) = false := by simp; omega
    by_cases h1 : 1000 < L
    · have e1 : decide ((1000 : Int) < (L : Int)) = true := by simp; omega
      have HF := hid (HFA.out 130 1000)
      go_enter Tryz.func27, Tryz.ntmps27
      go_wp2_with (go_at_call 45; refine (HF.out _).mono ?_; rintro e w1 ⟨rfl, f1, l1⟩; have F1 := hid f1; have L1 := hid l1; clear f1 l1)
      (try simp only [Exit.inBlock, Exit.then])
      exact bodyPost_ret (results_tmp2 rfl _ _ _) rfl ⟨HB0.out.trans (L1.out.mono HB0.out.size), .inr ⟨w.heap.size + 1, 130, 1000, rfl, by have := F1.out; simpa using this, by omega, .inr (.inl ⟨by rw [← HL.out]; exact h1, rfl, rfl⟩), by decide⟩⟩
    · have e1 : decide ((1000 : Int) < (L : Int)) = false := by simp; omega
      have HBA := barred_any a T cap (w.alloc (.cells #[.slice a L cap] 26)) (HT.out.low HB0.out) (by rw [← HL.out]; omega) (by rw [← HL.out]; omega) HG.out
      rw [← HL.out] at HBA
      have HB2 := hid HBA
      clear HBA
      go_enter Tryz.func27, Tryz.ntmps27
      go_upto_region 7 with (go_at_call 46; refine HB2.out.mono ?_; rintro e w1 ⟨i, rfl, hb, l1⟩; have HBR := hid hb; have L1 := hid l1; clear hb l1)
      have B1 := hid (HB0.out.trans (L1.out.mono HB0.out.size))
      have HW := hid (show 1 ≤ T.length ∧ T.length ≤ 1000 by rw [← HL.out]; omega)
      by_cases hi : 0 ≤ i
      · obtain ⟨n, rfl⟩ := nat_of i hi
        have HR := hid (show Res T 130 n by
          rcases HBR.out with ⟨j, e, hb⟩ | ⟨e, ho, hl⟩ | ⟨e, _⟩
          · have : n = j := by omega
            subst this
            exact .inr (.inr ⟨HW.out.1, HW.out.2, .inl ⟨hb, rfl⟩⟩)
          · exact .inr (.inr ⟨HW.out.1, HW.out.2, .inr (.inl ⟨ho, hl, rfl, by omega⟩)⟩)
          · omega)
        have HF := hid (HFA.out 130 n)
        have g2 : (0 : Int) ≤ (n : Int) := by omega
        go_wp2_with (go_at_call 45; refine (HF.out _).mono ?_; rintro e w2 ⟨rfl, f1, l2⟩; have F2 := hid f1; have L2 := hid l2; clear f1 l2)
        (try simp only [Exit.inBlock, Exit.then])
        exact bodyPost_ret (results_tmp2 rfl _ _ _) rfl ⟨B1.out.trans (L2.out.mono B1.out.size), .inr ⟨_, 130, n, rfl, F2.out, B1.out.size, HR.out, by decide⟩⟩
      · have hm1 : i = -1 := by
          rcases HBR.out with ⟨j, e, hb⟩ | ⟨e, ho, hl⟩ | ⟨e, _⟩ <;> omega
        subst hm1
        have HOL : Hid (Ok0 T ∧ ¬ Lst T) := by
          rcases HBR.out with ⟨j, e, hb⟩ | ⟨e, ho, hl⟩ | ⟨e, ho, hl⟩
          · omega
          · omega
          · exact hid ⟨ho, hl⟩
        have xt := (show Boxed w1 w.heap.size 26 (.slice a L cap) from (L1.out.block _ HX0.out.lt).trans HX0.out).cell
        have HNN := nestsof_any a T cap w1 (HT.out.low B1.out) HW.out.1 HW.out.2 HOL.out.1
        rw [← HL.out] at HNN
        have HN2 := hid HNN
        clear HNN hi
        go_upto_region 10 with (go_at_call 47; refine HN2.out.mono ?_; rintro e w2 ⟨v, rfl, o2, l2⟩; have L2 := hid l2; obtain ⟨va, vc, rfl⟩ := own_form o2; have O2 := hid o2; clear l2 o2)
        have HNL := hid (show (nests T).length = L by rw [nests_len, HL.out])
        have HIX := indexf_any va (nests T) vc w2 (own_rdI O2.out).2.1 (by rw [HNL.out]; omega)
        rw [HNL.out] at O2 HIX ⊢
        have HI2 := hid HIX
        have B2 := hid (B1.out.trans (L2.out.mono B1.out.size))
        clear HIX xt
        go_upto_region 11 with (go_at_call 48; refine HI2.out.mono ?_; rintro e w3 ⟨i, rfl, hww, hr⟩; have hw2 := hww.symm; clear hww; subst hw2; have HIR := hid hr; clear hr)
        by_cases hi : 0 ≤ i
        · obtain ⟨n, rfl⟩ := nat_of i hi
          have HR := hid (show Res T 122 n by
            rcases HIR.out with ⟨j, e, h1, h2, h3⟩ | ⟨e, _⟩
            · have : n = j := by omega
              subst this
              exact .inr (.inr ⟨HW.out.1, HW.out.2, .inr (.inr ⟨HOL.out.1, HOL.out.2, .inl ⟨⟨by rw [← HL.out]; exact h1, h2, h3⟩, rfl⟩⟩)⟩)
            · omega)
          have HF := hid (HFA.out 122 n)
          have g2 : (0 : Int) ≤ (n : Int) := by omega
          go_wp2_with (go_at_call 45; refine (HF.out _).mono ?_; rintro e w3 ⟨rfl, f1, l3⟩; have F3 := hid f1; have L3 := hid l3; clear f1 l3)
          (try simp only [Exit.inBlock, Exit.then])
          exact bodyPost_ret (results_tmp2 rfl _ _ _) rfl ⟨B2.out.trans (L3.out.mono B2.out.size), .inr ⟨_, 122, n, rfl, F3.out, B2.out.size, HR.out, by decide⟩⟩
        · have hm1 : i = -1 := by
            rcases HIR.out with ⟨j, e, _⟩ | ⟨e, _⟩ <;> omega
          subst hm1
          have HR := hid (show Res T 0 0 by
            rcases HIR.out with ⟨j, e, _⟩ | ⟨e, h3⟩
            · omega
            · exact .inr (.inr ⟨HW.out.1, HW.out.2, .inr (.inr ⟨HOL.out.1, HOL.out.2, .inr ⟨fun j hj => h3 j (by rw [HL.out]; exact hj), rfl, rfl⟩⟩)⟩))
          have O3 := hid (show OwnI w2 w.heap.size (.slice va L vc) (nests T) from own_mono O2.out B1.out.size)
          clear hi
          go_wp2_with fail
          (try simp only [Exit.inBlock, Exit.then])
          exact bodyPost_ret (results_tmp2 rfl _ _ _) rfl ⟨B2.out, .inl ⟨_, rfl, O3.out, HR.out⟩⟩
/-- An answer's error: none, or the fault that the tree asks for. -/
def ErrR (T : List Pt) (B : Nat) (W : World) (ev : Value) : Prop := (ev = .nilIface ∧ Res T 0 0) ∨ ∃ (N c i : Nat), ev = fv N ∧ Flt W N c i ∧ B ≤ N ∧ Res T c i ∧ c ≠ 0
theorem ErrR.low {T : List Pt} {B B' : Nat} {W W' : World} {ev : Value} (h : ErrR T B W ev) (hb : Below W.heap.size W W') (hB : B' ≤ B) : ErrR T B' W' ev := by
  rcases h with h | ⟨N, c, i, h1, h2, h3, h4, h5⟩
  · exact .inl h
  · exact .inr ⟨N, c, i, h1, h2.low hb, by omega, h4, h5⟩
theorem checked_x (a : Option Addr) (T : List Pt) (cap : Nat) (w : World) (hT : PL w a T) (hG : GdT T) :
    Calls Tryz.prog 27 #[.agg #[.slice a T.length cap]] w fun e w' => ∃ va vn vc ev, e = .returned (.tuple #[.slice va vn vc, ev]) ∧ Below w.heap.size w w' ∧ ErrR T w.heap.size w' ev ∧ (ev = .nilIface → OwnI w' w.heap.size (.slice va vn vc) (nests T)) := by
  refine (checked_any a T cap w hT hG).mono ?_
  rintro e w' ⟨hb, ⟨v, rfl, ho, hr⟩ | ⟨N, c, i, rfl, hf, hN, hr, hc⟩⟩
  · obtain ⟨va, vc, rfl⟩ := own_form ho
    exact ⟨va, _, vc, _, rfl, hb, .inl ⟨rfl, hr⟩, fun _ => ho⟩
  · exact ⟨none, 0, 0, _, rfl, hb, .inr ⟨N, c, i, rfl, hf, hN, hr, hc⟩, fun h => by cases h⟩
set_option maxHeartbeats 4000000 in
set_option maxRecDepth 100000 in
theorem valid_any (a : Option Addr) (T : List Pt) (cap : Nat) (w : World) (hT : PL w a T) (hG : GdT T) :
    Calls Tryz.prog 15 #[.agg #[.slice a T.length cap]] w fun e w' => ∃ ev, e = .returned ev ∧ Below w.heap.size w w' ∧ ErrR T w.heap.size w' ev := by
  have HB0 := hid (belowA w (.cells #[.slice a T.length cap] 26))
  have HC := hid (checked_x a T cap (w.alloc (.cells #[.slice a T.length cap] 26)) (hT.low HB0.out) hG)
  generalize T.length = L at *
  clear hT
  go_enter Tryz.func15, Tryz.ntmps15
  go_wp2_with (go_at_call 27; refine HC.out.mono ?_; rintro e w1 ⟨va, vn, vc, ev, rfl, l1, hr, _⟩; have L1 := hid l1; have HR := hid hr; clear l1 hr)
  go_ret
  exact ⟨_, rfl, HB0.out.trans (L1.out.mono HB0.out.size), HR.out.low (Below.refl _ _) HB0.out.size⟩
end Go.Proofs.YtiddnjjaidiohaaGreatDoor.L
namespace Go.Proofs.YtiddnjjaidiohaaGreatDoor.L
open Go.RowKit
set_option linter.unusedVariables false
/-- An answer: no error, or the fault with this code and this place. -/
def AnsR (o : Option (Nat × Int)) (B : Nat) (W : World) (ev : Value) : Prop := (o = none ∧ ev = .nilIface) ∨ ∃ N c a, o = some (c, a) ∧ ev = fv N ∧ Flt W N c a ∧ B ≤ N
theorem AnsR.low {o : Option (Nat × Int)} {B B' : Nat} {W W' : World} {ev : Value} (h : AnsR o B W ev) (hb : Below W.heap.size W W') (hB : B' ≤ B) : AnsR o B' W' ev := by
  rcases h with h | ⟨N, c, a, h1, h2, h3, h4⟩
  · exact Or.inl h
  · exact Or.inr ⟨N, c, a, h1, h2, h3.low hb, Nat.le_trans hB h4⟩
theorem sfault_any (c : Nat) (a : Int) (w : World) : Calls Tryz.prog 38 #[.int .i64 (c : Int), .int .i64 a] w fun e w' => e = .returned (fv w.heap.size) ∧ Flt w' w.heap.size c a ∧ Below w.heap.size w w' := by
  have HB := hid (belowA w (.cells #[.int .i64 (c : Int), .int .i64 a, .string ⟨#[]⟩, .nilIface] 52))
  have HX := hid (heap_alloc_new w (.cells #[.int .i64 (c : Int), .int .i64 a, .string ⟨#[]⟩, .nilIface] 52))
  go_enter Tryz.func38, Tryz.ntmps38
  go_wp2_with fail
  go_ret
  exact ⟨rfl, HX.out, HB.out⟩
/-- Not both kids move. -/
def stO (si : Nat → Int) (ks : List Int) (t : Int) : Option (Nat × Int) := if ks.all (fun x => movB (si x.toNat)) then some (144, t) else none
set_option maxHeartbeats 8000000 in
set_option maxRecDepth 100000 in
theorem still_any (a : Option Addr) (T : List Pt) (pc gt n : Nat) (so si : Nat → Int) (t : Nat) (w : World) (hT : PL w a T) (hy : TyR w gt n so si) (ht : t < T.length) (hin : ∀ x, x ∈ (pt T t).kids → 0 ≤ x ∧ x < n) (hl : (pt T t).kids.length ≤ 1000) (hL : T.length ≤ 1000) (hn : n ≤ 1000) :
    Calls Tryz.prog 93 #[.agg #[.slice a T.length pc, .slice (some ⟨gt, 0, none⟩) n n], .int .i64 (t : Int)] w fun e w' => ∃ ev, e = .returned ev ∧ AnsR (stO si (pt T t).kids t) w.heap.size w' ev ∧ Below w.heap.size w w' := by
  obtain ⟨L, hLe⟩ : ∃ L, L = T.length := ⟨_, rfl⟩
  obtain ⟨ks, hks⟩ : ∃ ks, ks = (pt T t).kids := ⟨_, rfl⟩
  obtain ⟨m, hm⟩ : ∃ m, m = ks.length := ⟨_, rfl⟩
  have HT := hid hT
  have HY := hid hy
  rw [← hks] at hin hl ⊢
  have HIN := hid hin
  have HM := hid hm
  have HL := hid hLe
  have HKS := hid hks
  have HTL := hid ht
  have HMV := hid moves_any
  have HFA := hid (fun W => sfault_any 144 (t : Int) W)
  rw [← hm] at hl
  rw [← hLe] at hL ht ⊢
  have HB := hid (belowA w (.cells #[.slice a L pc, .slice (some ⟨gt, 0, none⟩) n n] 87))
  have HX := hid (heap_alloc_new w (.cells #[.slice a L pc, .slice (some ⟨gt, 0, none⟩) n n] 87))
  clear hT hy hin hm hLe hks
  go_enter Tryz.func93, Tryz.ntmps93
  go_upto_region 1 with (fail)
  have HYX := hid (HY.out.low HB.out)
  have HTX := hid (HT.out.low HB.out)
  generalize w.alloc (.cells #[.slice a L pc, .slice (some ⟨gt, 0, none⟩) n n] 87) = X at *
  have ⟨x0, x1⟩ := cellsW HX.out
  rcases HTX.out with h0 | ⟨b2, o2, rfl, hb2, hc2⟩
  · have := HTL.out; omega
  obtain ⟨ka, kc, _, _, _, q3, rk⟩ := hc2 t HTL.out
  rw [← HKS.out, ← HM.out] at q3
  rw [← HKS.out] at rk
  have RK := hid rk
  have g5 : (t : Int) < (L : Int) := by omega
  have g6 : (0 : Int) ≤ (t : Int) := by omega
  have ht4 : ((t : Int) * 4).toNat = t * 4 := by omega
  clear hc2 rk
  go_wp2_with fail
  clear q3
  go_loopw [14] (fun i wr => ∃ (k : Nat), k ≤ m ∧ i = .int .i64 (k : Int) ∧ wr = X ∧ Hid (∀ j, j < k → movB (si (ks.getD j 0).toNat) = true)) (fun i _ => m - (intOf i).toNat)
  case atStart => exact ⟨0, Nat.zero_le _, rfl, rfl, hid (fun j hj => absurd hj (Nat.not_lt_zero j))⟩
  case round =>
    obtain ⟨k, hk, rfl, rfl, HJ⟩ := hrel
    by_cases hlt : k < m
    · rcases RK.out with h0 | ⟨b1, o1, rfl, hb1, hc1⟩
      · have := HM.out; omega
      have hkn : k < ks.length := by rw [← HM.out]; exact hlt
      have p0 := hc1 k hkn
      have hmem : ks.getD k 0 ∈ ks := by rw [List.getD_eq_getElem?_getD, List.getElem?_eq_getElem hkn]; exact List.getElem_mem hkn
      have hx := HIN.out _ hmem
      obtain ⟨x, hxe⟩ : ∃ x : Nat, ks.getD k 0 = x := ⟨(ks.getD k 0).toNat, by omega⟩
      have HXE := hid hxe
      have HME := hid hmem
      rw [hxe] at p0 hx
      have y1 := (HYX.out.2 x (by omega)).2
      have g1 : (k : Int) < (m : Int) := by omega
      have g2 : (0 : Int) ≤ (k : Int) := by omega
      have g3 : (x : Int) < (n : Int) := by omega
      have g4 : (0 : Int) ≤ (x : Int) := by omega
      obtain ⟨s, hs⟩ : ∃ s, s = si x := ⟨_, rfl⟩
      rw [← hs] at y1
      have HSE := hid hs
      have HK1 := hid (show k + 1 ≤ m by omega)
      clear hc1 hmem hx hxe hkn hs hb1
      cases hmv : movB s
      · have HMVE := hid hmv
        have HRES := hid (show stO si ks t = none by
          unfold stO
          rw [if_neg]
          intro hall
          have := List.all_eq_true.1 hall _ HME.out
          rw [HXE.out, Int.toNat_natCast, ← HSE.out, hmv] at this
          cases this)
        clear hmv
        go_wp2_with (go_at_call 96; refine (HMV.out _ _).mono ?_; rw [HMVE.out]; rintro e w1 ⟨rfl, hww⟩; have hw2 := hww.symm; clear hww; subst hw2)
        go_ret
        exact ⟨.nilIface, rfl, Or.inl ⟨HRES.out, rfl⟩, HB.out⟩
      · have HMVE := hid hmv
        clear hmv
        go_wp2_with (go_at_call 96; refine (HMV.out _ _).mono ?_; rw [HMVE.out]; rintro e w1 ⟨rfl, hww⟩; have hw2 := hww.symm; clear hww; subst hw2)
        refine ⟨⟨k + 1, HK1.out, by go_num, trivial, hid (fun j hj => ?_)⟩, ?_⟩
        · by_cases e : j = k
          · rw [e, HXE.out, Int.toNat_natCast, ← HSE.out]
            exact HMVE.out
          · exact HJ.out j (by omega)
        · have h3 := HK1.out
          simp [intOf]
          omega
    · obtain rfl : k = m := by omega
      have HRES := hid (show stO si ks t = some (144, (t : Int)) by
        unfold stO
        rw [if_pos]
        refine List.all_eq_true.2 (fun x hx => ?_)
        obtain ⟨j, hj, e⟩ := List.getElem_of_mem hx
        have := HJ.out j (by rw [HM.out]; exact hj)
        rw [List.getD_eq_getElem?_getD, List.getElem?_eq_getElem hj] at this
        simp only [Option.getD_some, e] at this
        exact this)
      go_wp2_with (go_at_call 38; refine (HFA.out _).mono ?_; rintro e w1 ⟨rfl, hf, l1⟩; have HF := hid hf; have L1 := hid l1; clear hf l1)
      go_ret
      exact ⟨_, rfl, Or.inr ⟨_, 144, (t : Int), HRES.out, rfl, HF.out, HB.out.size⟩, bchS HB.out L1.out⟩
end Go.Proofs.YtiddnjjaidiohaaGreatDoor.L
namespace Go.Proofs.YtiddnjjaidiohaaGreatDoor.L
open Go.RowKit
set_option linter.unusedVariables false
/-- int reads labels and texts alone. -/
def rdO (k : Int) (t : Int) : Option (Nat × Int) := if k = 14 ∨ k = 11 then none else some (148, t)
set_option maxHeartbeats 8000000 in
set_option maxRecDepth 100000 in
theorem readable_any (a : Option Addr) (T : List Pt) (pc : Nat) (tv : Value) (t : Nat) (w : World) (hT : PL w a T) (ht : t < T.length) (hL : T.length ≤ 1000) :
    Calls Tryz.prog 81 #[.agg #[.slice a T.length pc, tv], .int .i64 (t : Int)] w fun e w' => ∃ ev, e = .returned ev ∧ AnsR (rdO (pt T t).kind t) w.heap.size w' ev ∧ Below w.heap.size w w' := by
  obtain ⟨L, hLe⟩ : ∃ L, L = T.length := ⟨_, rfl⟩
  have HT := hid hT
  have HL := hid hLe
  have HTL := hid ht
  have HFA := hid (fun W => sfault_any 148 (t : Int) W)
  rw [← hLe] at hL ht ⊢
  have HB := hid (belowA w (.cells #[.slice a L pc, tv] 87))
  have HX := hid (heap_alloc_new w (.cells #[.slice a L pc, tv] 87))
  clear hT hLe
  go_enter Tryz.func81, Tryz.ntmps81
  go_upto_region 1 with (fail)
  have HTX := hid (HT.out.low HB.out)
  generalize w.alloc (.cells #[.slice a L pc, tv] 87) = X at *
  have ⟨x0, x1⟩ := cellsW HX.out
  rcases HTX.out with h0 | ⟨b2, o2, rfl, hb2, hc2⟩
  · have := HTL.out; omega
  obtain ⟨ka, kc, q0, _⟩ := hc2 t HTL.out
  obtain ⟨kd, hkd⟩ : ∃ kd, kd = (pt T t).kind := ⟨_, rfl⟩
  rw [← hkd] at q0
  have HKD := hid hkd
  have g5 : (t : Int) < (L : Int) := by omega
  have g6 : (0 : Int) ≤ (t : Int) := by omega
  have ht4 : ((t : Int) * 4).toNat = t * 4 := by omega
  clear hc2 hkd
  by_cases h14 : kd = 14
  · have HRES := hid (show rdO (pt T t).kind t = none by unfold rdO; rw [← HKD.out, h14]; rfl)
    have e14 : (kd != 14) = false := by simp [h14]
    clear h14
    go_wp2_with fail
    go_ret
    exact ⟨.nilIface, rfl, Or.inl ⟨HRES.out, rfl⟩, HB.out⟩
  · by_cases h11 : kd = 11
    · have HRES := hid (show rdO (pt T t).kind t = none by unfold rdO; rw [← HKD.out, h11]; rfl)
      have e14 : (kd != 14) = true := by simp [h14]
      have e11 : (kd != 11) = false := by simp [h11]
      clear h14 h11
      go_wp2_with fail
      go_ret
      exact ⟨.nilIface, rfl, Or.inl ⟨HRES.out, rfl⟩, HB.out⟩
    · have HRES := hid (show rdO (pt T t).kind t = some (148, (t : Int)) by unfold rdO; rw [← HKD.out, if_neg (by rintro (h | h); exact h14 h; exact h11 h)])
      have e14 : (kd != 14) = true := by simp [h14]
      have e11 : (kd != 11) = true := by simp [h11]
      clear h14 h11
      go_wp2_with (go_at_call 38; refine (HFA.out _).mono ?_; rintro e w1 ⟨rfl, hf, l1⟩; have HF := hid hf; have L1 := hid l1; clear hf l1)
      go_ret
      exact ⟨_, rfl, Or.inr ⟨_, 148, (t : Int), HRES.out, rfl, HF.out, HB.out.size⟩, bchS HB.out L1.out⟩
/-- The kids of a set are of one sort: the first of another sort than the first's. -/
def alO (so : Nat → Int) (s0 : Int) : List Int → Option (Nat × Int)
  | [] => none
  | x :: r => if so x.toNat = s0 then alO so s0 r else some (146, x)
set_option maxHeartbeats 8000000 in
set_option maxRecDepth 100000 in
theorem alike_any (pv : Value) (gt n : Nat) (so si : Nat → Int) (ka : Option Addr) (ks : List Int) (kc : Nat) (w : World) (hy : TyR w gt n so si) (hk : RdI w ka ks) (hin : ∀ x, x ∈ ks → 0 ≤ x ∧ x < n) (hl : ks.length ≤ 1000) (hn : n ≤ 1000) (hp : ∃ a b c, pv = .slice a b c) :
    Calls Tryz.prog 80 #[.agg #[pv, .slice (some ⟨gt, 0, none⟩) n n], .slice ka ks.length kc] w fun e w' => ∃ ev, e = .returned ev ∧ AnsR (alO so (so (ks.getD 0 0).toNat) ks) w.heap.size w' ev ∧ Below w.heap.size w w' := by
  obtain ⟨pa, pn, pc, rfl⟩ := hp
  obtain ⟨m, hm⟩ : ∃ m, m = ks.length := ⟨_, rfl⟩
  obtain ⟨s0, hs0⟩ : ∃ s0, s0 = so (ks.getD 0 0).toNat := ⟨_, rfl⟩
  have HY := hid hy
  have HK := hid hk
  have HIN := hid hin
  have HM := hid hm
  have HS0 := hid hs0
  rw [← hm] at hl ⊢
  rw [← hs0]
  have HB := hid (belowA w (.cells #[.slice pa pn pc, .slice (some ⟨gt, 0, none⟩) n n] 87))
  have HX := hid (heap_alloc_new w (.cells #[.slice pa pn pc, .slice (some ⟨gt, 0, none⟩) n n] 87))
  have HFA := hid (fun a W => sfault_any 146 a W)
  clear hy hk hin hm hs0
  go_enter Tryz.func80, Tryz.ntmps80
  go_upto_region 1 with (fail)
  have HYX := hid (HY.out.low HB.out)
  have HKX := hid (HK.out.low HB.out (Nat.le_refl _))
  generalize w.alloc (.cells #[.slice pa pn pc, .slice (some ⟨gt, 0, none⟩) n n] 87) = X at *
  go_wp2_with fail
  go_loopw [9] (fun i wr => ∃ (k : Nat), k ≤ m ∧ i = .int .i64 (k : Int) ∧ Hid (Below X.heap.size X wr) ∧ Hid (alO so s0 (ks.drop k) = alO so s0 ks)) (fun i _ => m - (intOf i).toNat)
  case atStart => exact ⟨0, Nat.zero_le _, rfl, hid (Below.refl _ _), hid rfl⟩
  case round =>
    obtain ⟨k, hk, rfl, HBX, HJ⟩ := hrel
    by_cases hlt : k < m
    · rcases HKX.out.low HBX.out (Nat.le_refl _) with h0 | ⟨b1, o1, e0, hb1, hc1⟩
      · have := HM.out; omega
      subst e0
      have hkn : k < ks.length := by rw [← HM.out]; exact hlt
      have p0 := hc1 k hkn
      have p1 := hc1 0 (by omega)
      have hmem : ks.getD k 0 ∈ ks := by rw [List.getD_eq_getElem?_getD, List.getElem?_eq_getElem hkn]; exact List.getElem_mem hkn
      have hmem0 : ks.getD 0 0 ∈ ks := by rw [List.getD_eq_getElem?_getD, List.getElem?_eq_getElem (by omega)]; exact List.getElem_mem _
      have hx := HIN.out _ hmem
      have hz := HIN.out _ hmem0
      obtain ⟨x, hxe⟩ : ∃ x : Nat, ks.getD k 0 = x := ⟨(ks.getD k 0).toNat, by omega⟩
      obtain ⟨z, hze⟩ : ∃ z : Nat, ks.getD 0 0 = z := ⟨(ks.getD 0 0).toNat, by omega⟩
      have HD := hid (show ks.drop k = (x : Int) :: ks.drop (k + 1) by
        rw [List.drop_eq_getElem_cons hkn]
        have hz2 := hxe
        rw [List.getD_eq_getElem?_getD, List.getElem?_eq_getElem hkn] at hz2
        rw [← hz2]
        rfl)
      rw [hxe] at p0 hx
      rw [hze, Nat.add_zero] at p1
      rw [hze] at hz
      have HYR := HYX.out.low HBX.out
      have y1 := (HYR.2 x (by omega)).1
      have y2 := (HYR.2 z (by omega)).1
      have hsz : so z = s0 := by rw [HS0.out, hze, Int.toNat_natCast]
      rw [hsz] at y2
      have ⟨x0, x1⟩ := cellsW ((HBX.out.block _ (lt_blk HX.out)).trans HX.out)
      have g1 : (k : Int) < (m : Int) := by omega
      have g1' : (0 : Int) < (m : Int) := by omega
      have g2 : (0 : Int) ≤ (k : Int) := by omega
      have g3 : (x : Int) < (n : Int) := by omega
      have g4 : (0 : Int) ≤ (x : Int) := by omega
      have g5 : (z : Int) < (n : Int) := by omega
      have g6 : (0 : Int) ≤ (z : Int) := by omega
      have hx2 : ((x : Int) * 2).toNat = x * 2 := by omega
      have hz2 : ((z : Int) * 2).toNat = z * 2 := by omega
      obtain ⟨s, hs⟩ : ∃ s, s = so x := ⟨_, rfl⟩
      rw [← hs] at y1
      have HJS := hid (show alO so s0 (ks.drop k) = if s = s0 then alO so s0 (ks.drop (k + 1)) else some (146, (x : Int)) by rw [HD.out, alO, Int.toNat_natCast, hs])
      have HK1 := hid (show k + 1 ≤ m by omega)
      clear hc1 hmem hmem0 hx hz hxe hze hkn hs hsz HYR hb1
      go_upto_region 4 with (fail)
      by_cases hse : s = s0
      · rw [if_pos hse] at HJS
        subst hse
        go_quiet (fail)
        go_wp2_with fail
        refine ⟨⟨k + 1, HK1.out, by go_num, hid (below_drewN HBX.out _), hid (by rw [← HJ.out, HJS.out])⟩, ?_⟩
        have h3 := HK1.out
        simp [intOf]
        omega
      · rw [if_neg hse] at HJS
        have hse' : (s != s0) = true := by simp [hse]
        clear hse
        go_quiet (fail)
        go_wp2_with (go_at_call 38; refine (HFA.out _ _).mono ?_; rintro e w1 ⟨rfl, hf, l1⟩; have HF := hid hf; have L1 := hid l1; clear hf l1)
        go_ret
        have hb9 : Below w.heap.size w _ := bchS HB.out (below_drewN HBX.out nq)
        exact ⟨_, rfl, Or.inr ⟨_, 146, (x : Int), by rw [← HJ.out, HJS.out], rfl, HF.out, hb9.size⟩, bchS hb9 L1.out⟩
    · obtain rfl : k = m := by omega
      have HRES := hid (show alO so s0 ks = none by rw [← HJ.out, HM.out, List.drop_length]; rfl)
      go_wp2_with fail
      go_ret
      exact ⟨.nilIface, rfl, Or.inl ⟨HRES.out, rfl⟩, bchS HB.out HBX.out⟩
end Go.Proofs.YtiddnjjaidiohaaGreatDoor.L
