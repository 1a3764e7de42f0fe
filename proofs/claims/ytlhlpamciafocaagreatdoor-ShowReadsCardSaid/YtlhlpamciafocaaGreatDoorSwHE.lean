import Derived.Test.YtlhlpamciafocaaGreatDoorMgBA
namespace Go.Proofs.YtlhlpamciafocaaGreatDoor.L.Sw
open Go.RowKit Go.Shelf
set_option linter.unusedVariables false
/-- A fault lies in a block: its code and its place, no name, no cause. -/
def Flt (W : World) (N c : Nat) (a : Int) : Prop := W.heap[N]? = some (.cells #[.int .i64 (c : Int), .int .i64 a, .string ⟨#[]⟩, .nilIface] 67 (0, 0))
theorem Flt.low {W W' : World} {N c : Nat} {a : Int} (h : Flt W N c a) (hb : Below W.heap.size W W') : Flt W' N c a := (hb.block N (lt_blk h)).trans h
set_option maxHeartbeats 1000000 in
theorem fault_any (c : Nat) (a : Int) (w : World) : Calls Tryz.prog 21 #[.int .i64 (c : Int), .int .i64 a] w fun e w' => e = .returned (fv w.heap.size) ∧ Flt w' w.heap.size c a ∧ Below w.heap.size w w' := by
  unfold fv
  go_enter Tryz.func21, Tryz.ntmps21
  go_wp2
  go_ret
  exact ⟨rfl, heap_alloc_new w _, belowA w _⟩
set_option maxHeartbeats 4000000 in
set_option maxRecDepth 100000 in
theorem indexf_any (a : Option Addr) (A : List Int) (ca : Nat) (w : World) (ha : RdI w a A) (hA : A.length ≤ 1000) :
    Calls Tryz.prog 28 #[.slice a A.length ca, .func (.func 29) #[] #[]] w fun e w' => ∃ i : Int, e = .returned (.int .i64 i) ∧ w' = w ∧ ((∃ j : Nat, i = j ∧ j < A.length ∧ 32 < A.getD j 0 ∧ ∀ k, k < j → A.getD k 0 ≤ 32) ∨ (i = -1 ∧ ∀ k, k < A.length → A.getD k 0 ≤ 32)) := by
  obtain ⟨L, hL⟩ : ∃ L, L = A.length := ⟨_, rfl⟩
  have HL := hid hL
  have RA := hid ha
  have HTD := hid toodeep_any
  rw [← hL] at hA ⊢
  clear ha hL
  go_enter Tryz.func28, Tryz.ntmps28
  go_wp2_with fail
  go_loopw [8] (fun i wr => ∃ k : Nat, k ≤ L ∧ i = .int .i64 k ∧ Hid (wr = w) ∧ Hid (∀ j, j < k → A.getD j 0 ≤ 32)) (fun i _ => L - (intOf i).toNat)
  case atStart => exact ⟨0, Nat.zero_le _, rfl, hid rfl, hid (fun j hj => by omega)⟩
  case round =>
    obtain ⟨k, hk, rfl, HW, HE⟩ := hrel
    obtain rfl := HW.out
    by_cases hlt : k < L
    · rcases RA.out with h0 | ⟨b1, o1, rfl, hb1, hc1⟩
      · have := HL.out; omega
      have p0 := hc1 k (by rw [← HL.out]; exact hlt)
      obtain ⟨x, hx⟩ : ∃ x, x = A.getD k 0 := ⟨_, rfl⟩
      rw [← hx] at p0
      have HX := hid hx
      clear hc1 hx
      have g1 : (k : Int) < (L : Int) := by omega
      have g2 : (0 : Int) ≤ (k : Int) := by omega
      by_cases hd : 32 < x
      · have HD := hid (show decide (32 < x) = true by simp; omega)
        go_wp2_with (go_at_call 29; refine (HTD.out _ _).mono ?_; rw [HD.out]; rintro e w1 ⟨rfl, hww⟩; have hw2 := hww.symm; clear hww; subst hw2)
        go_ret
        exact ⟨_, rfl, by first | rfl | trivial, .inl ⟨k, rfl, by first | exact hlt | (rw [← HL.out]; exact hlt), by rw [← HX.out]; exact hd, HE.out⟩⟩
      · have HD := hid (show decide (32 < x) = false by simp; omega)
        go_wp2_with (go_at_call 29; refine (HTD.out _ _).mono ?_; rw [HD.out]; rintro e w1 ⟨rfl, hww⟩; have hw2 := hww.symm; clear hww; subst hw2)
        refine ⟨⟨k + 1, by omega, by go_num, hid (by first | rfl | trivial), hid (fun j hj => ?_)⟩, by simp [intOf]; omega⟩
        by_cases e : j = k
        · rw [e, ← HX.out]; omega
        · exact HE.out j (by omega)
    · obtain rfl : k = L := by omega
      go_wp2_with fail
      go_ret
      exact ⟨_, rfl, by first | rfl | trivial, .inr ⟨rfl, fun j hj => HE.out j (by first | exact hj | (rw [HL.out]; exact hj))⟩⟩
set_option maxHeartbeats 4000000 in
set_option maxRecDepth 100000 in
theorem max_any (a : Option Addr) (A : List Int) (ca : Nat) (w : World) (ha : RdI w a A) (hA : A.length ≤ 1000) (h1 : 1 ≤ A.length) :
    Calls Tryz.prog 25 #[.slice a A.length ca] w fun e w' => ∃ v : Int, e = .returned (.int .i64 v) ∧ w' = w ∧ (∀ k, k < A.length → A.getD k 0 ≤ v) ∧ ∃ j, j < A.length ∧ A.getD j 0 = v := by
  obtain ⟨L, hL⟩ : ∃ L, L = A.length := ⟨_, rfl⟩
  have HL := hid hL
  rw [← hL] at hA h1 ⊢
  rcases ha with h0 | ⟨b1, o1, rfl, hb1, hc1⟩
  · omega
  have HC := hid hc1
  have p0 := hc1 0 (by omega)
  rw [Nat.add_zero] at p0
  obtain ⟨x0, hx0⟩ : ∃ x, x = A.getD 0 0 := ⟨_, rfl⟩
  rw [← hx0] at p0
  have HX0 := hid hx0
  have d1 : decide ((L : Int) < 1) = false := by simp; omega
  have g0 : (0 : Int) < (L : Int) := by omega
  clear hL hc1 hx0
  go_enter Tryz.func25, Tryz.ntmps25
  go_wp2_with fail
  go_loopw [3, 4] (fun v i wr => ∃ (k : Nat) (mx : Int), 1 ≤ k ∧ k ≤ L ∧ i = .int .i64 k ∧ v = .int .i64 mx ∧ Hid (wr = w) ∧ Hid (∀ j, j < k → A.getD j 0 ≤ mx) ∧ Hid (∃ j, j < L ∧ A.getD j 0 = mx)) (fun _ i _ => L - (intOf i).toNat)
  case atStart => exact ⟨1, x0, Nat.le_refl _, h1, rfl, rfl, hid rfl, hid (fun j hj => by rw [HX0.out, show j = 0 by omega]; exact Int.le_refl _), hid ⟨0, by omega, HX0.out.symm⟩⟩
  case round =>
    clear p0
    obtain ⟨k, mx, hk1, hk, rfl, rfl, HW, HE, HM⟩ := hrel
    obtain rfl := HW.out
    by_cases hlt : k < L
    · have p0 := HC.out k (by rw [← HL.out]; exact hlt)
      obtain ⟨x, hx⟩ : ∃ x, x = A.getD k 0 := ⟨_, rfl⟩
      rw [← hx] at p0
      have HX := hid hx
      clear hx
      have g1 : (k : Int) < (L : Int) := by omega
      have g2 : (0 : Int) ≤ (k : Int) := by omega
      go_wp2_with fail
      refine ⟨⟨k + 1, if mx < x then x else mx, by omega, by omega, by go_num, (by first | rfl | (rw [show max mx x = (if mx < x then x else mx) from by split <;> omega])), hid (by first | rfl | trivial), hid (fun j hj => ?_), hid ?_⟩, by simp [intOf]; omega⟩
      · by_cases e : j = k
        · rw [e, ← HX.out]
          split <;> omega
        · have := HE.out j (by omega)
          split <;> omega
      · by_cases hc : mx < x
        · rw [if_pos hc]
          exact ⟨k, hlt, HX.out.symm⟩
        · rw [if_neg hc]
          exact HM.out
    · obtain rfl : k = L := by omega
      go_wp2_with fail
      go_ret
      exact ⟨_, rfl, by first | rfl | trivial, fun j hj => HE.out j (by first | exact hj | (rw [HL.out]; exact hj)), HM.out⟩
theorem nat_of (i : Int) (h : 0 ≤ i) : ∃ n : Nat, i = n := ⟨i.toNat, by omega⟩
set_option maxHeartbeats 8000000 in
set_option maxRecDepth 100000 in
theorem checked_any (a : Option Addr) (T : List Pt) (cap : Nat) (w : World) (hT : PL w a T) (hG : GdT T) :
    Calls Tryz.prog 18 #[.agg #[.slice a T.length cap]] w fun e w' => Below w.heap.size w w' ∧
      ((∃ v, e = .returned (.tuple #[v, .nilIface]) ∧ OwnI w' w.heap.size v (nests T) ∧ Res T 0 0) ∨
       (∃ (N c i : Nat), e = .returned (.tuple #[.slice none 0 0, fv N]) ∧ Flt w' N c i ∧ w.heap.size ≤ N ∧ Res T c i ∧ c ≠ 0)) := by
  obtain ⟨L, hLe⟩ : ∃ L, L = T.length := ⟨_, rfl⟩
  have HT := hid hT
  have HL := hid hLe
  have HG := hid hG
  have HFA := hid fault_any
  have hLm := hG.1
  rw [← hLe] at hLm ⊢
  have HX0 := hid (Boxed.new w 24 (.slice a L cap))
  have HB0 := hid (belowA w (.cells #[.slice a L cap] 24))
  clear hT hLe hG
  by_cases h0 : L = 0
  · have e0 : ((L : Int) == 0) = true := by simp [h0]
    have HH := hid h0
    clear h0
    have HF := hid (HFA.out 130 0)
    go_enter Tryz.func18, Tryz.ntmps18
    go_wp2_with (go_at_call 21; refine (HF.out _).mono ?_; rintro e w1 ⟨rfl, f1, l1⟩; have F1 := hid f1; have L1 := hid l1; clear f1 l1)
    (try simp only [Exit.inBlock, Exit.then])
    exact bodyPost_ret (results_tmp2 rfl _ _ _) rfl ⟨HB0.out.trans (L1.out.mono HB0.out.size), .inr ⟨w.heap.size + 1, 130, 0, rfl, by have := F1.out; simpa using this, by omega, .inl ⟨by rw [← HL.out]; exact HH.out, rfl, rfl⟩, by decide⟩⟩
  · have e0 : ((L : Int) == 0) = false := by simp; omega
    by_cases h1 : 1000 < L
    · have e1 : decide ((1000 : Int) < (L : Int)) = true := by simp; omega
      have HF := hid (HFA.out 130 1000)
      go_enter Tryz.func18, Tryz.ntmps18
      go_wp2_with (go_at_call 21; refine (HF.out _).mono ?_; rintro e w1 ⟨rfl, f1, l1⟩; have F1 := hid f1; have L1 := hid l1; clear f1 l1)
      (try simp only [Exit.inBlock, Exit.then])
      exact bodyPost_ret (results_tmp2 rfl _ _ _) rfl ⟨HB0.out.trans (L1.out.mono HB0.out.size), .inr ⟨w.heap.size + 1, 130, 1000, rfl, by have := F1.out; simpa using this, by omega, .inr (.inl ⟨by rw [← HL.out]; exact h1, rfl, rfl⟩), by decide⟩⟩
    · have e1 : decide ((1000 : Int) < (L : Int)) = false := by simp; omega
      have HBA := barred_any a T cap (w.alloc (.cells #[.slice a L cap] 24)) (HT.out.low HB0.out) (by rw [← HL.out]; omega) (by rw [← HL.out]; omega) HG.out
      rw [← HL.out] at HBA
      have HB2 := hid HBA
      clear HBA
      go_enter Tryz.func18, Tryz.ntmps18
      go_upto_region 7 with (go_at_call 26; refine HB2.out.mono ?_; rintro e w1 ⟨i, rfl, hb, l1⟩; have HBR := hid hb; have L1 := hid l1; clear hb l1)
      have B1 := hid (HB0.out.trans (L1.out.mono HB0.out.size))
      have HW := hid (show 1 ≤ T.length ∧ T.length ≤ 1000 by rw [← HL.out]; omega)
      by_cases hi : 0 ≤ i
      · obtain ⟨n, rfl⟩ := nat_of i hi
        have HR := hid (show Res T 130 n by
          rcases HBR.out with ⟨j, e, hb⟩ | ⟨e, ho, hl⟩ | ⟨e, _⟩
          · have : n = j := by omega
            subst this
            exact .inr (.inr ⟨HW.out.1, HW.out.2, .inl ⟨hb, rfl⟩⟩)
          · exact .inr (.inr ⟨HW.out.1, HW.out.2, .inr (.inl ⟨ho, hl, rfl, by omega⟩)⟩)
          · omega)
        have HF := hid (HFA.out 130 n)
        have g2 : (0 : Int) ≤ (n : Int) := by omega
        go_wp2_with (go_at_call 21; refine (HF.out _).mono ?_; rintro e w2 ⟨rfl, f1, l2⟩; have F2 := hid f1; have L2 := hid l2; clear f1 l2)
        (try simp only [Exit.inBlock, Exit.then])
        exact bodyPost_ret (results_tmp2 rfl _ _ _) rfl ⟨B1.out.trans (L2.out.mono B1.out.size), .inr ⟨_, 130, n, rfl, F2.out, B1.out.size, HR.out, by decide⟩⟩
      · have hm1 : i = -1 := by
          rcases HBR.out with ⟨j, e, hb⟩ | ⟨e, ho, hl⟩ | ⟨e, _⟩ <;> omega
        subst hm1
        have HOL : Hid (Ok0 T ∧ ¬ Lst T) := by
          rcases HBR.out with ⟨j, e, hb⟩ | ⟨e, ho, hl⟩ | ⟨e, ho, hl⟩
          · omega
          · omega
          · exact hid ⟨ho, hl⟩
        have xt := (show Boxed w1 w.heap.size 24 (.slice a L cap) from (L1.out.block _ HX0.out.lt).trans HX0.out).cell
        have HNN := nestsof_any a T cap w1 (HT.out.low B1.out) HW.out.1 HW.out.2 HOL.out.1
        rw [← HL.out] at HNN
        have HN2 := hid HNN
        clear HNN hi
        go_upto_region 10 with (go_at_call 27; refine HN2.out.mono ?_; rintro e w2 ⟨v, rfl, o2, l2⟩; have L2 := hid l2; obtain ⟨va, vc, rfl⟩ := own_form o2; have O2 := hid o2; clear l2 o2)
        have HNL := hid (show (nests T).length = L by rw [nests_len, HL.out])
        have HIX := indexf_any va (nests T) vc w2 (own_rdI O2.out).2.1 (by rw [HNL.out]; omega)
        rw [HNL.out] at O2 HIX ⊢
        have HI2 := hid HIX
        have B2 := hid (B1.out.trans (L2.out.mono B1.out.size))
        clear HIX xt
        go_upto_region 11 with (go_at_call 28; refine HI2.out.mono ?_; rintro e w3 ⟨i, rfl, hww, hr⟩; have hw2 := hww.symm; clear hww; subst hw2; have HIR := hid hr; clear hr)
        by_cases hi : 0 ≤ i
        · obtain ⟨n, rfl⟩ := nat_of i hi
          have HR := hid (show Res T 122 n by
            rcases HIR.out with ⟨j, e, h1, h2, h3⟩ | ⟨e, _⟩
            · have : n = j := by omega
              subst this
              exact .inr (.inr ⟨HW.out.1, HW.out.2, .inr (.inr ⟨HOL.out.1, HOL.out.2, .inl ⟨⟨by rw [← HL.out]; exact h1, h2, h3⟩, rfl⟩⟩)⟩)
            · omega)
          have HF := hid (HFA.out 122 n)
          have g2 : (0 : Int) ≤ (n : Int) := by omega
          go_wp2_with (go_at_call 21; refine (HF.out _).mono ?_; rintro e w3 ⟨rfl, f1, l3⟩; have F3 := hid f1; have L3 := hid l3; clear f1 l3)
          (try simp only [Exit.inBlock, Exit.then])
          exact bodyPost_ret (results_tmp2 rfl _ _ _) rfl ⟨B2.out.trans (L3.out.mono B2.out.size), .inr ⟨_, 122, n, rfl, F3.out, B2.out.size, HR.out, by decide⟩⟩
        · have hm1 : i = -1 := by
            rcases HIR.out with ⟨j, e, _⟩ | ⟨e, _⟩ <;> omega
          subst hm1
          have HR := hid (show Res T 0 0 by
            rcases HIR.out with ⟨j, e, _⟩ | ⟨e, h3⟩
            · omega
            · exact .inr (.inr ⟨HW.out.1, HW.out.2, .inr (.inr ⟨HOL.out.1, HOL.out.2, .inr ⟨fun j hj => h3 j (by rw [HL.out]; exact hj), rfl, rfl⟩⟩)⟩))
          have O3 := hid (show OwnI w2 w.heap.size (.slice va L vc) (nests T) from own_mono O2.out B1.out.size)
          clear hi
          go_wp2_with fail
          (try simp only [Exit.inBlock, Exit.then])
          exact bodyPost_ret (results_tmp2 rfl _ _ _) rfl ⟨B2.out, .inl ⟨_, rfl, O3.out, HR.out⟩⟩
/-- An answer's error: none, or the fault that the tree asks for. -/
def ErrR (T : List Pt) (B : Nat) (W : World) (ev : Value) : Prop := (ev = .nilIface ∧ Res T 0 0) ∨ ∃ (N c i : Nat), ev = fv N ∧ Flt W N c i ∧ B ≤ N ∧ Res T c i ∧ c ≠ 0
theorem ErrR.low {T : List Pt} {B B' : Nat} {W W' : World} {ev : Value} (h : ErrR T B W ev) (hb : Below W.heap.size W W') (hB : B' ≤ B) : ErrR T B' W' ev := by
  rcases h with h | ⟨N, c, i, h1, h2, h3, h4, h5⟩
  · exact .inl h
  · exact .inr ⟨N, c, i, h1, h2.low hb, by omega, h4, h5⟩
theorem checked_x (a : Option Addr) (T : List Pt) (cap : Nat) (w : World) (hT : PL w a T) (hG : GdT T) :
    Calls Tryz.prog 18 #[.agg #[.slice a T.length cap]] w fun e w' => ∃ va vn vc ev, e = .returned (.tuple #[.slice va vn vc, ev]) ∧ Below w.heap.size w w' ∧ ErrR T w.heap.size w' ev ∧ (ev = .nilIface → OwnI w' w.heap.size (.slice va vn vc) (nests T)) := by
  refine (checked_any a T cap w hT hG).mono ?_
  rintro e w' ⟨hb, ⟨v, rfl, ho, hr⟩ | ⟨N, c, i, rfl, hf, hN, hr, hc⟩⟩
  · obtain ⟨va, vc, rfl⟩ := own_form ho
    exact ⟨va, _, vc, _, rfl, hb, .inl ⟨rfl, hr⟩, fun _ => ho⟩
  · exact ⟨none, 0, 0, _, rfl, hb, .inr ⟨N, c, i, rfl, hf, hN, hr, hc⟩, fun h => by cases h⟩
set_option maxHeartbeats 4000000 in
set_option maxRecDepth 100000 in
theorem valid_any (a : Option Addr) (T : List Pt) (cap : Nat) (w : World) (hT : PL w a T) (hG : GdT T) :
    Calls Tryz.prog 8 #[.agg #[.slice a T.length cap]] w fun e w' => ∃ ev, e = .returned ev ∧ Below w.heap.size w w' ∧ ErrR T w.heap.size w' ev := by
  have HB0 := hid (belowA w (.cells #[.slice a T.length cap] 24))
  have HC := hid (checked_x a T cap (w.alloc (.cells #[.slice a T.length cap] 24)) (hT.low HB0.out) hG)
  generalize T.length = L at *
  clear hT
  go_enter Tryz.func8, Tryz.ntmps8
  go_wp2_with (go_at_call 18; refine HC.out.mono ?_; rintro e w1 ⟨va, vn, vc, ev, rfl, l1, hr, _⟩; have L1 := hid l1; have HR := hid hr; clear l1 hr)
  go_ret
  exact ⟨_, rfl, HB0.out.trans (L1.out.mono HB0.out.size), HR.out.low (Below.refl _ _) HB0.out.size⟩
set_option maxHeartbeats 4000000 in
set_option maxRecDepth 100000 in
theorem nest_any (a : Option Addr) (T : List Pt) (cap : Nat) (w : World) (hT : PL w a T) (hG : GdT T) :
    Calls Tryz.prog 14 #[.agg #[.slice a T.length cap]] w fun e w' => ∃ (m : Int) (ev : Value), e = .returned (.tuple #[.int .i64 m, ev]) ∧ Below w.heap.size w w' ∧ ErrR T w.heap.size w' ev ∧ ((ev ≠ .nilIface ∧ m = 0) ∨ (ev = .nilIface ∧ NestR T m)) := by
  have HB0 := hid (belowA w (.cells #[.slice a T.length cap] 24))
  have HC := hid (checked_x a T cap (w.alloc (.cells #[.slice a T.length cap] 24)) (hT.low HB0.out) hG)
  obtain ⟨L, hLe⟩ : ∃ L, L = T.length := ⟨_, rfl⟩
  have HL := hid hLe
  rw [← hLe] at HB0 HC ⊢
  clear hT hLe
  go_enter Tryz.func14, Tryz.ntmps14
  go_upto_region 2 with (go_at_call 18; refine HC.out.mono ?_; rintro e w1 ⟨va, vn, vc, ev, rfl, l1, hr, ho⟩; have L1 := hid l1; have HR := hid hr; have HO := hid ho; clear l1 hr ho)
  have B1 := hid (HB0.out.trans (L1.out.mono HB0.out.size))
  have HR1 := hid (HR.out.low (Below.refl _ _) HB0.out.size)
  rcases HR.out with ⟨rfl, hr0⟩ | ⟨N, c, i, rfl, _⟩
  · have O1 := hid (HO.out rfl)
    obtain ⟨h1, h2, ho, _⟩ := hr0.ok
    obtain ⟨hvn, hrd, _⟩ := own_rdI O1.out
    have HM := max_any va (nests T) vc w1 hrd (by rw [nests_len]; exact h2) (by rw [nests_len]; exact h1)
    rw [← hvn] at HM
    have HM2 := hid HM
    have HVN := hid hvn
    clear HM hrd h1 h2 hr0 ho hvn
    go_wp2_with (go_at_call 25; refine HM2.out.mono ?_; rintro e w2 ⟨v, rfl, hww, hmx⟩; have hw2 := hww.symm; clear hww; subst hw2; have HMX := hid hmx; clear hmx)
    (try simp only [Exit.inBlock, Exit.then])
    refine bodyPost_ret (results_tmp2 rfl _ _ _) rfl ⟨v, .nilIface, rfl, B1.out, HR1.out, .inr ⟨rfl, ?_, ?_⟩⟩
    · intro j hj
      exact HMX.out.1 j (by rw [HVN.out, nests_len]; exact hj)
    · obtain ⟨j, hj, e⟩ := HMX.out.2
      exact ⟨j, by rw [HVN.out, nests_len] at hj; exact hj, e⟩
  · unfold fv at HR1 ⊢
    go_wp2_with fail
    (try simp only [Exit.inBlock, Exit.then])
    exact bodyPost_ret (results_tmp2 rfl _ _ _) rfl ⟨0, _, rfl, B1.out, HR1.out, .inl ⟨(fun h => by cases h), rfl⟩⟩
end Go.Proofs.YtlhlpamciafocaaGreatDoor.L.Sw
