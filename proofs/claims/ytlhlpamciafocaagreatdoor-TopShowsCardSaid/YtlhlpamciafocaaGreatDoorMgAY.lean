import Derived.Test.YtlhlpamciafocaaGreatDoorSwHD
import Derived.Laws.Tables
import Derived.Deep.WholeRow
import Derived.Laws.Rows
namespace Go.Proofs.YtlhlpamciafocaaGreatDoor.L.Sw
open Go.RowKit Go.Shelf
set_option linter.unusedVariables false
/-- A fault lies in a block: its code and its place, no name, no cause. -/
def Flt (W : World) (N c : Nat) (a : Int) : Prop := W.heap[N]? = some (.cells #[.int .i64 (c : Int), .int .i64 a, .string ⟨#[]⟩, .nilIface] 67 (0, 0))
theorem Flt.low {W W' : World} {N c : Nat} {a : Int} (h : Flt W N c a) (hb : Below W.heap.size W W') : Flt W' N c a := (hb.block N (lt_blk h)).trans h
set_option maxHeartbeats 1000000 in
theorem fault_any (c : Nat) (a : Int) (w : World) : Calls Tryz.prog 21 #[.int .i64 (c : Int), .int .i64 a] w fun e w' => e = .returned (fv w.heap.size) ∧ Flt w' w.heap.size c a ∧ Below w.heap.size w w' := by
  unfold fv
  go_enter Tryz.func21, Tryz.ntmps21
  go_wp2
  go_ret
  exact ⟨rfl, heap_alloc_new w _, belowA w _⟩
set_option maxHeartbeats 4000000 in
set_option maxRecDepth 100000 in
theorem indexf_any (a : Option Addr) (A : List Int) (ca : Nat) (w : World) (ha : RdI w a A) (hA : A.length ≤ 1000) :
    Calls Tryz.prog 28 #[.slice a A.length ca, .func (.func 29) #[] #[]] w fun e w' => ∃ i : Int, e = .returned (.int .i64 i) ∧ w' = w ∧ ((∃ j : Nat, i = j ∧ j < A.length ∧ 32 < A.getD j 0 ∧ ∀ k, k < j → A.getD k 0 ≤ 32) ∨ (i = -1 ∧ ∀ k, k < A.length → A.getD k 0 ≤ 32)) := by
  obtain ⟨L, hL⟩ : ∃ L, L = A.length := ⟨_, rfl⟩
  have HL := hid hL
  have RA := hid ha
  have HTD := hid toodeep_any
  rw [← hL] at hA ⊢
  clear ha hL
  go_enter Tryz.func28, Tryz.ntmps28
  go_wp2_with fail
  go_loopw [8] (fun i wr => ∃ k : Nat, k ≤ L ∧ i = .int .i64 k ∧ Hid (wr = w) ∧ Hid (∀ j, j < k → A.getD j 0 ≤ 32)) (fun i _ => L - (intOf i).toNat)
  case atStart => exact ⟨0, Nat.zero_le _, rfl, hid rfl, hid (fun j hj => by omega)⟩
  case round =>
    obtain ⟨k, hk, rfl, HW, HE⟩ := hrel
    obtain rfl := HW.out
    by_cases hlt : k < L
    · rcases RA.out with h0 | ⟨b1, o1, rfl, hb1, hc1⟩
      · have := HL.out; omega
      have p0 := hc1 k (by rw [← HL.out]; exact hlt)
      obtain ⟨x, hx⟩ : ∃ x, x = A.getD k 0 := ⟨_, rfl⟩
      rw [← hx] at p0
      have HX := hid hx
      clear hc1 hx
      have g1 : (k : Int) < (L : Int) := by omega
      have g2 : (0 : Int) ≤ (k : Int) := by omega
      by_cases hd : 32 < x
      · have HD := hid (show decide (32 < x) = true by simp; omega)
        go_wp2_with (go_at_call 29; refine (HTD.out _ _).mono ?_; rw [HD.out]; rintro e w1 ⟨rfl, hww⟩; have hw2 := hww.symm; clear hww; subst hw2)
        go_ret
        exact ⟨_, rfl, by first | rfl | trivial, .inl ⟨k, rfl, by first | exact hlt | (rw [← HL.out]; exact hlt), by rw [← HX.out]; exact hd, HE.out⟩⟩
      · have HD := hid (show decide (32 < x) = false by simp; omega)
        go_wp2_with (go_at_call 29; refine (HTD.out _ _).mono ?_; rw [HD.out]; rintro e w1 ⟨rfl, hww⟩; have hw2 := hww.symm; clear hww; subst hw2)
        refine ⟨⟨k + 1, by omega, by go_num, hid (by first | rfl | trivial), hid (fun j hj => ?_)⟩, by simp [intOf]; omega⟩
        by_cases e : j = k
        · rw [e, ← HX.out]; omega
        · exact HE.out j (by omega)
    · obtain rfl : k = L := by omega
      go_wp2_with fail
      go_ret
      exact ⟨_, rfl, by first | rfl | trivial, .inr ⟨rfl, fun j hj => HE.out j (by first | exact hj | (rw [HL.out]; exact hj))⟩⟩
theorem nat_of (i : Int) (h : 0 ≤ i) : ∃ n : Nat, i = n := ⟨i.toNat, by omega⟩
set_option maxHeartbeats 8000000 in
set_option maxRecDepth 100000 in
theorem checked_any (a : Option Addr) (T : List Pt) (cap : Nat) (w : World) (hT : PL w a T) (hG : GdT T) :
    Calls Tryz.prog 18 #[.agg #[.slice a T.length cap]] w fun e w' => Below w.heap.size w w' ∧
      ((∃ v, e = .returned (.tuple #[v, .nilIface]) ∧ OwnI w' w.heap.size v (nests T) ∧ Res T 0 0) ∨
       (∃ (N c i : Nat), e = .returned (.tuple #[.slice none 0 0, fv N]) ∧ Flt w' N c i ∧ w.heap.size ≤ N ∧ Res T c i ∧ c ≠ 0)) := by
  obtain ⟨L, hLe⟩ : ∃ L, L = T.length := ⟨_, rfl⟩
  have HT := hid hT
  have HL := hid hLe
  have HG := hid hG
  have HFA := hid fault_any
  have hLm := hG.1
  rw [← hLe] at hLm ⊢
  have HX0 := hid (Boxed.new w 24 (.slice a L cap))
  have HB0 := hid (belowA w (.cells #[.slice a L cap] 24))
  clear hT hLe hG
  by_cases h0 : L = 0
  · have e0 : ((L : Int) == 0) = true := by simp [h0]
    have HH := hid h0
    clear h0
    have HF := hid (HFA.out 130 0)
    go_enter Tryz.func18, Tryz.ntmps18
    go_wp2_with (go_at_call 21; refine (HF.out _).mono ?_; rintro e w1 ⟨rfl, f1, l1⟩; have F1 := hid f1; have L1 := hid l1; clear f1 l1)
    (try simp only [Exit.inBlock, Exit.then])
    exact bodyPost_ret (results_tmp2 rfl _ _ _) rfl ⟨HB0.out.trans (L1.out.mono HB0.out.size), .inr ⟨w.heap.size + 1, 130, 0, rfl, by have := F1.out; simpa using this, by omega, .inl ⟨by rw [← HL.out]; exact HH.out, rfl, rfl⟩, by decide⟩⟩
  · have e0 : ((L : Int) == 0) = false := by simp; omega
    by_cases h1 : 1000 < L
    · have e1 : decide ((1000 : Int) < (L : Int)) = true := by simp; omega
      have HF := hid (HFA.out 130 1000)
      go_enter Tryz.func18, Tryz.ntmps18
      go_wp2_with (go_at_call 21; refine (HF.out _).mono ?_; rintro e w1 ⟨rfl, f1, l1⟩; have F1 := hid f1; have L1 := hid l1; clear f1 l1)
      (try simp only [Exit.inBlock, Exit.then])
      exact bodyPost_ret (results_tmp2 rfl _ _ _) rfl ⟨HB0.out.trans (L1.out.mono HB0.out.size), .inr ⟨w.heap.size + 1, 130, 1000, rfl, by have := F1.out; simpa using this, by omega, .inr (.inl ⟨by rw [← HL.out]; exact h1, rfl, rfl⟩), by decide⟩⟩
    · have e1 : decide ((1000 : Int) < (L : Int)) = false := by simp; omega
      have HBA := barred_any a T cap (w.alloc (.cells #[.slice a L cap] 24)) (HT.out.low HB0.out) (by rw [← HL.out]; omega) (by rw [← HL.out]; omega) HG.out
      rw [← HL.out] at HBA
      have HB2 := hid HBA
      clear HBA
      go_enter Tryz.func18, Tryz.ntmps18
      go_upto_region 7 with (go_at_call 26; refine HB2.out.mono ?_; rintro e w1 ⟨i, rfl, hb, l1⟩; have HBR := hid hb; have L1 := hid l1; clear hb l1)
      have B1 := hid (HB0.out.trans (L1.out.mono HB0.out.size))
      have HW := hid (show 1 ≤ T.length ∧ T.length ≤ 1000 by rw [← HL.out]; omega)
      by_cases hi : 0 ≤ i
      · obtain ⟨n, rfl⟩ := nat_of i hi
        have HR := hid (show Res T 130 n by
          rcases HBR.out with ⟨j, e, hb⟩ | ⟨e, ho, hl⟩ | ⟨e, _⟩
          · have : n = j := by omega
            subst this
            exact .inr (.inr ⟨HW.out.1, HW.out.2, .inl ⟨hb, rfl⟩⟩)
          · exact .inr (.inr ⟨HW.out.1, HW.out.2, .inr (.inl ⟨ho, hl, rfl, by omega⟩)⟩)
          · omega)
        have HF := hid (HFA.out 130 n)
        have g2 : (0 : Int) ≤ (n : Int) := by omega
        go_wp2_with (go_at_call 21; refine (HF.out _).mono ?_; rintro e w2 ⟨rfl, f1, l2⟩; have F2 := hid f1; have L2 := hid l2; clear f1 l2)
        (try simp only [Exit.inBlock, Exit.then])
        exact bodyPost_ret (results_tmp2 rfl _ _ _) rfl ⟨B1.out.trans (L2.out.mono B1.out.size), .inr ⟨_, 130, n, rfl, F2.out, B1.out.size, HR.out, by decide⟩⟩
      · have hm1 : i = -1 := by
          rcases HBR.out with ⟨j, e, hb⟩ | ⟨e, ho, hl⟩ | ⟨e, _⟩ <;> omega
        subst hm1
        have HOL : Hid (Ok0 T ∧ ¬ Lst T) := by
          rcases HBR.out with ⟨j, e, hb⟩ | ⟨e, ho, hl⟩ | ⟨e, ho, hl⟩
          · omega
          · omega
          · exact hid ⟨ho, hl⟩
        have xt := (show Boxed w1 w.heap.size 24 (.slice a L cap) from (L1.out.block _ HX0.out.lt).trans HX0.out).cell
        have HNN := nestsof_any a T cap w1 (HT.out.low B1.out) HW.out.1 HW.out.2 HOL.out.1
        rw [← HL.out] at HNN
        have HN2 := hid HNN
        clear HNN hi
        go_upto_region 10 with (go_at_call 27; refine HN2.out.mono ?_; rintro e w2 ⟨v, rfl, o2, l2⟩; have L2 := hid l2; obtain ⟨va, vc, rfl⟩ := own_form o2; have O2 := hid o2; clear l2 o2)
        have HNL := hid (show (nests T).length = L by rw [nests_len, HL.out])
        have HIX := indexf_any va (nests T) vc w2 (own_rdI O2.out).2.1 (by rw [HNL.out]; omega)
        rw [HNL.out] at O2 HIX ⊢
        have HI2 := hid HIX
        have B2 := hid (B1.out.trans (L2.out.mono B1.out.size))
        clear HIX xt
        go_upto_region 11 with (go_at_call 28; refine HI2.out.mono ?_; rintro e w3 ⟨i, rfl, hww, hr⟩; have hw2 := hww.symm; clear hww; subst hw2; have HIR := hid hr; clear hr)
        by_cases hi : 0 ≤ i
        · obtain ⟨n, rfl⟩ := nat_of i hi
          have HR := hid (show Res T 122 n by
            rcases HIR.out with ⟨j, e, h1, h2, h3⟩ | ⟨e, _⟩
            · have : n = j := by omega
              subst this
              exact .inr (.inr ⟨HW.out.1, HW.out.2, .inr (.inr ⟨HOL.out.1, HOL.out.2, .inl ⟨⟨by rw [← HL.out]; exact h1, h2, h3⟩, rfl⟩⟩)⟩)
            · omega)
          have HF := hid (HFA.out 122 n)
          have g2 : (0 : Int) ≤ (n : Int) := by omega
          go_wp2_with (go_at_call 21; refine (HF.out _).mono ?_; rintro e w3 ⟨rfl, f1, l3⟩; have F3 := hid f1; have L3 := hid l3; clear f1 l3)
          (try simp only [Exit.inBlock, Exit.then])
          exact bodyPost_ret (results_tmp2 rfl _ _ _) rfl ⟨B2.out.trans (L3.out.mono B2.out.size), .inr ⟨_, 122, n, rfl, F3.out, B2.out.size, HR.out, by decide⟩⟩
        · have hm1 : i = -1 := by
            rcases HIR.out with ⟨j, e, _⟩ | ⟨e, _⟩ <;> omega
          subst hm1
          have HR := hid (show Res T 0 0 by
            rcases HIR.out with ⟨j, e, _⟩ | ⟨e, h3⟩
            · omega
            · exact .inr (.inr ⟨HW.out.1, HW.out.2, .inr (.inr ⟨HOL.out.1, HOL.out.2, .inr ⟨fun j hj => h3 j (by rw [HL.out]; exact hj), rfl, rfl⟩⟩)⟩))
          have O3 := hid (show OwnI w2 w.heap.size (.slice va L vc) (nests T) from own_mono O2.out B1.out.size)
          clear hi
          go_wp2_with fail
          (try simp only [Exit.inBlock, Exit.then])
          exact bodyPost_ret (results_tmp2 rfl _ _ _) rfl ⟨B2.out, .inl ⟨_, rfl, O3.out, HR.out⟩⟩
/-- An answer's error: none, or the fault that the tree asks for. -/
def ErrR (T : List Pt) (B : Nat) (W : World) (ev : Value) : Prop := (ev = .nilIface ∧ Res T 0 0) ∨ ∃ (N c i : Nat), ev = fv N ∧ Flt W N c i ∧ B ≤ N ∧ Res T c i ∧ c ≠ 0
theorem ErrR.low {T : List Pt} {B B' : Nat} {W W' : World} {ev : Value} (h : ErrR T B W ev) (hb : Below W.heap.size W W') (hB : B' ≤ B) : ErrR T B' W' ev := by
  rcases h with h | ⟨N, c, i, h1, h2, h3, h4, h5⟩
  · exact .inl h
  · exact .inr ⟨N, c, i, h1, h2.low hb, by omega, h4, h5⟩
theorem checked_x (a : Option Addr) (T : List Pt) (cap : Nat) (w : World) (hT : PL w a T) (hG : GdT T) :
    Calls Tryz.prog 18 #[.agg #[.slice a T.length cap]] w fun e w' => ∃ va vn vc ev, e = .returned (.tuple #[.slice va vn vc, ev]) ∧ Below w.heap.size w w' ∧ ErrR T w.heap.size w' ev ∧ (ev = .nilIface → OwnI w' w.heap.size (.slice va vn vc) (nests T)) := by
  refine (checked_any a T cap w hT hG).mono ?_
  rintro e w' ⟨hb, ⟨v, rfl, ho, hr⟩ | ⟨N, c, i, rfl, hf, hN, hr, hc⟩⟩
  · obtain ⟨va, vc, rfl⟩ := own_form ho
    exact ⟨va, _, vc, _, rfl, hb, .inl ⟨rfl, hr⟩, fun _ => ho⟩
  · exact ⟨none, 0, 0, _, rfl, hb, .inr ⟨N, c, i, rfl, hf, hN, hr, hc⟩, fun h => by cases h⟩
set_option maxHeartbeats 4000000 in
set_option maxRecDepth 100000 in
theorem valid_any (a : Option Addr) (T : List Pt) (cap : Nat) (w : World) (hT : PL w a T) (hG : GdT T) :
    Calls Tryz.prog 8 #[.agg #[.slice a T.length cap]] w fun e w' => ∃ ev, e = .returned ev ∧ Below w.heap.size w w' ∧ ErrR T w.heap.size w' ev := by
  have HB0 := hid (belowA w (.cells #[.slice a T.length cap] 24))
  have HC := hid (checked_x a T cap (w.alloc (.cells #[.slice a T.length cap] 24)) (hT.low HB0.out) hG)
  generalize T.length = L at *
  clear hT
  go_enter Tryz.func8, Tryz.ntmps8
  go_wp2_with (go_at_call 18; refine HC.out.mono ?_; rintro e w1 ⟨va, vn, vc, ev, rfl, l1, hr, _⟩; have L1 := hid l1; have HR := hid hr; clear l1 hr)
  go_ret
  exact ⟨_, rfl, HB0.out.trans (L1.out.mono HB0.out.size), HR.out.low (Below.refl _ _) HB0.out.size⟩
end Go.Proofs.YtlhlpamciafocaaGreatDoor.L.Sw
namespace Go.Proofs.YtlhlpamciafocaaGreatDoor.L.Sw
open Go.RowKit Go.Shelf
set_option linter.unusedVariables false
set_option linter.unusedSimpArgs false
set_option maxHeartbeats 4000000 in
set_option maxRecDepth 100000 in
theorem read_yes (N c : Nat) (a : Int) (w : World) (h : Flt w N c a) (h0 : c ≠ 0) : Calls Tryz.prog 16 #[fv N] w fun e w' => e = .returned (.agg #[.int .i64 (c : Int), .int .i64 a, .string ⟨#[]⟩, .int .i64 0, .int .i64 0, .int .i64 0, .string ⟨#[]⟩, .int .i64 0, .int .i64 0, .int .i64 0, .string ⟨#[]⟩, .int .i64 0, .int .i64 0, .int .i64 0, .string ⟨#[]⟩, .int .i64 0, .int .i64 0, .int .i64 0, .string ⟨#[]⟩]) ∧ Below w.heap.size w w' := by
  unfold fv
  have ra := run_assert
  obtain ⟨cs, hcs⟩ : ∃ cs : Array Value, cs = #[.int .i64 (c : Int), .int .i64 a, .string ⟨#[]⟩, .int .i64 0, .int .i64 0, .int .i64 0, .string ⟨#[]⟩, .int .i64 0, .int .i64 0, .int .i64 0, .string ⟨#[]⟩, .int .i64 0, .int .i64 0, .int .i64 0, .string ⟨#[]⟩, .int .i64 0, .int .i64 0, .int .i64 0, .string ⟨#[]⟩] := ⟨_, rfl⟩
  have HCS := hid hcs
  have hz9 : cs.size = 19 := by rw [hcs]; rfl
  clear hcs
  obtain ⟨c0, c1, c2, c3⟩ := cells4 h
  have h0' : ((c : Int) == 0) = false := by simpa using h0
  have hl := lt_blk h
  have hne : N ≠ w.heap.size := by omega
  go_enter Tryz.func16, Tryz.ntmps16
  go_upto_region 6 with (fail)
  have hb := belowA w (.cells #[.int .i64 0, .int .i64 0, .string ⟨#[]⟩, .int .i64 0, .int .i64 0, .int .i64 0, .string ⟨#[]⟩, .int .i64 0, .int .i64 0, .int .i64 0, .string ⟨#[]⟩, .int .i64 0, .int .i64 0, .int .i64 0, .string ⟨#[]⟩, .int .i64 0, .int .i64 0, .int .i64 0, .string ⟨#[]⟩] 45)
  have hx := heap_alloc_new w (.cells #[.int .i64 0, .int .i64 0, .string ⟨#[]⟩, .int .i64 0, .int .i64 0, .int .i64 0, .string ⟨#[]⟩, .int .i64 0, .int .i64 0, .int .i64 0, .string ⟨#[]⟩, .int .i64 0, .int .i64 0, .int .i64 0, .string ⟨#[]⟩, .int .i64 0, .int .i64 0, .int .i64 0, .string ⟨#[]⟩] 45)
  have HZ := hid (show (w.alloc (.cells #[.int .i64 0, .int .i64 0, .string ⟨#[]⟩, .int .i64 0, .int .i64 0, .int .i64 0, .string ⟨#[]⟩, .int .i64 0, .int .i64 0, .int .i64 0, .string ⟨#[]⟩, .int .i64 0, .int .i64 0, .int .i64 0, .string ⟨#[]⟩, .int .i64 0, .int .i64 0, .int .i64 0, .string ⟨#[]⟩] 45)).heap.size = w.heap.size + 1 by simp)
  replace c0 := (hb.cell (p := ⟨N, 0, none⟩) hl).trans c0
  replace c1 := (hb.cell (p := ⟨N, 1, none⟩) hl).trans c1
  replace c2 := (hb.cell (p := ⟨N, 2, none⟩) hl).trans c2
  replace c3 := (hb.cell (p := ⟨N, 3, none⟩) hl).trans c3
  have HB := hid hb
  have HX := hid hx
  clear hb hx h
  generalize w.alloc (.cells #[.int .i64 0, .int .i64 0, .string ⟨#[]⟩, .int .i64 0, .int .i64 0, .int .i64 0, .string ⟨#[]⟩, .int .i64 0, .int .i64 0, .int .i64 0, .string ⟨#[]⟩, .int .i64 0, .int .i64 0, .int .i64 0, .string ⟨#[]⟩, .int .i64 0, .int .i64 0, .int .i64 0, .string ⟨#[]⟩] 45) = W1 at *
  generalize hbz : w.heap.size = bz at *
  have hN1 : N < W1.heap.size := by have := HZ.out; omega
  refine wp_region_held_drew (S := (fun Y => Y.cell? ⟨N, 0, none⟩ = some (.int .i64 (c : Int)) ∧ Y.cell? ⟨N, 1, none⟩ = some (.int .i64 a) ∧ Y.cell? ⟨N, 2, none⟩ = some (.string ⟨#[]⟩))) (by kernel_rfl) ?_ (fun hHeld => ?_)
  · exact ⟨c0, c1, c2⟩
  refine wpAnyH_take (i := 0) (oi := _) (v := ?_) rfl (by kernel_rfl) (by kernel_rfl) (by kernel_rfl) (fun _ _ _ h => h) (Or.inl ⟨by rfl, ?_⟩) (by assumption) ?_
  rotate_left
  · intro w hSw
    try dsimp only at hSw
    go_simp
    try with_reducible rfl
  try simp only [Act.put, List.setIfInBounds_toArray, List.set_cons_zero, List.set_cons_succ]
  refine wpAnyH_take (i := 1) (oi := _) (v := ?_) rfl (by kernel_rfl) (by kernel_rfl) (by kernel_rfl) (fun _ _ _ h => h) (Or.inl ⟨by rfl, ?_⟩) (by assumption) ?_
  rotate_left
  · intro w hSw
    try dsimp only at hSw
    go_simp
    try with_reducible rfl
  try simp only [Act.put, List.setIfInBounds_toArray, List.set_cons_zero, List.set_cons_succ]
  refine wpAnyH_take (i := 2) (oi := _) (v := ?_) rfl (by kernel_rfl) (by kernel_rfl) (by kernel_rfl) (fun _ _ _ h => h) (Or.inl ⟨by rfl, ?_⟩) (by assumption) ?_
  rotate_left
  · intro w hSw
    try dsimp only at hSw
    go_simp
    try with_reducible rfl
  try simp only [Act.put, List.setIfInBounds_toArray, List.set_cons_zero, List.set_cons_succ]
  refine wpAnyH_take (i := 3) (oi := _) (v := ?_) rfl (by kernel_rfl) (by kernel_rfl) (by kernel_rfl) (fun _ _ _ h => h) (Or.inl ⟨by rfl, ?_⟩) (by assumption) ?_
  rotate_left
  · intro w hSw
    try dsimp only at hSw
    go_simp
    try with_reducible rfl
  try simp only [Act.put, List.setIfInBounds_toArray, List.set_cons_zero, List.set_cons_succ]
  refine wpAnyH_take (i := 4) (oi := _) (v := ?_) rfl (by kernel_rfl) (by kernel_rfl) (by kernel_rfl) (fun _ _ _ h => h) (Or.inl ⟨by rfl, ?_⟩) (by assumption) ?_
  rotate_left
  · intro w hSw
    try dsimp only at hSw
    go_simp
    try with_reducible rfl
  try simp only [Act.put, List.setIfInBounds_toArray, List.set_cons_zero, List.set_cons_succ]
  refine wpAnyH_take (i := 5) (oi := _) (v := ?_) rfl (by kernel_rfl) (by kernel_rfl) (by kernel_rfl) (fun _ _ _ h => h) (Or.inl ⟨by rfl, ?_⟩) (by assumption) ?_
  rotate_left
  · intro w hSw
    try dsimp only at hSw
    go_simp
    try with_reducible rfl
  try simp only [Act.put, List.setIfInBounds_toArray, List.set_cons_zero, List.set_cons_succ]
  refine wpAnyH_take (i := 6) (oi := _) (v := ?_) rfl (by kernel_rfl) (by kernel_rfl) (by kernel_rfl) (fun _ _ _ h => h) (Or.inl ⟨by rfl, ?_⟩) (by assumption) ?_
  rotate_left
  · intro w hSw
    try dsimp only at hSw
    go_simp
    try with_reducible rfl
  try simp only [Act.put, List.setIfInBounds_toArray, List.set_cons_zero, List.set_cons_succ]
  refine wpAnyH_take (i := 7) (oi := _) (v := ?_) rfl (by kernel_rfl) (by kernel_rfl) (by kernel_rfl) (fun _ _ _ h => h) (Or.inl ⟨by rfl, ?_⟩) (by assumption) ?_
  rotate_left
  · intro w hSw
    try dsimp only at hSw
    go_simp
    try with_reducible rfl
  try simp only [Act.put, List.setIfInBounds_toArray, List.set_cons_zero, List.set_cons_succ]
  refine wpAnyH_take (i := 8) (oi := _) (v := ?_) rfl (by kernel_rfl) (by kernel_rfl) (by kernel_rfl) (fun _ _ _ h => h) (Or.inl ⟨by rfl, ?_⟩) (by assumption) ?_
  rotate_left
  · intro w hSw
    try dsimp only at hSw
    go_simp
    try with_reducible rfl
  try simp only [Act.put, List.setIfInBounds_toArray, List.set_cons_zero, List.set_cons_succ]
  refine wpAnyH_take (i := 9) (oi := _) (v := ?_) rfl (by kernel_rfl) (by kernel_rfl) (by kernel_rfl) (fun _ _ _ h => h) (Or.inl ⟨by rfl, ?_⟩) (by assumption) ?_
  rotate_left
  · intro w hSw
    try dsimp only at hSw
    go_simp
    try with_reducible rfl
  try simp only [Act.put, List.setIfInBounds_toArray, List.set_cons_zero, List.set_cons_succ]
  refine wpAnyH_take (i := 10) (oi := _) (v := ?_) rfl (by kernel_rfl) (by kernel_rfl) (by kernel_rfl) (fun _ _ _ h => h) (Or.inl ⟨by rfl, ?_⟩) (by assumption) ?_
  rotate_left
  · intro w hSw
    try dsimp only at hSw
    go_simp
    try with_reducible rfl
  try simp only [Act.put, List.setIfInBounds_toArray, List.set_cons_zero, List.set_cons_succ]
  refine wpAnyH_take (i := 11) (oi := _) (v := ?_) rfl (by kernel_rfl) (by kernel_rfl) (by kernel_rfl) (fun _ _ _ h => h) (Or.inl ⟨by rfl, ?_⟩) (by assumption) ?_
  rotate_left
  · intro w hSw
    try dsimp only at hSw
    go_simp
    try with_reducible rfl
  try simp only [Act.put, List.setIfInBounds_toArray, List.set_cons_zero, List.set_cons_succ]
  refine wpAnyH_take (i := 12) (oi := _) (v := .agg cs) rfl (by kernel_rfl) (by kernel_rfl) (by kernel_rfl) (fun _ _ _ h => h) (Or.inl ⟨by rfl, ?_⟩) (by assumption) ?_
  · intro w hSw
    clear hSw
    go_simp
    exact HCS.out.symm
  try simp only [Act.put, List.setIfInBounds_toArray, List.set_cons_zero, List.set_cons_succ]
  refine wpAnyH_ready (rs := [13]) (by kernel_rfl) (by simp) ?_
  refine AllReadyH.cons (o := _) rfl (fun K hK => ?_) AllReadyH.nil
  go_simp
  refine hK.out _ _ ?_ (fun hHeld => ?_)
  · exact ⟨(World.cell?_alloc_some W1 _ _ (by rw [c0]; rfl)).trans c0, (World.cell?_alloc_some W1 _ _ (by rw [c1]; rfl)).trans c1, (World.cell?_alloc_some W1 _ _ (by rw [c2]; rfl)).trans c2⟩
  clear hK K
  try simp only [Act.put, List.setIfInBounds_toArray, List.set_cons_zero, List.set_cons_succ]
  refine wpAnyH_ready (rs := [14]) (by kernel_rfl) (by simp) ?_
  refine AllReadyH.cons (o := _) rfl (fun K hK => ?_) AllReadyH.nil
  rw [if_pos (by rfl)]
  refine wp_store_row 45 _ _ rfl W1.heap.size cs rfl rfl 45 _ (heap_alloc_new W1 _) (by rw [hz9]; exact info53) (by rw [hz9]; rfl) (by rw [HCS.out]; kernel_rfl) ?_
  refine hK.out _ _ ?_ (fun hHeld => ?_)
  · exact ⟨((cell_setRow_other _ _ _ _ (Nat.ne_of_lt hN1)).trans (World.cell?_alloc_some W1 _ _ (by rw [c0]; rfl))).trans c0, ((cell_setRow_other _ _ _ _ (Nat.ne_of_lt hN1)).trans (World.cell?_alloc_some W1 _ _ (by rw [c1]; rfl))).trans c1, ((cell_setRow_other _ _ _ _ (Nat.ne_of_lt hN1)).trans (World.cell?_alloc_some W1 _ _ (by rw [c2]; rfl))).trans c2⟩
  clear hK K hHeld
  try simp only [Act.put, List.setIfInBounds_toArray, List.set_cons_zero, List.set_cons_succ]
  refine wpAnyH_done (by kernel_rfl) ?_ _
  generalize hZC : (#[.int .i64 0, .int .i64 0, .string ⟨#[]⟩, .int .i64 0, .int .i64 0, .int .i64 0, .string ⟨#[]⟩, .int .i64 0, .int .i64 0, .int .i64 0, .string ⟨#[]⟩, .int .i64 0, .int .i64 0, .int .i64 0, .string ⟨#[]⟩, .int .i64 0, .int .i64 0, .int .i64 0, .string ⟨#[]⟩] : Array Value) = ZC at *
  have hza : (W1.alloc (.cells ZC 45)).drew.heap.size = W1.heap.size + 1 := by simp
  have hb2 : Below W1.heap.size W1 ((W1.alloc (.cells ZC 45)).drew.setRow W1.heap.size cs) := ⟨rfl, rfl, rfl, by rw [setRow_size, hza]; omega, fun k hk => (setRow_other _ _ _ _ (Nat.ne_of_lt hk)).trans ((belowA W1 _).block _ hk)⟩
  have hx2 : ((W1.alloc (.cells ZC 45)).drew.setRow W1.heap.size cs).heap[W1.heap.size]? = some (.cells cs 45 (0, 0)) := setRow_heap _ _ ZC _ _ _ (heap_alloc_new W1 _)
  have hz19 : ZC.size = 19 := by rw [← hZC]; rfl
  have HZC := hid hZC
  clear hZC hza
  replace c3 := (hb2.cell (p := ⟨N, 3, none⟩) hN1).trans c3
  have HB2 := hid hb2
  have HX2 := hid hx2
  clear hb2 hx2 c0 c1 c2
  generalize (W1.alloc (.cells ZC 45)).drew.setRow W1.heap.size cs = W2 at *
  have HX1 := hid (show W2.heap[bz]? = some (.cells ZC 45 (0, 0)) from (HB2.out.block _ (lt_blk HX.out)).trans HX.out)
  have HZ9 := hid hz9
  have HZ19 := hid hz19
  clear hz9 hz19
  generalize W1.heap.size = b1 at *
  go_wp2_with fail
  refine wp_loop_rounds 1 ?_
  rw [rounds_succ]
  go_upto_region 26 with (fail)
  refine wp_region_lit ?_
  refine wpList_load_row rfl 45 _ rfl b1 rfl 45 cs (0, 0) _ HX2.out Tryz.underlying45 rfl (by rw [HZ9.out]; exact info53) ?_
  try simp only [Act.put, List.setIfInBounds_toArray, List.set_cons_zero, List.set_cons_succ]
  refine wpList_store_row rfl 45 _ _ rfl bz cs rfl rfl 45 ZC HX1.out (by rw [HZ9.out]; exact info53) (by rw [HZ9.out, HZ19.out]) (by rw [HCS.out]; kernel_rfl) ?_
  try simp only [Act.put, List.setIfInBounds_toArray, List.set_cons_zero, List.set_cons_succ]
  have hb3 : Below bz w (W2.setRow bz cs) := by
    have h1 := HB.out
    have h2 := HB2.out
    have h3 := HZ.out
    exact ⟨h2.os.trans h1.os, h2.tape.trans h1.tape, h2.output.trans h1.output, by rw [setRow_size]; exact Nat.le_trans h1.size h2.size, fun k hk => ((setRow_other _ _ _ _ (Nat.ne_of_lt hk)).trans (h2.block k (by omega))).trans (h1.block k hk)⟩
  have hx3 := setRow_heap W2 bz ZC cs _ _ HX1.out
  have HX3 := hid hx3
  clear hx3
  have HB3 := hid hb3
  clear hb3 c3
  generalize W2.setRow bz cs = W3 at *
  go_wp2_with fail
  refine ⟨rfl, .agg cs, results_cell_row Tryz.results16 _ W3 bz 45 cs (0, 0) _ rfl HX3.out Tryz.underlying45 rfl (by rw [HZ9.out]; exact info53), ?_, ?_⟩
  · rw [HCS.out]
  · rw [hbz]
    exact HB3.out
end Go.Proofs.YtlhlpamciafocaaGreatDoor.L.Sw
