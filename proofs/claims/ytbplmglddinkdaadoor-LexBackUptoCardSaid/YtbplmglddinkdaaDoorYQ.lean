import Derived.Test.YtbplmglddinkdaaDoorZB
import Derived.Deep.Cut
namespace Go.Proofs.YtbplmglddinkdaaDoor.L
open Go.RowKit Go.Shelf
set_option linter.unusedVariables false
set_option maxHeartbeats 8000000 in
set_option maxRecDepth 100000 in
theorem back_any (s : ByteArray) (w : World) (hvar : Vars w) (hs : s.size ≤ 1048576) : Calls Tryd.prog 5 #[.string s] w fun e w' => e = .returned (.bool true) ∧ Below w.heap.size w w' := by
  have HQ := hid (fixq_any w)
  have HF := hid (fun W hv => fixed_any W hv)
  have HV := hid hvar
  have HQU := hid (fun W => quote_any s W hs)
  have hsl : s.data.toList.length = s.size := Array.length_toList
  have HST := hid (show (⟨s.data.toList.toArray⟩ : ByteArray) = s from rfl)
  have hqs := qb_size s.data.toList
  have hqle := qB_le s.data.toList
  have HBY := hid (fun j hj => qb_byte s.data.toList j hj)
  have hq34 : bt (qb s.data.toList) 0 = 34 := rfl
  have HUN := hid (unq_qb s.data.toList)
  have HAS := hid (ask_scan s.data.toList)
  unfold ask at HAS
  have HAT := hid (show askT s.data.toList = askT s.data.toList from rfl)
  have HQ2 := hid (fun W => unq_any (qb s.data.toList) W (by omega))
  rw [show (⟨(quoteL s.data.toList).toArray⟩ : ByteArray) = qb s.data.toList from rfl] at HQU
  obtain ⟨T, hT⟩ : ∃ T, T = askT s.data.toList := ⟨_, rfl⟩
  have HT := hid hT
  rw [← hT] at HAS
  unfold askT at HT
  rw [HST.out] at HT
  rw [hsl] at hqle HUN HAS
  generalize qb s.data.toList = q at *
  clear hT HAT
  have hq2 : 2 ≤ q.size := by omega
  have hqm : q.size ≤ 4194306 := by omega
  have HQS := hid hqs
  clear hqs hqle hsl
  have hc0 := iv_get q 0 (by omega)
  rw [hq34, show iv 34 = 34 from rfl] at hc0
  clear hq34
  have z1 : ¬ (q.size : Int) < 2 := by omega
  go_enter Tryd.func5, Tryd.ntmps5
  go_wp2_with (first
    | (go_at_call 15; refine HQ.out.mono ?_; rintro e w1 ⟨rfl, l1⟩; have L1 := hid l1; have HV1 := hid (HV.out.low l1); clear l1)
    | (go_at_call 8; refine (HF.out _ HV1.out).mono ?_; rintro e w2 ⟨rfl, l2⟩; have L2 := hid (L1.out.trans (l2.mono L1.out.size)); clear l2)
    | (go_at_call 16; refine (HQU.out _).mono ?_; rintro e w3 ⟨rfl, l3⟩; have L3 := hid (L2.out.trans (l3.mono L2.out.size)); clear l3))
  go_loop [4] (fun i => ∃ k : Nat, k ≤ q.size ∧ i = .int .i64 k) (fun i => q.size - (intOf i).toNat)
  case atStart => exact ⟨0, Nat.zero_le _, rfl⟩
  case round =>
    obtain ⟨k, hk, rfl⟩ := hrel
    by_cases hlt : k < q.size
    · have hc := iv_get q k hlt
      have hby := HBY.out k hlt
      obtain ⟨x, hx⟩ : ∃ x, iv (bt q k) = x := ⟨_, rfl⟩
      rw [hx] at hc hby
      have y1 : ¬ x < 32 := by omega
      have y2 : ¬ (126 : Int) < x := by omega
      clear hx
      go_wp2_with fail
      exact ⟨⟨k + 1, by omega, by go_num⟩, by simp [intOf]; omega⟩
    · have hV3 := hid (HV.out.low L3.out)
      by_cases h4 : 4096 < q.size
      · have h4' : (4096 : Int) < q.size := by omega
        have A := hid (fun W => (HQ2.out W))
        rw [show unqS q = .bad 110 4096 from if_pos h4] at A
        have IF := hid (fun N W (h : Flt W N 110 4096) => isfault_yes N 110 4096 W h (by decide))
        unfold fv at IF
        go_wp2_with (first
          | (go_at_call 17; refine (A.out _).mono ?_; rintro e w4 ⟨N, he, f4, n4, l4⟩; unfold fv at he; subst he; have F4 := hid f4; have L4 := hid (L3.out.trans (l4.mono L3.out.size)); clear l4 f4 n4)
          | (go_at_call 12; refine (IF.out _ _ F4.out).mono ?_; rintro e w6 ⟨rfl, hww⟩; have hw2 := hww.symm; clear hww; subst hw2))
        go_ret
        exact ⟨rfl, L4.out⟩
      · have h4' : ¬ (4096 : Int) < q.size := by omega
        have hun := HUN.out (by omega)
        by_cases h5 : 127 < s.size
        · have h5' : (127 : Int) < s.size := by omega
          rw [if_pos h5] at hun
          have A := hid (fun W => (HQ2.out W))
          rw [hun] at A
          have IF := hid (fun N W (h : Flt W N 115 0) => isfault_yes N 115 0 W h (by decide))
          unfold fv at IF
          clear hun
          go_wp2_with (first
            | (go_at_call 17; refine (A.out _).mono ?_; rintro e w4 ⟨N, he, f4, n4, l4⟩; unfold fv at he; subst he; have F4 := hid f4; have L4 := hid (L3.out.trans (l4.mono L3.out.size)); clear l4 f4 n4)
            | (go_at_call 12; refine (IF.out _ _ F4.out).mono ?_; rintro e w6 ⟨rfl, hww⟩; have hw2 := hww.symm; clear hww; subst hw2))
          go_ret
          exact ⟨rfl, L4.out⟩
        · have h5' : ¬ (127 : Int) < s.size := by omega
          rw [if_neg h5] at hun
          have A := hid (fun W => (HQ2.out W))
          rw [hun] at A
          unfold UQ at A
          simp only [] at A
          rw [show (⟨s.data.toList.toArray⟩ : ByteArray) = s from rfl] at A
          have A5 := hid (fun W hv => scan_ok _ T W hv (HAS.out (by omega)))
          clear hun
          go_upto_region 20 with (first
            | (go_at_call 17; refine (A.out _).mono ?_; rintro e w4 ⟨rfl, l4⟩; have L4 := hid (L3.out.trans (l4.mono L3.out.size)); have HV4 := hid (HV.out.low L4.out); clear l4)
            | (go_at_call 9; refine (A5.out _ HV4.out).mono ?_; rintro e w5 ⟨v5, rfl, o5, l5⟩; have O5 := hid o5; have L5 := hid (L4.out.trans (l5.mono L4.out.size)); clear l5 o5))
          have hTT := HT.out
          subst hTT
          go_wp2_with fail
          have hlit := lit_toks w5 [⟨3, ⟨#[97]⟩, 0, 0, 1⟩, ⟨1, s, 0, 1, 1 + q.size⟩, ⟨4, ⟨#[46]⟩, 0, 1 + q.size, 1 + q.size + 1⟩, ⟨0, ⟨#[]⟩, 0, 1 + q.size + 1, 1 + q.size + 1⟩] (by simp)
          have h2 := (ownt_low O5.out (belowA w5 (.cells (cellsT [⟨3, ⟨#[97]⟩, 0, 0, 1⟩, ⟨1, s, 0, 1, 1 + q.size⟩, ⟨4, ⟨#[46]⟩, 0, 1 + q.size, 1 + q.size + 1⟩, ⟨0, ⟨#[]⟩, 0, 1 + q.size + 1, 1 + q.size + 1⟩]).toArray 39))).lst
          have B2 := hid (L5.out.alloc L5.out.size (.cells (cellsT [⟨3, ⟨#[97]⟩, 0, 0, 1⟩, ⟨1, s, 0, 1, 1 + q.size⟩, ⟨4, ⟨#[46]⟩, 0, 1 + q.size, 1 + q.size + 1⟩, ⟨0, ⟨#[]⟩, 0, 1 + q.size + 1, 1 + q.size + 1⟩]).toArray 39))
          refine (same_tokens v5 _ [⟨3, ⟨#[97]⟩, 0, 0, 1⟩, ⟨1, s, 0, 1, 1 + q.size⟩, ⟨4, ⟨#[46]⟩, 0, 1 + q.size, 1 + q.size + 1⟩, ⟨0, ⟨#[]⟩, 0, 1 + q.size + 1, 1 + q.size + 1⟩] (w5.alloc (.cells (cellsT [⟨3, ⟨#[97]⟩, 0, 0, 1⟩, ⟨1, s, 0, 1, 1 + q.size⟩, ⟨4, ⟨#[46]⟩, 0, 1 + q.size, 1 + q.size + 1⟩, ⟨0, ⟨#[]⟩, 0, 1 + q.size + 1, 1 + q.size + 1⟩]).toArray 39)) h2 hlit.lst (by simp)).mono ?_
          rintro x w6 ⟨rfl, l6⟩
          have B3 := hid (B2.out.trans (l6.mono (by have := L5.out.size; simp; omega)))
          clear l6 h2 hlit
          go_wp2_with fail
          go_ret
          exact ⟨rfl, B3.out⟩
end Go.Proofs.YtbplmglddinkdaaDoor.L
