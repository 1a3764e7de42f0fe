import Derived.Test.YtnclpdgbjefpmaaJb
namespace Go.Proofs.Ytnclpdgbjefpmaa.L
open Go.RowKit
set_option linter.unusedVariables false
set_option linter.unusedSimpArgs false
def mg4 : List UInt8 := [0x42, 0x52, 0x54, 1]
theorem mg4_step (B : List UInt8) (j : Nat) (h : j < 4) : hqD B (mg4.drop j) j = if j < B.length then (if (B.getD j 0).toNat = (mg4.getD j 0).toNat then hqD B (mg4.drop (j + 1)) (j + 1) else .error (200, j)) else .error (201, j) := by
  rcases (by omega : j = 0 ∨ j = 1 ∨ j = 2 ∨ j = 3) with rfl | rfl | rfl | rfl <;> rfl
theorem mg4_cell {w : World} {mb : Nat} (h : w.heap[mb]? = some (.cells #[.int .u8 66, .int .u8 82, .int .u8 84, .int .u8 1] 5 (0, 0))) (j : Nat) (hj : j < 4) : w.cell? ⟨mb, j, none⟩ = some (.int .u8 (iv (mg4.getD j 0))) := by
  rcases (by omega : j = 0 ∨ j = 1 ∨ j = 2 ∨ j = 3) with rfl | rfl | rfl | rfl <;> exact cell_of_row _ _ _ _ _ _ h
set_option maxHeartbeats 2000000 in
set_option maxRecDepth 100000 in
theorem dhead_any {g : Nat} {a : Option Addr} {cap : Nat} {B : List UInt8} {W : World} (h : Dm g a cap B W 0 0 0) :
    Calls Try.prog 29 #[.pointer (some ⟨g, 0, none⟩)] W (Do (α := Unit) g a cap B (fun (_ : Unit) v _ => v = .tuple #[]) (fun v _ => v = .tuple #[]) (headC.P B 0) W) := by
  rw [headC_P]
  have hlen := h.len
  have hbm : B.length ≤ maxLen := by unfold maxLen; omega
  obtain ⟨res, hres⟩ : ∃ r, r = hqD B [0x42, 0x52, 0x54, 1] 0 := ⟨_, rfl⟩
  rw [← hres]
  have HRES := hid (show hqD B (mg4.drop 0) 0 = res from hres.symm)
  have HA := hid (belowA W (.cells #[.int .u8 66, .int .u8 82, .int .u8 84, .int .u8 1] 5))
  have HR := hid (h.low' HA.out)
  have HM := hid (heap_alloc_new W (.cells #[.int .u8 66, .int .u8 82, .int .u8 84, .int .u8 1] 5))
  have HLG := hid (lt_blk h.box)
  clear h hres
  go_enter Try.func29, Try.ntmps29
  go_upto_region 1 with fail
  have HG0 := hid (show Gb g W (W.alloc (.cells #[.int .u8 66, .int .u8 82, .int .u8 84, .int .u8 1] 5)) from Gb.of HA.out)
  generalize W.alloc (.cells #[.int .u8 66, .int .u8 82, .int .u8 84, .int .u8 1] 5) = W1 at *
  obtain ⟨mb, hmb⟩ : ∃ b, b = W.heap.size := ⟨_, rfl⟩
  rw [← hmb] at HM ⊢
  have HMB := hid (show mb ≠ g from by have := HLG.out; omega)
  clear hmb HLG HA
  go_wp2_with fail
  go_loopw [3] (fun i wr => ∃ (j : Nat), j ≤ 4 ∧ i = .int .i64 (j : Int) ∧ Hid (Dm g a cap B wr 0 0 0) ∧ Hid (Gb g W wr) ∧ Hid (wr.heap[mb]? = some (.cells #[.int .u8 66, .int .u8 82, .int .u8 84, .int .u8 1] 5 (0, 0))) ∧ Hid (hqD B (mg4.drop j) j = res) ∧ j ≤ B.length) (fun i _ => 4 - (intOf i).toNat)
  case atStart => exact ⟨0, by omega, rfl, HR, HG0, HM, HRES, Nat.zero_le _⟩
  case round =>
    obtain ⟨j, hj, rfl, HRJ, HGB, HMJ, HE, hjb⟩ := hrel
    by_cases hlt : j < 4
    · have g1 : (j : Int) < 4 := by omega
      have g2 : (0 : Int) ≤ (j : Int) := by omega
      have he := HE.out
      rw [mg4_step B j hlt] at he
      have c0 : wr.cell? ⟨g, 0, none⟩ = some (.slice a B.length cap) := cell_of_row _ _ 0 _ _ _ HRJ.out.box
      have c1 : wr.cell? ⟨g, 1, none⟩ = some (.int .i64 0) := cell_of_row _ _ 1 _ _ _ HRJ.out.box
      by_cases hkl : j < B.length
      · rw [if_pos hkl] at he
        obtain ⟨b, off, hae, hrow⟩ : ∃ b off, a = some ⟨b, off, none⟩ ∧ ∀ i, i < B.length → wr.cell? ⟨b, off + i, none⟩ = some (.int .u8 (iv (B.getD i 0))) := by
          rcases HRJ.out.row with h0 | ⟨b, off, e, h1⟩
          · omega
          · exact ⟨b, off, e, h1⟩
        subst hae
        have y0 := hrow j hkl
        have y1 := mg4_cell HMJ.out j hlt
        obtain ⟨n0, hn0⟩ : ∃ n, n = (B.getD j 0).toNat := ⟨_, rfl⟩
        obtain ⟨n1, hn1⟩ : ∃ n, n = (mg4.getD j 0).toNat := ⟨_, rfl⟩
        unfold iv at y0 y1
        rw [← hn0] at y0 he
        rw [← hn1] at y1 he
        have a1 : ¬ (B.length : Int) ≤ (j : Int) := by omega
        have a2 : (j : Int) < (B.length : Int) := by omega
        clear hrow hn0 hn1 hkl
        by_cases hq : n0 = n1
        · rw [if_pos hq] at he
          have HE3 := hid he
          have e1 : ((n0 : Int) != (n1 : Int)) = false := by rw [hq]; simp
          have e2 : ((n0 : Int) == (n1 : Int)) = true := by rw [hq]; simp
          have hj2 : j + 1 ≤ B.length := by omega
          clear he
          subst hq
          go_upto_region 6 with fail
          go_quiet (fail)
          have HD := hid (drew_below wr nq)
          have HR2 := hid (HRJ.out.low' HD.out)
          have HG2 := hid (HGB.out.trans (Gb.of HD.out))
          have HM2 := hid ((HD.out.block _ (lt_blk HMJ.out)).trans HMJ.out)
          generalize wr.drewN nq = V at *
          clear c0 c1 y0 y1
          go_wp2_with fail
          exact ⟨⟨j + 1, by omega, by go_num, HR2, HG2, HM2, HE3, hj2⟩, by simp [intOf]; omega⟩
        · rw [if_neg hq] at he
          have HE3 := hid he.symm
          have e1 : ((n0 : Int) != (n1 : Int)) = true := by simp; omega
          have e2 : ((n0 : Int) == (n1 : Int)) = false := by simp; omega
          clear he
          go_upto_region 6 with fail
          go_quiet (fail)
          have HD := hid (drew_below wr nq)
          have HR3 := hid (HRJ.out.low' HD.out)
          have HG3 := hid (HGB.out.trans (Gb.of HD.out))
          generalize wr.drewN nq = V at *
          clear c0 c1 y0 y1
          have HFA := hid (dfail_any HR3.out 200 j)
          go_wp2_with fail
          refine HFA.out.mono ?_
          rintro e w2 ⟨rfl, h1, h2⟩
          have HR4 := hid h1
          have HG4 := hid (HG3.out.trans h2)
          clear h1 h2 HFA
          go_wp2_with fail
          go_end0
          rw [HE3.out]
          exact ⟨_, _, rfl, rfl, by decide, HR4.out, HG4.out⟩
      · rw [if_neg hkl] at he
        have HE3 := hid he.symm
        have a1 : (B.length : Int) ≤ (j : Int) := by omega
        have HR3 := HRJ
        have HG3 := HGB
        clear he hkl
        have HFA := hid (dfail_any HR3.out 201 j)
        go_wp2_with fail
        refine HFA.out.mono ?_
        rintro e w2 ⟨rfl, h1, h2⟩
        have HR4 := hid h1
        have HG4 := hid (HG3.out.trans h2)
        clear h1 h2 HFA
        go_wp2_with fail
        go_end0
        rw [HE3.out]
        exact ⟨_, _, rfl, rfl, by decide, HR4.out, HG4.out⟩
    · obtain rfl : j = 4 := by omega
      have HE3 := hid (show res = .ok ((), 4) from HE.out.symm)
      have c1 : wr.cell? ⟨g, 1, none⟩ = some (.int .i64 0) := cell_of_row _ _ 1 _ _ _ HRJ.out.box
      have f1 : wr.frozen? ⟨g, 1, none⟩ = false := frz_row HRJ.out.box 1
      have HG2 := hid (gb_set HRJ.out.box 1 (.int .i64 4))
      have HB2 := hid (show (wr.setCell ⟨g, 1, none⟩ (.int .i64 4)).heap[g]? = some (.cells #[.slice a B.length cap, .int .i64 ((4 : Nat) : Int), .int .i64 ((0 : Nat) : Int), .int .i64 ((0 : Nat) : Int)] 73 (0, 0)) from by
        rw [setCell_eq_setRow _ _ _ _ _ _ _ HRJ.out.box, setRow_heap _ _ _ _ _ _ HRJ.out.box]; rfl)
      have HR3 := hid (HRJ.out.go HG2.out HB2.out hjb)
      have HG3 := hid (HGB.out.trans HG2.out)
      go_wp2_with fail
      go_end0
      rw [HE3.out]
      exact ⟨_, rfl, rfl, HR3.out, HG3.out⟩
end Go.Proofs.Ytnclpdgbjefpmaa.L
