import Derived.Test.YtnclpdgbjefpmaaEx
namespace Go.Proofs.Ytnclpdgbjefpmaa.L
open Go.RowKit
set_option linter.unusedVariables false
set_option linter.unusedSimpArgs false
theorem sgnC_P (B : List UInt8) (k : Nat) : sgnC.P B k = dbnd (cntD B k 0 2000000000000000000 9 0 k 0) fun n k1 => .ok (unz n, k1) := rfl
theorem cntD_le {B : List UInt8} {k lo hi n k' : Nat} (h : cntD B k lo hi 9 0 k 0 = .ok (n, k')) : lo ≤ n ∧ n ≤ hi := by
  obtain ⟨u, _, _, _, h1, h2, _⟩ := cnt_bwd 9 0 k 0 n k' h
  exact ⟨h1, h2⟩
set_option maxHeartbeats 1000000 in
set_option maxRecDepth 100000 in
theorem rsigned_any {g : Nat} {a : Option Addr} {cap : Nat} {B : List UInt8} {W : World} {k room : Nat} (h : Rm g a cap B W k room) :
    Calls Try.prog 78 #[.pointer (some ⟨g, 0, none⟩)] W (Ro (α := Int) g a cap B (fun _ => room) (fun (z : Int) v _ => v = .int .i64 z) (sgnC.P B k) W) := by
  have HC := hid (rcount_any h 0 2000000000000000000 (by decide) (by decide))
  rw [sgnC_P]
  obtain ⟨r, hr⟩ : ∃ r, r = cntD B k 0 2000000000000000000 9 0 k 0 := ⟨_, rfl⟩
  rw [← hr] at HC ⊢
  cases r with
  | error x =>
    obtain ⟨c, p⟩ := x
    clear hr h
    go_enter Try.func78, Try.ntmps78
    go_wp2_with fail
    refine HC.out.mono ?_
    rintro e w1 ⟨N, rfl, h1, h2⟩
    have HF := hid h1
    have HGB := hid h2
    clear h1 h2
    go_wp2_with fail
    exact ⟨rfl, N, rfl, HF.out, HGB.out⟩
  | ok x =>
    obtain ⟨n, k1⟩ := x
    have hle := (cntD_le hr.symm).2
    clear hr h
    have e1 := tmodN n 2
    have e2 := tdivN n 2
    show Calls _ _ _ _ (Ro (α := Int) g a cap B (fun _ => room) (fun (z : Int) v _ => v = .int .i64 z) (.ok (unz n, k1)) W)
    by_cases hod : n % 2 = 1
    · have e3 : (n : Int) % 2 = 1 := by omega
      have HU := hid (show unz n = (-(((n + 1) / 2 : Nat) : Int)) from by unfold unz; rw [if_pos hod])
      clear hod
      go_enter Try.func78, Try.ntmps78
      go_wp2_with fail
      refine HC.out.mono ?_
      rintro e w1 ⟨v, rfl, rfl, h1, h2⟩
      have HR1 := hid h1
      have HGB := hid h2
      clear h1 h2
      go_wp2_with fail
      go_ret
      exact ⟨_, rfl, congrArg (Value.int .i64) (show wrap64 (-((n : Int) + 1).tdiv 2) = unz n from by rw [HU.out, show ((n : Int) + 1).tdiv 2 = (((n + 1) / 2 : Nat) : Int) from tdivN (n + 1) 2]; unfold wrap64; omega), HR1.out, HGB.out⟩
    · have e3 : (n : Int) % 2 = 0 := by omega
      have HU := hid (show unz n = ((n / 2 : Nat) : Int) from by unfold unz; rw [if_neg hod])
      clear hod
      go_enter Try.func78, Try.ntmps78
      go_wp2_with fail
      refine HC.out.mono ?_
      rintro e w1 ⟨v, rfl, rfl, h1, h2⟩
      have HR1 := hid h1
      have HGB := hid h2
      clear h1 h2
      go_wp2_with fail
      go_ret
      exact ⟨_, rfl, by rw [HU.out]; first | rfl | simp, HR1.out, HGB.out⟩
set_option maxHeartbeats 1000000 in
set_option maxRecDepth 100000 in
theorem rpool_any {g : Nat} {a : Option Addr} {cap : Nat} {B : List UInt8} {W : World} {k room : Nat} (h : Rm g a cap B W k room) :
    Calls Try.prog 75 #[.pointer (some ⟨g, 0, none⟩)] W (Ro (α := Nat) g a cap B (fun n => room - n) (fun (n : Nat) v _ => v = .int .i64 (n : Int)) (cntD B k 0 room 9 0 k 0) W) := by
  have hrm := h.rm
  have HC := hid (rcount_any h 0 room (by omega) (by decide))
  have c2 : W.cell? ⟨g, 2, none⟩ = some (.int .i64 (room : Int)) := cell_of_row _ _ 2 _ _ _ h.box
  obtain ⟨r, hr⟩ : ∃ r, r = cntD B k 0 room 9 0 k 0 := ⟨_, rfl⟩
  rw [← hr] at HC ⊢
  cases r with
  | error x =>
    obtain ⟨c, p⟩ := x
    clear hr h
    go_enter Try.func75, Try.ntmps75
    go_wp2_with fail
    refine HC.out.mono ?_
    rintro e w1 ⟨N, rfl, h1, h2⟩
    have HF := hid h1
    have HGB := hid h2
    clear h1 h2
    go_wp2_with fail
    exact ⟨rfl, N, rfl, HF.out, HGB.out⟩
  | ok x =>
    obtain ⟨n, k1⟩ := x
    have hle := (cntD_le hr.symm).2
    clear hr h
    go_enter Try.func75, Try.ntmps75
    go_wp2_with fail
    refine HC.out.mono ?_
    rintro e w1 ⟨v, rfl, rfl, h1, h2⟩
    have HR1 := hid h1
    have c2 : w1.cell? ⟨g, 2, none⟩ = some (.int .i64 (room : Int)) := cell_of_row _ _ 2 _ _ _ h1.box
    have f2 : w1.frozen? ⟨g, 2, none⟩ = false := frz_row h1.box 2
    have HG2 := hid (gb_set h1.box 2 (.int .i64 ((room : Int) - (n : Int))))
    have HB2 := hid (show (w1.setCell ⟨g, 2, none⟩ (.int .i64 ((room : Int) - (n : Int)))).heap[g]? = some (.cells #[.slice a B.length cap, .int .i64 (k1 : Int), .int .i64 ((room - n : Nat) : Int)] 83 (0, 0)) from by
      rw [show ((room - n : Nat) : Int) = (room : Int) - (n : Int) by omega, setCell_eq_setRow _ _ _ _ _ _ _ h1.box, setRow_heap _ _ _ _ _ _ h1.box]; rfl)
    have HR2 := hid (h1.go HG2.out HB2.out h1.le (by omega))
    have HGB := hid (Gb.trans h2 HG2.out)
    clear h1 h2
    go_wp2_with fail
    go_ret
    exact ⟨_, rfl, rfl, HR2.out, HGB.out⟩
end Go.Proofs.Ytnclpdgbjefpmaa.L
