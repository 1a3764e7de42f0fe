import Derived.Test.YtlhlpamciafocaaGreatDoorSxF
import Derived.Lib.ItoaLen
namespace Go.Proofs.YtlhlpamciafocaaGreatDoor.L
open Go.RowKit
set_option linter.unusedVariables false
set_option linter.unusedSimpArgs false
/-- What Error writes ahead of a number. -/
def beT : ByteArray := ⟨#[98, 101, 114, 116, 104, 58, 32, 101, 114, 114, 111, 114, 32]⟩
def atT : ByteArray := ⟨#[32, 97, 116, 32]⟩
theorem S_itoa_size (n : Int) (h0 : -999999999999999999 ≤ n) (h1 : n ≤ 999999999999999999) : (S (Lib.itoa n)).size ≤ 21 := by
  rw [S_size]
  exact Lib.itoa_length_le n (by omega) (by omega)
set_option maxHeartbeats 4000000 in
theorem errno_any (c : Nat) (hc : c ≤ 1000) (w : World) (ht : Sw.TabW w) : Calls Tryz.prog 163 #[.int .i64 (c : Int)] w fun e w' => e = .returned (.string (beT ++ S (Lib.itoa c))) ∧ Below w.heap.size w w' := by
  have HI := hid (Sw.itoa_any (c : Int) (by omega) (by omega) w ht)
  have hz := S_itoa_size (c : Int) (by omega) (by omega)
  generalize S (Lib.itoa (c : Int)) = R at *
  have hm : R.size + 13 ≤ maxLen := by unfold maxLen; omega
  unfold maxLen at hm
  go_enter Tryz.func163, Tryz.ntmps163
  go_wp2_with fail
  refine HI.out.mono ?_
  rintro e W1 ⟨rfl, l1⟩
  go_wp2_with fail
  go_ret
  exact ⟨rfl, l1⟩
/-- The text of a fault that has a place. -/
def fltT (c i : Nat) : ByteArray := (beT ++ S (Lib.itoa c)) ++ (atT ++ S (Lib.itoa i))
set_option maxHeartbeats 4000000 in
set_option maxRecDepth 100000 in
theorem faulterr_any (N c i : Nat) (hc : c ≤ 1000) (hi : i ≤ 1000000) (w : World) (h : Sw.Flt w N c i) (ht : Sw.TabW w) : Calls Tryz.prog 164 #[.pointer (some ⟨N, 0, none⟩)] w fun e w' => e = .returned (.string (fltT c i)) ∧ Below w.heap.size w w' := by
  have HT := hid ht
  have HF := hid h
  have HE := hid (errno_any c hc w ht)
  have z1 : (beT ++ S (Lib.itoa c)).size ≤ 40 := by
    have := S_itoa_size (c : Int) (by omega) (by omega)
    rw [ByteArray.size_append]
    have : beT.size = 13 := rfl
    omega
  have z2 := S_itoa_size (i : Int) (by omega) (by omega)
  have HR := hid (show fltT c i = (beT ++ S (Lib.itoa c)) ++ (atT ++ S (Lib.itoa i)) from rfl)
  generalize fltT c i = R at *
  generalize beT ++ S (Lib.itoa (c : Int)) = A at *
  have HI := hid (fun W ht => Sw.itoa_any (i : Int) (by omega) (by omega) W ht)
  generalize S (Lib.itoa (i : Int)) = B at *
  have y0 : w.cell? ⟨N, 0, none⟩ = some (.int .i64 (c : Int)) := cell_of_row _ _ 0 _ _ _ h
  clear h ht
  have g0 : (0 : Int) ≤ (i : Int) := by omega
  go_enter Tryz.func164, Tryz.ntmps164
  go_wp2_with fail
  refine HE.out.mono ?_
  rintro e W1 ⟨rfl, l1⟩
  have HF1 := hid (HF.out.low l1)
  have HL1 := hid l1
  have HT1 := hid (HT.out.low l1)
  clear l1 y0 HE
  have y0 : W1.cell? ⟨N, 0, none⟩ = some (.int .i64 (c : Int)) := cell_of_row _ _ 0 _ _ _ HF1.out
  have y1 : W1.cell? ⟨N, 1, none⟩ = some (.int .i64 (i : Int)) := cell_of_row _ _ 1 _ _ _ HF1.out
  have y2 : W1.cell? ⟨N, 2, none⟩ = some (.string ⟨#[]⟩) := cell_of_row _ _ 2 _ _ _ HF1.out
  have y3 : W1.cell? ⟨N, 3, none⟩ = some .nilIface := cell_of_row _ _ 3 _ _ _ HF1.out
  go_wp2_with fail
  refine (HI.out W1 HT1.out).mono ?_
  rintro e W2 ⟨rfl, l2⟩
  have HF2 := hid (HF1.out.low l2)
  have HL2 := hid (Sw.bch HL1.out l2)
  clear l2 y0 y1 y2 y3
  have y2 : W2.cell? ⟨N, 2, none⟩ = some (.string ⟨#[]⟩) := cell_of_row _ _ 2 _ _ _ HF2.out
  have y3 : W2.cell? ⟨N, 3, none⟩ = some .nilIface := cell_of_row _ _ 3 _ _ _ HF2.out
  go_wp2_with fail
  go_ret
  exact ⟨by rw [HR.out]; rfl, HL2.out⟩
end Go.Proofs.YtlhlpamciafocaaGreatDoor.L
