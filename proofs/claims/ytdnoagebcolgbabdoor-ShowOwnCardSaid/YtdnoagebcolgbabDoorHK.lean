import Derived.Test.YtdnoagebcolgbabDoorHI
import Derived.Test.YtdnoagebcolgbabDoorLayJ
namespace Go.Proofs.YtdnoagebcolgbabDoor.L
open Go.RowKit Go.Shelf
set_option linter.unusedVariables false
theorem bx156 : Builder.Extra Tryd.prog lays156_ren := { sizeBuilder := by kernel_rfl, liesBuilder := by kernel_rfl, t5 := Tryd.underlying5, a5 := Tryd.isAgg5, z5 := Tryd.sizeOf5, v5 := Tryd.zeroValue5, infoByte := by kernel_rfl, cellsByte := by kernel_rfl, sizeByte := by kernel_rfl, neB5 := by decide }
theorem join_nt (bk : Nat) (w : World) (h0 : w.cell? ⟨bk, 0, none⟩ = some (.string ⟨#[33]⟩)) (h1 : w.cell? ⟨bk, 1, none⟩ = some (.string ⟨#[116, 114, 117, 101]⟩)) (hb : bk < w.heap.size) :
    Calls Tryd.prog 33 #[.slice (some ⟨bk, 0, none⟩) 2 2, .string ⟨#[]⟩] w fun e w' => e = .returned (.string ⟨#[33, 116, 114, 117, 101]⟩) ∧ Below w.heap.size w w' := by
  refine (Any.strings_Join lays156 bx156 bk 0 2 [⟨#[33]⟩, ⟨#[116, 114, 117, 101]⟩] ⟨#[]⟩ w ?_ hb (by decide) (by decide) (by decide)).mono ?_
  · intro j x hx
    match j, hx with
    | 0, hx => cases hx; exact h0
    | 1, hx => cases hx; exact h1
  · rintro e w' ⟨he, hl⟩
    exact ⟨he, hl⟩
set_option maxHeartbeats 4000000 in
theorem write_nt (bk : Nat) (w : World) (h0 : w.cell? ⟨bk, 0, none⟩ = some (.string ⟨#[33]⟩)) (h1 : w.cell? ⟨bk, 1, none⟩ = some (.string ⟨#[116, 114, 117, 101]⟩)) (hb : bk < w.heap.size) :
    Calls Tryd.prog 32 #[.slice (some ⟨bk, 0, none⟩) 2 2] w fun e w' => e = .returned (.string ⟨#[33, 116, 114, 117, 101]⟩) ∧ Below w.heap.size w w' := by
  have HJ := hid (join_nt bk w h0 h1 hb)
  clear h0 h1
  go_enter Tryd.func32, Tryd.ntmps32
  go_wp2_with (go_at_call 33; refine HJ.out.mono ?_; rintro e w1 ⟨rfl, l1⟩; have L1 := hid l1; clear l1)
  go_ret
  exact ⟨rfl, L1.out⟩
set_option maxHeartbeats 4000000 in
set_option maxRecDepth 100000 in
theorem ctext_true (tx : ByteArray) (nu : Int) (kv : Value) (sl : Value) (w : World) :
    Calls Tryd.prog 22 #[.agg #[.int .i64 1, .string tx, .int .i64 nu, kv], sl] w fun e w' => e = .returned (.string ⟨#[116, 114, 117, 101]⟩) ∧ Below w.heap.size w w' := by
  have HB := hid (belowA w (.cells #[.int .i64 1, .string tx, .int .i64 nu, kv] 33))
  go_enter Tryd.func22, Tryd.ntmps22
  go_wp2_with fail
  go_ret
  exact ⟨rfl, HB.out⟩
set_option maxHeartbeats 4000000 in
set_option maxRecDepth 100000 in
theorem ctext_not (tx : ByteArray) (nu : Int) (kv : Value) (g : Nat) (w : World) (hg : g < w.heap.size) (hc : w.cell? ⟨g, 0, none⟩ = some (.string ⟨#[116, 114, 117, 101]⟩)) :
    Calls Tryd.prog 22 #[.agg #[.int .i64 3, .string tx, .int .i64 nu, kv], .slice (some ⟨g, 0, none⟩) 1 1] w fun e w' => e = .returned (.string ⟨#[33, 116, 114, 117, 101]⟩) ∧ Below w.heap.size w w' := by
  have HB := hid (belowA w (.cells #[.int .i64 3, .string tx, .int .i64 nu, kv] 33))
  have HC := hid hc
  have HGL := hid hg
  go_enter Tryd.func22, Tryd.ntmps22
  go_upto_region 1 with (fail)
  have xc := (HB.out.cell (p := ⟨g, 0, none⟩) HGL.out).trans HC.out
  have x0 := (cells4 (heap_alloc_new w (.cells #[.int .i64 3, .string tx, .int .i64 nu, kv] 33))).1
  clear hg hc
  generalize hX : w.alloc (.cells #[.int .i64 3, .string tx, .int .i64 nu, kv] 33) = X at *
  clear hX
  have HBX := hid (belowA X (.cells #[.string ⟨#[33]⟩, .string ⟨#[116, 114, 117, 101]⟩] 9))
  have HW := hid (write_nt X.heap.size (X.alloc (.cells #[.string ⟨#[33]⟩, .string ⟨#[116, 114, 117, 101]⟩] 9)) (cell_of_row _ _ 0 _ _ _ (heap_alloc_new X _)) (cell_of_row _ _ 1 _ _ _ (heap_alloc_new X _)) (by simp))
  go_wp2_with (go_at_call 32; refine HW.out.mono ?_; rintro e w1 ⟨rfl, l1⟩; have L1 := hid l1; clear l1)
  go_ret
  exact ⟨rfl, (HB.out.trans (HBX.out.mono HB.out.size)).trans (L1.out.mono (Nat.le_trans HB.out.size HBX.out.size))⟩
end Go.Proofs.YtdnoagebcolgbabDoor.L
