import Derived.Shelf.Strings.OnBuilder
import Derived.Test.YtdnoagebcolgbaaDoorProg
import Derived.Test.YtdnoagebcolgbaaDoorHJ
namespace Go.Proofs.YtdnoagebcolgbaaDoor
open Go.Shelf
def lays156_ren : Go.Shelf.Ren := ⟨fun | 156 => 49 | 165 => 63 | 166 => 64 | 169 => 65 | 240 => 71 | 241 => 72 | 276 => 75 | 277 => 76 | n => n, fun | 31 => 62 | 9 => 9 | 3 => 3 | 4 => 4 | 0 => 0 | 20 => 20 | 72 => 103 | 76 => 34 | 70 => 101 | 37 => 97 | 75 => 30 | 127 => 112 | 164 => 115 | 5 => 5 | 80 => 106 | n => n, fun | n => n⟩
theorem lays156 : Go.Proofs.Lays.n156 Tryd.prog lays156_ren := {
  mixed := by kernel_rfl
  f156 := Tryd.func49.trans (congrArg some (by kernel_rfl))
  f165 := Tryd.func63.trans (congrArg some (by kernel_rfl))
  f166 := Tryd.func64.trans (congrArg some (by kernel_rfl))
  f169 := Tryd.func65.trans (congrArg some (by kernel_rfl))
  f240 := Tryd.func71.trans (congrArg some (by kernel_rfl))
  f241 := Tryd.func72.trans (congrArg some (by kernel_rfl))
  f276 := Tryd.func75.trans (congrArg some (by kernel_rfl))
  f277 := Tryd.func76.trans (congrArg some (by kernel_rfl))
  t0 := Tryd.underlying0
  a0 := Tryd.isAgg0
  z0 := Tryd.sizeOf0
  v0 := Tryd.zeroValue0
  t3 := Tryd.underlying3
  a3 := Tryd.isAgg3
  z3 := Tryd.sizeOf3
  v3 := Tryd.zeroValue3
  t4 := Tryd.underlying4
  a4 := Tryd.isAgg4
  z4 := Tryd.sizeOf4
  v4 := Tryd.zeroValue4
  t9 := Tryd.underlying9
  a9 := Tryd.isAgg9
  z9 := Tryd.sizeOf9
  v9 := Tryd.zeroValue9
  t20 := Tryd.underlying20
  a20 := Tryd.isAgg20
  z20 := Tryd.sizeOf20
  v20 := Tryd.zeroValue20
  t31 := Tryd.underlying62
  a31 := Tryd.isAgg62
  z31 := Tryd.sizeOf62
  v31 := Tryd.zeroValue62
  t37 := Tryd.underlying97
  a37 := Tryd.isAgg97
  z37 := Tryd.sizeOf97
  v37 := Tryd.zeroValue97
  t70 := Tryd.underlying101
  a70 := Tryd.isAgg101
  z70 := Tryd.sizeOf101
  v70 := Tryd.zeroValue101
  t72 := Tryd.underlying103
  a72 := Tryd.isAgg103
  z72 := Tryd.sizeOf103
  v72 := Tryd.zeroValue103
  t75 := Tryd.underlying30
  a75 := Tryd.isAgg30
  z75 := Tryd.sizeOf30
  v75 := Tryd.zeroValue30
  t76 := Tryd.underlying34
  a76 := Tryd.isAgg34
  z76 := Tryd.sizeOf34
  v76 := Tryd.zeroValue34
  t127 := Tryd.underlying112
  a127 := Tryd.isAgg112
  z127 := Tryd.sizeOf112
  v127 := Tryd.zeroValue112
  t164 := Tryd.underlying115
  a164 := Tryd.isAgg115
  z164 := Tryd.sizeOf115
  v164 := Tryd.zeroValue115 }
end Go.Proofs.YtdnoagebcolgbaaDoor
namespace Go.Proofs.YtdnoagebcolgbaaDoor.L
open Go.RowKit Go.Shelf
set_option linter.unusedVariables false
theorem bx156 : Builder.Extra Tryd.prog lays156_ren := { sizeBuilder := by kernel_rfl, liesBuilder := by kernel_rfl, t5 := Tryd.underlying5, a5 := Tryd.isAgg5, z5 := Tryd.sizeOf5, v5 := Tryd.zeroValue5, infoByte := by kernel_rfl, cellsByte := by kernel_rfl, sizeByte := by kernel_rfl, neB5 := by decide }
theorem join_nt (bk : Nat) (w : World) (h0 : w.cell? ⟨bk, 0, none⟩ = some (.string ⟨#[33]⟩)) (h1 : w.cell? ⟨bk, 1, none⟩ = some (.string ⟨#[116, 114, 117, 101]⟩)) (hb : bk < w.heap.size) :
    Calls Tryd.prog 49 #[.slice (some ⟨bk, 0, none⟩) 2 2, .string ⟨#[]⟩] w fun e w' => e = .returned (.string ⟨#[33, 116, 114, 117, 101]⟩) ∧ Below w.heap.size w w' := by
  refine (Any.strings_Join lays156 bx156 bk 0 2 [⟨#[33]⟩, ⟨#[116, 114, 117, 101]⟩] ⟨#[]⟩ w ?_ hb (by decide) (by decide) (by decide)).mono ?_
  · intro j x hx
    match j, hx with
    | 0, hx => cases hx; exact h0
    | 1, hx => cases hx; exact h1
  · rintro e w' ⟨he, hl⟩
    exact ⟨he, hl⟩
set_option maxHeartbeats 4000000 in
theorem write_nt (bk : Nat) (w : World) (h0 : w.cell? ⟨bk, 0, none⟩ = some (.string ⟨#[33]⟩)) (h1 : w.cell? ⟨bk, 1, none⟩ = some (.string ⟨#[116, 114, 117, 101]⟩)) (hb : bk < w.heap.size) :
    Calls Tryd.prog 48 #[.slice (some ⟨bk, 0, none⟩) 2 2] w fun e w' => e = .returned (.string ⟨#[33, 116, 114, 117, 101]⟩) ∧ Below w.heap.size w w' := by
  have HJ := hid (join_nt bk w h0 h1 hb)
  clear h0 h1
  go_enter Tryd.func48, Tryd.ntmps48
  go_wp2_with (go_at_call 49; refine HJ.out.mono ?_; rintro e w1 ⟨rfl, l1⟩; have L1 := hid l1; clear l1)
  go_ret
  exact ⟨rfl, L1.out⟩
set_option maxHeartbeats 4000000 in
set_option maxRecDepth 100000 in
theorem ctext_true (tx : ByteArray) (nu : Int) (kv : Value) (sl : Value) (w : World) :
    Calls Tryd.prog 34 #[.agg #[.int .i64 1, .string tx, .int .i64 nu, kv], sl] w fun e w' => e = .returned (.string ⟨#[116, 114, 117, 101]⟩) ∧ Below w.heap.size w w' := by
  have HB := hid (belowA w (.cells #[.int .i64 1, .string tx, .int .i64 nu, kv] 45))
  go_enter Tryd.func34, Tryd.ntmps34
  go_wp2_with fail
  go_ret
  exact ⟨rfl, HB.out⟩
set_option maxHeartbeats 4000000 in
set_option maxRecDepth 100000 in
theorem ctext_not (tx : ByteArray) (nu : Int) (kv : Value) (g : Nat) (w : World) (hg : g < w.heap.size) (hc : w.cell? ⟨g, 0, none⟩ = some (.string ⟨#[116, 114, 117, 101]⟩)) :
    Calls Tryd.prog 34 #[.agg #[.int .i64 3, .string tx, .int .i64 nu, kv], .slice (some ⟨g, 0, none⟩) 1 1] w fun e w' => e = .returned (.string ⟨#[33, 116, 114, 117, 101]⟩) ∧ Below w.heap.size w w' := by
  have HB := hid (belowA w (.cells #[.int .i64 3, .string tx, .int .i64 nu, kv] 45))
  have HC := hid hc
  have HGL := hid hg
  go_enter Tryd.func34, Tryd.ntmps34
  go_upto_region 1 with (fail)
  have xc := (HB.out.cell (p := ⟨g, 0, none⟩) HGL.out).trans HC.out
  have x0 := (cells4 (heap_alloc_new w (.cells #[.int .i64 3, .string tx, .int .i64 nu, kv] 45))).1
  clear hg hc
  generalize hX : w.alloc (.cells #[.int .i64 3, .string tx, .int .i64 nu, kv] 45) = X at *
  clear hX
  have HBX := hid (belowA X (.cells #[.string ⟨#[33]⟩, .string ⟨#[116, 114, 117, 101]⟩] 9))
  have HW := hid (write_nt X.heap.size (X.alloc (.cells #[.string ⟨#[33]⟩, .string ⟨#[116, 114, 117, 101]⟩] 9)) (cell_of_row _ _ 0 _ _ _ (heap_alloc_new X _)) (cell_of_row _ _ 1 _ _ _ (heap_alloc_new X _)) (by simp))
  go_wp2_with (go_at_call 48; refine HW.out.mono ?_; rintro e w1 ⟨rfl, l1⟩; have L1 := hid l1; clear l1)
  go_ret
  exact ⟨rfl, (HB.out.trans (HBX.out.mono HB.out.size)).trans (L1.out.mono (Nat.le_trans HB.out.size HBX.out.size))⟩
end Go.Proofs.YtdnoagebcolgbaaDoor.L
