import Derived.Test.YtdnoagebcolgbabDoorX1
import Derived.Test.YtdnoagebcolgbabDoorLayB
import Derived.Shelf.Strings.BuilderF
namespace Go.Proofs.YtdnoagebcolgbabDoor.L
open Go.RowKit Go.Shelf
set_option linter.unusedVariables false
theorem bx166 : Builder.Extra Tryd.prog lays166_ren := { sizeBuilder := by kernel_rfl, liesBuilder := by kernel_rfl, t5 := Tryd.underlying5, a5 := Tryd.isAgg5, z5 := Tryd.sizeOf5, v5 := Tryd.zeroValue5, infoByte := by kernel_rfl, cellsByte := by kernel_rfl, sizeByte := by kernel_rfl, neB5 := by decide }
theorem bx167 : Builder.Extra Tryd.prog lays167_ren := { sizeBuilder := by kernel_rfl, liesBuilder := by kernel_rfl, t5 := Tryd.underlying5, a5 := Tryd.isAgg5, z5 := Tryd.sizeOf5, v5 := Tryd.zeroValue5, infoByte := by kernel_rfl, cellsByte := by kernel_rfl, sizeByte := by kernel_rfl, neB5 := by decide }
theorem bx169 : Builder.Extra Tryd.prog lays169_ren := { sizeBuilder := by kernel_rfl, liesBuilder := by kernel_rfl, t5 := Tryd.underlying5, a5 := Tryd.isAgg5, z5 := Tryd.sizeOf5, v5 := Tryd.zeroValue5, infoByte := by kernel_rfl, cellsByte := by kernel_rfl, sizeByte := by kernel_rfl, neB5 := by decide }
/-- A builder that holds these bytes. -/
def Bld (B b : Nat) (l : List UInt8) (w : World) : Prop := Lib.IsBuilderF 93 5 B b (Lib.byteCells l) w
theorem byteCells_app (a b : List UInt8) : Lib.byteCells (a ++ b) = Lib.byteCells a ++ Lib.byteCells b := by
  unfold Lib.byteCells
  simp
theorem byteCells_len (a : List UInt8) : (Lib.byteCells a).length = a.length := by
  unfold Lib.byteCells
  simp
theorem strCells_eq (s : ByteArray) : Lib.strCells s = Lib.byteCells s.data.toList := by
  rfl
theorem wbyte_any (B b : Nat) (l : List UInt8) (c : UInt8) (w : World) (h : Bld B b l w) (hl : l.length ≤ 8000000) (hB : B ≤ w.heap.size) :
    Calls Tryd.prog 50 #[.pointer (some ⟨b, 0, none⟩), .int .u8 (iv c)] w fun e w' => e = .returned .nilIface ∧ Bld B b (l ++ [c]) w' ∧ Below B w w' ∧ Lib.OthersKept 5 (some b) w w' := by
  refine (show Calls Tryd.prog 50 _ _ _ from Any.Builder_WriteByte_k lays167 bx167 B b (Lib.byteCells l) (iv c) w h (by rw [byteCells_len]; omega) hB).mono ?_
  rintro e w' ⟨rfl, hb, h1, h2⟩
  refine ⟨rfl, ?_, h1, h2⟩
  unfold Bld
  rw [byteCells_app]
  exact Or.inr hb
theorem wstr_any (B b : Nat) (l : List UInt8) (s : ByteArray) (w : World) (h : Bld B b l w) (hl : l.length ≤ 8000000) (hs : s.size ≤ 8000000) (hB : B ≤ w.heap.size) :
    Calls Tryd.prog 48 #[.pointer (some ⟨b, 0, none⟩), .string s] w fun e w' => e = .returned (.tuple #[.int .i64 s.size, .nilIface]) ∧ Bld B b (l ++ s.data.toList) w' ∧ Below B w w' ∧ Lib.OthersKept 5 (some b) w w' := by
  refine (show Calls Tryd.prog 48 _ _ _ from Any.Builder_WriteString_k lays166 bx166 B b (Lib.byteCells l) s w h (by rw [byteCells_len]; omega) hB).mono ?_
  rintro e w' ⟨rfl, hb, h1, h2⟩
  refine ⟨rfl, ?_, h1, h2⟩
  unfold Bld
  rw [byteCells_app, ← strCells_eq]
  exact Or.inr hb
theorem bstr_any (B b : Nat) (l : List UInt8) (w : World) (h : Bld B b l w) (hB : B ≤ w.heap.size) :
    Calls Tryd.prog 49 #[.pointer (some ⟨b, 0, none⟩)] w fun e w' => e = .returned (.string ⟨l.toArray⟩) ∧ Below B w w' := by
  refine (show Calls Tryd.prog 49 _ _ _ from Any.Builder_String_any_k lays169 bx169 B b l w h hB).mono ?_
  rintro e w' ⟨rfl, _, h1, _⟩
  exact ⟨rfl, h1⟩
theorem bld_alloc {B b : Nat} {l : List UInt8} {w : World} (h : Bld B b l w) (o : Obj) : Bld B b l (w.alloc o) := Lib.IsBuilderF.alloc h o
theorem bld_drew {B b : Nat} {l : List UInt8} {w : World} (h : Bld B b l w) (n : Nat) : Bld B b l (w.drewN n) := by
  unfold Bld Lib.IsBuilderF at h ⊢
  rcases h with ⟨a, v, x, y, z⟩ | ⟨a, v, x, y, z⟩
  · exact Or.inl ⟨a, v, x, y, z⟩
  · exact Or.inr ⟨a, v, x, y, z⟩
/-- A builder just laid. -/
theorem bld_new (w : World) : Bld w.heap.size w.heap.size [] (w.alloc (.cells #[.pointer none, .slice none 0 0] 93)) := Lib.IsBuilderF.of (Lib.fresh_isBuilder 93 5 w)
end Go.Proofs.YtdnoagebcolgbabDoor.L
