import Derived.Test.YtppblibcbjpfnaaDoorRow
import Derived.Test.YtppblibcbjpfnaaDoorProg
namespace Go.Proofs.YtppblibcbjpfnaaDoor.L
open Go.RowKit
set_option linter.unusedVariables false
/-- A taint: key, value, effect. -/
abbrev Tn := ByteArray × ByteArray × ByteArray
def tf (x : Tn) : Nat → ByteArray
  | 0 => x.1
  | 1 => x.2.1
  | _ => x.2.2
/-- A toleration: key, op, value, effect. -/
abbrev To := ByteArray × ByteArray × ByteArray × ByteArray
def ofn (x : To) : Nat → ByteArray
  | 0 => x.1
  | 1 => x.2.1
  | 2 => x.2.2.1
  | _ => x.2.2.2
theorem infoT : (Tryd.prog.info? 23).map (fun i => (i.zero, i.size, i.bytes)) = some (some (.agg #[.string ByteArray.empty, .string ByteArray.empty, .string ByteArray.empty]), 3, 48) := by kernel_rfl
theorem infoO : (Tryd.prog.info? 25).map (fun i => (i.zero, i.size, i.bytes)) = some (some (.agg #[.string ByteArray.empty, .string ByteArray.empty, .string ByteArray.empty, .string ByteArray.empty]), 4, 64) := by kernel_rfl
abbrev CameT := CameG (α := Tn) 3 tf
abbrev CameO := CameG (α := To) 4 ofn
abbrev OwnT := OwnG (α := Tn) 23 3 tf
abbrev OwnO := OwnG (α := To) 25 4 ofn
abbrev GoodT := GoodG (α := Tn) 3 tf
abbrev GoodO := GoodG (α := To) 4 ofn
theorem bytes_toList (s : ByteArray) : s.toList = s.data.toList := by
  exact ByteArray.toList_eq s
theorem bytes_ext {s t : ByteArray} (h : s.toList = t.toList) : s = t := by
  rw [bytes_toList, bytes_toList] at h
  cases s; cases t
  simp at h
  rw [h]
def eqS (s t : ByteArray) : Bool := s.toList == t.toList
theorem eqS_iff {s t : ByteArray} : eqS s t = true ↔ s = t := by
  unfold eqS
  constructor
  · intro h
    exact bytes_ext (by simpa using h)
  · rintro rfl
    simp
theorem eqS_ne {s t : ByteArray} : eqS s t = false ↔ s ≠ t := by
  cases e : eqS s t
  · simp
    intro h
    rw [eqS_iff.2 h] at e
    cases e
  · simp
    exact eqS_iff.1 e
end Go.Proofs.YtppblibcbjpfnaaDoor.L
