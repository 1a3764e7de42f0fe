import Derived.Test.YtnldagpbmphdhabDoorPtd
import Derived.Test.YtnldagpbmphdhabDoorChk
namespace Go.Proofs.YtnldagpbmphdhabDoor.L
open Go.RowKit
set_option linter.unusedVariables false
theorem val_nil : valB ByteArray.empty = true := by decide +kernel
theorem key_full {s : ByteArray} (h : keyB s = true) : Op.bytesLess ByteArray.empty.toList s.toList = true := by
  have e : s ≠ ByteArray.empty := fun e => by
    rw [e] at h
    exact absurd h (by decide +kernel)
  have e0 : ByteArray.empty.toList = [] := by decide +kernel
  rw [e0]
  cases hs : s.toList with
  | nil => exact absurd (bytes_ext (by rw [hs, e0])) e
  | cons x l => rfl
theorem df_good {a b : List Lb} (oa : OkL a) (ob : OkL b) : ∀ d ∈ df a b, keyB d.k = true ∧ valB d.o = true ∧ valB d.n = true := by
  intro d hd
  have hS := df_says _ a b (Nat.le_refl _) oa.up ob.up
  have F := fine_of hS hd
  have one : ∀ {l : List Lb} (ol : OkL l) {v : ByteArray} {h : Bool}, getN l d.k = (v, h) → (h = false → v = ByteArray.empty) → valB v = true := by
    intro l ol v h e hn
    cases h with
    | false => rw [hn rfl]; exact val_nil
    | true =>
      have := (get_yes (l := l) (s := d.k) (by rw [e])).2
      rw [e] at this
      exact (lab_ok (ol.lab _ this)).2
  refine ⟨?_, one oa (hS.old d hd) F.noOld, one ob (hS.new d hd) F.noNew⟩
  rcases df_key _ a b (Nat.le_refl _) d hd with ⟨z, hz, e⟩ | ⟨z, hz, e⟩
  · rw [← e]; exact (lab_ok (oa.lab z hz)).1
  · rw [← e]; exact (lab_ok (ob.lab z hz)).1
end Go.Proofs.YtnldagpbmphdhabDoor.L
