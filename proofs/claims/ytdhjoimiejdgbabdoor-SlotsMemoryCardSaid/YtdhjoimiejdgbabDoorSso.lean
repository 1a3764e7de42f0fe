import Derived.Test.YtdhjoimiejdgbabDoorStb
import Derived.Test.YtdhjoimiejdgbabDoorLayO
import Derived.Sort.OwnSorted
namespace Go.Proofs.YtdhjoimiejdgbabDoor.L
open Go.RowKit Go.Sort
set_option linter.unusedVariables false
/-- Texts, sorted by their bytes. -/
def srtL (ss : List (List UInt8)) : List (List UInt8) := ss.mergeSort fun x y => decide (x ≤ y)
def lsB (ss : List ByteArray) : List (List UInt8) := ss.map fun s => s.data.toList
def bsL (ss : List (List UInt8)) : List ByteArray := ss.map fun b => ⟨b.toArray⟩
def srt (ss : List ByteArray) : List ByteArray := bsL (srtL (lsB ss))
theorem srt_len (ss : List ByteArray) : (srt ss).length = ss.length := by unfold srt bsL srtL lsB; simp
theorem enc_str (ss : List ByteArray) : (lsB ss).map encStr = ss.map Value.string := by
  unfold lsB
  rw [List.map_map]
  apply List.map_congr_left
  intro s hs
  simp [encStr]
theorem enc_bs (ts : List (List UInt8)) : ts.map encStr = (bsL ts).map Value.string := by
  unfold bsL
  rw [List.map_map]
  apply List.map_congr_left
  intro s hs
  simp [encStr]
theorem sort_own (g cap base : Nat) (ss : List ByteArray) (w : World) (h : w.ownsRow base 9 1 (.slice (some ⟨g, 0, none⟩) ss.length cap) ss.length (ss.map Value.string)) (hl : ss.length ≤ 65536) :
    Calls Tryd.prog 25 #[.slice (some ⟨g, 0, none⟩) ss.length cap] w fun e w' => e = .returned (.tuple #[]) ∧ w'.ownsRow base 9 1 (.slice (some ⟨g, 0, none⟩) ss.length cap) ss.length ((srt ss).map Value.string) ∧ w.grownBy w' (some g) := by
  rcases h.2 with ⟨e, _⟩ | ⟨g', cap', cur, e, hbase, hb, h1, h2, h3, h4⟩
  · cases e
  injection e with e1 _ e3
  injection e1 with e1
  injection e1 with e1 _ _
  subst e1 e3
  have hlen : (lsB ss).length = ss.length := by unfold lsB; simp
  have hH := holds_of_block (ss := lsB ss) hb (by rw [hlen, enc_str]; simpa using h4)
  have hcon := AnyM.slices_Sort_string sortS g 0 cap (lsB ss) w hH (lt_of_block hb) (by rw [hlen]; omega)
  rw [hlen] at hcon
  refine (show Calls Tryd.prog 25 _ _ _ from hcon).mono ?_
  rintro e w' ⟨rfl, n, os, rfl⟩
  refine ⟨rfl, ?_, grownBy_sorted _⟩
  have := ownsRow_sorted (ss := lsB ss) (ts := srtL (lsB ss)) (n := n) (os := os) (by unfold srtL; simp) hbase hb (by rw [hlen]; exact h1) h2 h3
  rw [hlen, enc_bs] at this
  exact this
end Go.Proofs.YtdhjoimiejdgbabDoor.L
