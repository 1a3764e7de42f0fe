import Derived.Test.YtdnoagebcolgbabDoorX3
import Derived.Laws.IdiomStrings
import Derived.Laws.BytesArg
import Derived.WideShapes
namespace Go.Proofs.YtdnoagebcolgbabDoor.L
open Go.RowKit Go.Shelf
set_option linter.unusedVariables false
/-- A row of bytes of one's own. -/
abbrev OwnB (w : World) (base : Nat) (v : Value) (l : List UInt8) : Prop := w.ownsRow base 5 1 v l.length (Lib.byteCells l)
theorem byteCells_eq (l : List UInt8) : Lib.byteCells l = l.map (fun b => Value.int .u8 (iv b)) := rfl
theorem ownb_form {w : World} {base : Nat} {v : Value} {l : List UInt8} (h : OwnB w base v l) : ∃ a cap, v = .slice a l.length cap := by
  rcases h.2 with ⟨e, n0⟩ | ⟨g, cap, cur, e, _⟩
  · exact ⟨none, 0, by rw [e, n0]⟩
  · exact ⟨_, _, e⟩
theorem ownb_block {w : World} {base : Nat} {v : Value} {l : List UInt8} (h : OwnB w base v l) : ∀ k, v.ownBlock = some k → base ≤ k := by
  intro k e
  rcases h.2 with ⟨e', _⟩ | ⟨g, cap, cur, e', hb, _⟩
  · rw [e'] at e; cases e
  · rw [e'] at e; cases e; exact hb
theorem conv_own {w : World} {base : Nat} {v : Value} {l : List UInt8} (h : OwnB w base v l) : (convert 91 9 v).run Tryd.prog w = .ok (.string ⟨l.toArray⟩) w := by
  rcases h.2 with ⟨rfl, n0⟩ | ⟨g, cap, cur, rfl, hb, hg, h1, h2, h3, h4⟩
  · have : l = [] := List.eq_nil_of_length_eq_zero n0
    subst this
    exact run_convert_bytes_nil (P := Tryd.prog) w 91 5 Tryd.underlying91 Tryd.underlying5 0 0 9 Tryd.underlying9
  · refine run_convert_bytes_back (P := Tryd.prog) w 91 9 5 ⟨g, 0, none⟩ cap l Tryd.underlying91 Tryd.underlying5 Tryd.underlying9 ?_
    intro j hj
    have hlen : (Lib.byteCells l)[j]? = some (.int .u8 (l[j].toNat : Int)) := by
      rw [byteCells_eq, List.getElem?_map, List.getElem?_eq_getElem hj]
      rfl
    rw [← h4, List.getElem?_take_of_lt (by omega)] at hlen
    rw [Go.WideShapes.add_plain, cell_of_row w g (0 + j) _ _ _ hg]
    simpa using hlen
theorem ownb_new (w : World) : OwnB (w.alloc (.cells #[] 5)) w.heap.size (.slice (some ⟨w.heap.size, 0, none⟩) 0 0) [] := World.ownsRow_made w #[] 0 (Nat.le_refl _) (Nat.zero_le _) rfl
theorem cell_one_new (w : World) (a : Value) (t : TypeId) : ∀ (j : Nat) (u : Value), [a][j]? = some u → (w.alloc (.cells #[a] t)).cell? ((⟨w.heap.size, 0, none⟩ : Addr).add j) = some u := by
  intro j u h
  rw [Go.WideShapes.add_plain]
  rw [cell_of_row (w.alloc (.cells #[a] t)) w.heap.size (0 + j) _ _ _ (heap_alloc_new w _)]
  simpa using h
theorem infoB : (Tryd.prog.info? 5).map (fun i => (i.zero, i.size, i.bytes)) = some (some (.int .u8 0), 1, 1) := by kernel_rfl
theorem iv_inj {a b : UInt8} (h : iv a = iv b) : a = b := by
  apply UInt8.toNat_inj.1
  unfold iv at h
  omega
theorem ne_iv {a : UInt8} {n : UInt8} (h : a ≠ n) : (iv a == iv n) = false := by
  simp
  intro e
  exact h (iv_inj e)
end Go.Proofs.YtdnoagebcolgbabDoor.L
