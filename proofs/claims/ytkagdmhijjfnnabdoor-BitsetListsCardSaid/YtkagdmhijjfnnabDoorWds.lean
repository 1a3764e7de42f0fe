import Derived.Test.YtkagdmhijjfnnabDoorCted
import Derived.Test.YtkagdmhijjfnnabDoorKern
namespace Go.Proofs.YtkagdmhijjfnnabDoor
open Go.RowKit Bs
/-- A slice of words, as it lies. -/
structure WSlice (w : World) (v : Value) (g cap : Nat) (us : List Nat) : Prop where
  hv : v = .slice (some ⟨g, 0, none⟩) us.length cap
  hg : g < w.heap.size
  hc : ∀ j, j < us.length → w.cell? ⟨g, j, none⟩ = some (.int .u64 ((us.getD j 0 : Nat) : Int))
theorem WSlice.low {w w' : World} {v : Value} {g cap : Nat} {us : List Nat} (h : WSlice w v g cap us) (k : Below w.heap.size w w') : WSlice w' v g cap us :=
  ⟨h.hv, Nat.lt_of_lt_of_le h.hg k.size, fun j hj => (k.cell (p := ⟨g, j, none⟩) h.hg).trans (h.hc j hj)⟩
theorem WSlice.src {w : World} {v : Value} {g cap : Nat} {us : List Nat} (h : WSlice w v g cap us) : ∀ j u, (vals us)[j]? = some u → w.cell? ((⟨g, 0, none⟩ : Addr).add j) = some u := by
  intro j u hu
  have hj : j < us.length := by
    have := (List.getElem?_eq_some_iff.1 hu).1
    rwa [length_vals] at this
  have e : ((⟨g, 0, none⟩ : Addr).add j) = ⟨g, j, none⟩ := by simp [Addr.add]; omega
  rw [e, h.hc j hj, ← hu]
  simp [vals, List.getElem?_eq_getElem hj]
theorem make_len (L : Nat) (hL : L ≤ 1024) (w : World) : Sem.run Tryd.prog (Instr.makeSlice 36 (.int .i64 (L : Int)) (.int .i64 (L : Int))) w =
    .ok (.slice (some ⟨w.heap.size, 0, none⟩) L L) (w.alloc (.cells (row (List.replicate L 0)) 56)) := by
  obtain ⟨i, h1, h2, h3, h4⟩ := info59
  have h := run_make (P := Tryd.prog) (w := w) 36 56 i _ Tryd.underlying36 h1 h2 .i64 .i64 (L : Int) (L : Int) (by omega) (by omega) (by rw [h4]; omega) (by omega)
  rw [h3, Int.toNat_natCast, Nat.mul_one, made_row] at h
  exact h
set_option maxRecDepth 100000 in
set_option maxHeartbeats 1000000 in
/-- Words. -/
theorem words_any (p q n : Nat) (ws : List Nat) (w : World) (h : IsSet w p q n ws) :
    Calls Tryd.prog 24 #[.pointer (some ⟨p, 0, none⟩)] w fun e w' => ∃ v, e = .returned v ∧ WSlice w' v w.heap.size ws.length ws ∧ Below w.heap.size w w' := by
  have hc1 := h.c1
  have hlen := h.len
  have HI := hid h
  have hmk := make_len ws.length h.len w
  have hb0 := lowAlloc w (.cells (row (List.replicate ws.length 0)) 56)
  have h2 := h.low hb0
  have hd1 := h2.c1
  have hrow : (w.alloc (.cells (row (List.replicate ws.length 0)) 56)).heap[w.heap.size]? = some (.cells (vals (List.replicate ws.length 0)).toArray 56 (0, 0)) := heap_alloc_new w _
  have H2 := hid h2
  have HB0 := hid hb0
  have HROW := hid hrow
  have HMIN := hid (show (vals ws).length = Nat.min ws.length ws.length by rw [length_vals]; exact (Nat.min_self _).symm)
  clear h hb0 h2 hrow
  go_enter Tryd.func24, Tryd.ntmps24
  go_wp2_with fail
  refine (list_cell p _ _ _ _ hc1).mono ?_
  rintro e w1 ⟨rfl, hww⟩
  subst hww
  go_wp2_with fail
  refine (list_cell p _ _ _ _ hd1).mono ?_
  rintro e w2 ⟨rfl, hww⟩
  rw [hww]
  clear hww
  go_wp2_with (refine wpList_copy_splice rfl (.tmp 8) (.tmp 10) 36 36 rfl 56 Tryd.underlying36 (by kernel_rfl) (some ⟨w1.heap.size, 0, none⟩) (some ⟨q, 0, none⟩) ws.length ws.length ws.length ws.length rfl rfl w1.heap.size 0 (vals (List.replicate ws.length 0)) 56 HROW.out (vals ws) HMIN.out (fun _ => ⟨rfl, _, rfl, H2.out.src⟩) (by simp [length_vals]) (one_vals ws) w1.heap.size w1 HB0.out (Nat.le_refl _) ?_; intro w4 hg4 hb4)
  go_ret
  have e4 := hg4.out
  rw [splice_wid] at e4
  have ew : widW ws.length ws = ws := by unfold widW; simp
  rw [ew] at e4
  refine ⟨_, rfl, ⟨rfl, lt_of_block e4, fun j hj => ?_⟩, hb4⟩
  rw [cell_of_row w4 _ j _ _ _ e4]
  exact row_get ws j hj
end Go.Proofs.YtkagdmhijjfnnabDoor
