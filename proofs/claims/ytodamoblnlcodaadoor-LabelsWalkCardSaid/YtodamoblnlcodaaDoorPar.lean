import Derived.Test.YtodamoblnlcodaaDoorMak
import Derived.Laws.ResultCell
namespace Go.Proofs.YtodamoblnlcodaaDoor.L
open Go.RowKit
set_option linter.unusedVariables false
theorem below_undrew {B : Nat} {a w : World} (h : Below B a.drew w) : Below B a w := ⟨h.os, h.tape, h.output, h.size, h.block⟩
theorem below_set {B : Nat} {a w : World} (h : Below B a w) (b o : Nat) (v : Value) (hb : B ≤ b) : Below B a (w.setCell ⟨b, o, none⟩ v) := by
  rw [Go.Sort.setCell_eq]
  refine ⟨h.os, h.tape, h.output, ?_, fun k hk => ?_⟩
  · show a.heap.size ≤ (w.heap.modify b _).size
    simpa using h.size
  · show (w.heap.modify b _)[k]? = _
    rw [Array.getElem?_modify, if_neg (by omega)]
    exact h.block k hk
/-- Two boxes, one behind the other. -/
structure Box (W : World) (b : Nat) (x y k v : Value) : Prop where
  c1 : W.cell? ⟨b + 1, 0, none⟩ = some k
  c2 : W.cell? ⟨b + 1, 1, none⟩ = some v
  c3 : W.cell? ⟨b, 0, none⟩ = some x
  c4 : W.cell? ⟨b, 1, none⟩ = some y
  c5 : W.frozen? ⟨b, 0, none⟩ = false
  c6 : W.frozen? ⟨b, 1, none⟩ = false
theorem two_box (w : World) (n : Nat) (x y k v : Value) (t t' : TypeId) : Box (((w.alloc (.cells #[x, y] t)).drewN n).alloc (.cells #[k, v] t')) w.heap.size x y k v := by
  have h1 : (((w.alloc (.cells #[x, y] t)).drewN n).alloc (.cells #[k, v] t')).heap[w.heap.size + 1]? = some (.cells #[k, v] t') := by
    show ((w.heap.push _).push _)[w.heap.size + 1]? = _
    rw [Array.getElem?_push, if_pos (by simp)]
  have h2 : (((w.alloc (.cells #[x, y] t)).drewN n).alloc (.cells #[k, v] t')).heap[w.heap.size]? = some (.cells #[x, y] t) := by
    show ((w.heap.push _).push _)[w.heap.size]? = _
    rw [Array.getElem?_push, if_neg (by simp)]
    simp
  refine ⟨?_, ?_, ?_, ?_, ?_, ?_⟩
  · unfold World.cell?; rw [h1]; rfl
  · unfold World.cell?; rw [h1]; rfl
  · unfold World.cell?; rw [h2]; rfl
  · unfold World.cell?; rw [h2]; rfl
  · unfold World.frozen?; rw [h2]; rfl
  · unfold World.frozen?; rw [h2]; rfl
theorem Box.low {W W' : World} {b : Nat} {x y k v : Value} (h : Box W b x y k v) (hb : Below W.heap.size W W') (hz : b + 1 < W.heap.size) : Box W' b x y k v := by
  obtain ⟨a1, a2, a3, a4, a5, a6⟩ := h
  refine ⟨?_, ?_, ?_, ?_, ?_, ?_⟩
  · exact (hb.cell (p := ⟨b + 1, 0, none⟩) hz).trans a1
  · exact (hb.cell (p := ⟨b + 1, 1, none⟩) hz).trans a2
  · exact (hb.cell (p := ⟨b, 0, none⟩) (Nat.lt_of_succ_lt hz)).trans a3
  · exact (hb.cell (p := ⟨b, 1, none⟩) (Nat.lt_of_succ_lt hz)).trans a4
  · unfold World.frozen? at *; rw [hb.block b (Nat.lt_of_succ_lt hz)]; exact a5
  · unfold World.frozen? at *; rw [hb.block b (Nat.lt_of_succ_lt hz)]; exact a6
/-- An item of a text: its key, its value, its fault. -/
def itK (x : ByteArray) : ByteArray := if idx x 61 = -1 then ⟨#[]⟩ else x.extract 0 (idx x 61).toNat
def itV (x : ByteArray) : ByteArray := if idx x 61 = -1 then ⟨#[]⟩ else x.extract ((idx x 61).toNat + 1) x.size
def itE (x : ByteArray) : Int := if idx x 61 = -1 then 35 else labE (itK x) (itV x)
theorem it_size (x : ByteArray) : (itK x).size ≤ x.size ∧ (itV x).size ≤ x.size := by
  unfold itK itV
  split
  · exact ⟨Nat.zero_le _, Nat.zero_le _⟩
  · rw [ByteArray.size_extract, ByteArray.size_extract]
    omega
set_option maxHeartbeats 4000000 in
theorem item_any (x : ByteArray) (w : World) (hs : x.size ≤ maxLen) : Calls Tryd.prog 22 #[.string x] w fun e w' => e = .returned (.tuple #[.agg #[.string (itK x), .string (itV x)], .int .i64 (itE x)]) ∧ Below w.heap.size w w' := by
  rcases idx_cases x 61 with h | ⟨i, h, hi⟩
  · have e1 : itK x = ⟨#[]⟩ := by unfold itK; rw [if_pos h]
    have e2 : itV x = ⟨#[]⟩ := by unfold itV; rw [if_pos h]
    have e3 : itE x = 35 := by unfold itE; rw [if_pos h]
    rw [e1, e2, e3]
    have HC := hid (fun W => cut_no x 61 W h)
    clear h e1 e2 e3
    go_enter Tryd.func22, Tryd.ntmps22
    go_wp2_with fail
    refine (HC.out _).mono ?_
    rintro e w1 ⟨rfl, hww⟩; subst hww
    go_wp2_with fail
    (try simp only [Exit.inBlock, Exit.then])
    refine bodyPost_ret (v := .tuple #[.agg #[.string ⟨#[]⟩, .string ⟨#[]⟩], .int .i64 35]) ?_ rfl ⟨rfl, belowA _ _⟩
    rw [results_cell_tmp rfl]
    go_simp
  · have e1 : itK x = x.extract 0 i := by unfold itK; rw [h, if_neg (by omega)]; rfl
    have e2 : itV x = x.extract (i + 1) x.size := by unfold itV; rw [h, if_neg (by omega)]; rfl
    have e3 : itE x = labE (itK x) (itV x) := by unfold itE; rw [h, if_neg (by omega)]
    have z := it_size x
    have HL := hid (fun W => label_any (itK x) (itV x) W (by omega) (by omega))
    have HC := hid (fun W => cut_yes x 61 i W hs h hi)
    rw [e3]
    rw [← e1, ← e2] at HC
    generalize itK x = k at *
    generalize itV x = v at *
    generalize labE k v = er at *
    clear h e1 e2 e3
    go_enter Tryd.func22, Tryd.ntmps22
    go_wp2_with fail
    refine (HC.out _).mono ?_
    rintro e w1 ⟨rfl, n, hww⟩; subst hww
    go_wp2_with fail
    have B0 := hid (show Below w.heap.size w (((w.alloc (.cells #[.string ⟨#[]⟩, .string ⟨#[]⟩] 27)).drewN n).alloc (.cells #[.string k, .string v] 27)) from (below_drewN (belowA _ _) n).alloc (by simp) _)
    have hz : w.heap.size + 1 < (((w.alloc (.cells #[.string ⟨#[]⟩, .string ⟨#[]⟩] 27)).drewN n).alloc (.cells #[.string k, .string v] 27)).heap.size := by simp
    have C0 := two_box w n (.string ⟨#[]⟩) (.string ⟨#[]⟩) (.string k) (.string v) 27 27
    generalize (((w.alloc (.cells #[.string ⟨#[]⟩, .string ⟨#[]⟩] 27)).drewN n).alloc (.cells #[.string k, .string v] 27)) = W0 at *
    have HC0 := hid C0
    have t1 : W0.drew.cell? ⟨w.heap.size + 1, 0, none⟩ = some (.string k) := C0.c1
    have t2 : W0.drew.cell? ⟨w.heap.size + 1, 1, none⟩ = some (.string v) := C0.c2
    have t3 := C0.c3
    have t4 := C0.c4
    have t5 := C0.c5
    have t6 := C0.c6
    clear C0
    go_region_held3 (fun W => W.cell? ⟨w.heap.size + 1, 0, none⟩ = some (.string k) ∧ W.cell? ⟨w.heap.size + 1, 1, none⟩ = some (.string v))
      (first | exact ⟨t1, t2⟩ | exact ⟨s1, s2⟩ | go_keep)
      (first | (go_at_call 31; refine (HL.out _).mono ?_; rintro e w2 ⟨rfl, hb2⟩; have BX : Box w2 w.heap.size (.string ⟨#[]⟩) (.string ⟨#[]⟩) (.string k) (.string v) := HC0.out.low (below_undrew hb2) hz; have s1 : w2.cell? ⟨w.heap.size + 1, 0, none⟩ = some (.string k) := BX.c1; have s2 : w2.cell? ⟨w.heap.size + 1, 1, none⟩ = some (.string v) := BX.c2; have s3 : w2.cell? ⟨w.heap.size, 0, none⟩ = some (.string ⟨#[]⟩) := BX.c3; have s4 : w2.cell? ⟨w.heap.size, 1, none⟩ = some (.string ⟨#[]⟩) := BX.c4; have s5 : w2.frozen? ⟨w.heap.size, 0, none⟩ = false := BX.c5; have s6 : w2.frozen? ⟨w.heap.size, 1, none⟩ = false := BX.c6; have D2 := hid hb2; clear hb2 BX))
    have HB3 := hid (below_set (below_set (B0.out.trans ((below_undrew D2.out).mono B0.out.size)) w.heap.size 0 (.string k) (Nat.le_refl _)) w.heap.size 1 (.string v) (Nat.le_refl _))
    go_wp2_with fail
    (try simp only [Exit.inBlock, Exit.then])
    refine bodyPost_ret (v := .tuple #[.agg #[.string k, .string v], .int .i64 er]) ?_ rfl ⟨rfl, HB3.out⟩
    rw [results_cell_tmp rfl]
    go_simp
end Go.Proofs.YtodamoblnlcodaaDoor.L
