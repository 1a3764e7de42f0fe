import Derived.Test.YtdhjoimiejdgbaaDoorSfx
import Derived.Test.YtdhjoimiejdgbaaDoorDec
import Derived.Test.YtdhjoimiejdgbaaDoorLayN
namespace Go.Proofs.YtdhjoimiejdgbaaDoor.L
open Go.RowKit Go.Sort Bs Go.Maps
set_option linter.unusedVariables false
theorem below_grow (w : World) (k : Nat) (os : Array Obj) : Below w.heap.size w (grow (w.drewN k) os) := by
  refine ⟨rfl, rfl, rfl, ?_, fun j hj => ?_⟩
  · show w.heap.size ≤ (w.heap ++ os).size
    simp
  · show (w.heap ++ os)[j]? = _
    rw [Array.getElem?_append_left hj]
def tx (n : Int) : ByteArray := ⟨(Lib.itoa n).toArray⟩
/-- The powers of ten of strconv. -/
def Pw (w : World) : Prop := Lib.TabIs Tryd.prog w "internal/strconv.uint64pow10" .u64 Lib.pow10Tab
theorem var_low {w w' : World} {name : String} {x : Array Value} (h : w.var? Tryd.prog name = some x) (hb : Below w.heap.size w w') : w'.var? Tryd.prog name = some x := by
  unfold World.var? at h ⊢
  cases e : Tryd.prog.globalNamed name with
  | none => rw [e] at h; cases h
  | some g =>
    rw [e] at h
    simp only [Option.bind_some] at h ⊢
    have hlt : g < w.heap.size := by
      apply Classical.byContradiction
      intro n
      rw [Array.getElem?_eq_none (by omega)] at h
      cases h
    rw [hb.block g hlt]
    exact h
theorem Pw.low {w w' : World} (h : Pw w) (hb : Below w.heap.size w w') : Pw w' := var_low h hb
theorem itoa_any (n : Int) (h0 : -9223372036854775808 ≤ n) (h1 : n ≤ 9223372036854775807) (w : World) (hv : Pw w) : Calls Tryd.prog 16 #[.int .i64 n] w fun e w' => e = .returned (.string (tx n)) ∧ Below w.heap.size w w' := by
  refine (show Calls Tryd.prog 16 _ _ _ from Any.strconv_Itoa laysM171 n h0 h1 w hv).mono ?_
  rintro e w' ⟨rfl, k, os, rfl⟩
  exact ⟨rfl, below_grow w k os⟩
theorem tx_size (n : Int) : (tx n).size = (Lib.itoa n).length := by
  show (Lib.itoa n).toArray.size = _
  simp
/-- The name of a number. -/
def nn (j : Nat) : ByteArray := ⟨#[110]⟩ ++ tx (j : Int)
theorem nn_list (j : Nat) : (nn j).data.toList = 110 :: Lib.itoa (j : Int) := by
  unfold nn tx
  simp [ByteArray.data_append]
theorem nn_size (j : Nat) : (nn j).size = (Lib.itoa (j : Int)).length + 1 := by
  show (nn j).data.size = _
  rw [← Array.length_toList, nn_list]
  simp
theorem nn_ok {j : Nat} (h : j < 200) : badB (nn j) = false ∧ (nn j).size ≤ 63 := by
  have h1 := (itoa_form (j : Int) (by omega) (by omega)).1
  have h2 := nn_size j
  refine ⟨?_, by omega⟩
  unfold badB
  rw [Bool.or_eq_false_iff, decide_eq_false_iff_not, decide_eq_false_iff_not]
  omega
theorem nn_inj {i j : Nat} (hi : i < 200) (hj : j < 200) (h : nn i = nn j) : i = j := by
  have e := congrArg (fun s : ByteArray => s.data.toList) h
  simp only [nn_list, List.cons.injEq, true_and] at e
  have a := atoi_itoa (i : Int) (by omega) (by omega)
  have b := atoi_itoa (j : Int) (by omega) (by omega)
  rw [e, b] at a
  injection a with a
  omega
/-- A full table's rows. -/
def fl (n : Nat) : List Rw := (List.range n).map fun j => (nn j, (j : Int))
theorem fl_succ (n : Nat) : fl (n + 1) = fl n ++ [(nn n, (n : Int))] := by unfold fl; rw [List.range_succ]; simp
theorem fl_len (n : Nat) : (fl n).length = n := by unfold fl; simp
theorem fl_get (n i : Nat) : (fl n)[i]? = if i < n then some (nn i, (i : Int)) else none := by
  unfold fl
  by_cases h : i < n
  · simp [h]
  · simp [h]
theorem fl_nm (n i : Nat) : nm (fl n) i = if i < n then nn i else ByteArray.empty := by
  unfold nm; rw [fl_get]; split <;> rfl
theorem nn_pos (j : Nat) : (nn j).size ≠ 0 := by rw [nn_size]; omega
theorem fl_isT (n i : Nat) : isT (fl n) i = decide (i < n) := by
  unfold isT; rw [fl_nm]
  by_cases h : i < n
  · simp only [h, if_true, decide_true]
    exact decide_eq_true (nn_pos i)
  · simp [h]
theorem fl_low (n : Nat) : low (fl n) = n := low_one (by rw [fl_isT]; simp) (fun j hj => by rw [fl_isT]; simpa using hj)
theorem fl_cnt : ∀ n, cnt (fl n) = n
  | 0 => rfl
  | n + 1 => by
    rw [fl_succ, cnt_app, fl_cnt n]
    have := nn_pos n
    simp [cnt, this]
theorem fl_wrt (n : Nat) : wrt (fl n) (low (fl n)) (nn n, (n : Int)) = fl (n + 1) := by
  unfold wrt
  rw [fl_low, fl_len, if_neg (by omega), fl_succ]
theorem fl_no {n m : Nat} (h : n ≤ m) (hm : m < 200) : NoN (fl n) (nn m) := fun i hi e => by
  rw [fl_isT] at hi
  have hi' : i < n := by simpa using hi
  rw [fl_nm, if_pos hi'] at e
  have := nn_inj (by omega) hm e
  omega
theorem fl_more (n : Nat) : NoN (fl n) ⟨#[109, 111, 114, 101]⟩ := fun i hi e => by
  rw [fl_isT] at hi
  have hi' : i < n := by simpa using hi
  rw [fl_nm, if_pos hi'] at e
  have e2 := congrArg (fun s : ByteArray => s.data.toList) e
  simp [nn_list] at e2
theorem fl_yes {n d : Nat} (h : d < n) : isT (fl n) d = true ∧ nm (fl n) d = nn d := ⟨by rw [fl_isT]; simpa using h, by rw [fl_nm, if_pos h]⟩
/-- The rows without one. -/
def fd (n d : Nat) : List Rw := trim ((fl n).set d (ByteArray.empty, 0))
theorem fd_isT {n d : Nat} (h : d < n) (j : Nat) : isT (fd n d) j = (decide (j < n) && !decide (j = d)) := by
  have nw := nm_drop (v := (0 : Int)) (fl_yes h).1 j
  unfold fd isT
  rw [nw]
  by_cases e : j = d
  · subst e; simp
  · rw [if_neg e]
    have := fl_isT n j
    unfold isT at this
    rw [this]; simp [e]
theorem fd_low {n d : Nat} (h : d < n) : low (fd n d) = d := low_one (by rw [fd_isT h]; simp) (fun j hj => by rw [fd_isT h]; simp; omega)
theorem fd_no {n d : Nat} (h : d < n) (hn : n ≤ 200) : NoN (fd n d) (nn d) := fun i hi e => by
  have nw := nm_drop (v := (0 : Int)) (fl_yes h).1 i
  have hi2 := hi
  rw [fd_isT h] at hi2
  simp at hi2
  have e2 : nm (fd n d) i = nn d := e
  unfold fd at e2
  rw [nw, if_neg hi2.2, fl_nm, if_pos hi2.1] at e2
  exact hi2.2 (nn_inj (by omega) (by omega) e2)
theorem fd_cnt {n d : Nat} (h : d < n) : cnt (fd n d) + 1 = n := by
  have := cnt_drop (v := (0 : Int)) (fl_yes h).1
  rw [fl_cnt] at this
  exact this
theorem fd_wrt {n d : Nat} (h : d < n) : wrt (fd n d) (low (fd n d)) (nn d, (d : Int)) = fl n := by
  have hle := low_le (fd n d)
  rw [fd_low h] at hle ⊢
  apply List.ext_getElem?
  intro j
  rw [get_wrt _ _ _ hle, fl_get]
  by_cases e : j = d
  · subst e; rw [if_pos rfl, if_pos h]
  · rw [if_neg e]
    by_cases hj : j < n
    · rw [if_pos hj]
      unfold fd
      rw [get_trim _ j ?_, List.getElem?_set_ne (fun c => e c.symm), fl_get, if_pos hj]
      have := fd_isT h j
      unfold fd at this
      rw [isT_trim] at this
      rw [this]; simp [hj, e]
    · rw [if_neg hj, List.getElem?_eq_none]
      unfold fd
      rw [len_trim]
      have := tl_le ((fl n).set d (ByteArray.empty, 0))
      rw [List.length_set, fl_len] at this
      omega
/-- What stands while the table is filled. -/
structure FI (w wr : World) (p m n : Nat) (F : List Nat) : Prop where
  tb : Tb wr p m (fl n) F
  fB : ∀ x ∈ F, w.heap.size ≤ x
  bl : Below w.heap.size w wr
theorem FI.low {w wr w2 : World} {p m n : Nat} {F : List Nat} (h : FI w wr p m n F) (hb : Below wr.heap.size wr w2) : FI w w2 p m n F := ⟨h.tb.low hb, h.fB, h.bl.trans (hb.mono h.bl.size)⟩
theorem FI.drewN {w wr : World} {p m n : Nat} {F : List Nat} (h : FI w wr p m n F) (k : Nat) : FI w (wr.drewN k) p m n F := ⟨h.tb.drewN k, h.fB, ⟨h.bl.os, h.bl.tape, h.bl.output, h.bl.size, h.bl.block⟩⟩
theorem FI.mv {w wr w2 : World} {p m n n2 : Nat} {F F2 : List Nat} (h : FI w wr p m n F) (ht : Tb w2 p m (fl n2) F2) (hm : Mv F F2 wr w2) : FI w w2 p m n2 F2 := ⟨ht, hm.above h.bl.size h.fB, h.bl.trans (hm.below h.bl.size h.fB)⟩
end Go.Proofs.YtdhjoimiejdgbaaDoor.L
