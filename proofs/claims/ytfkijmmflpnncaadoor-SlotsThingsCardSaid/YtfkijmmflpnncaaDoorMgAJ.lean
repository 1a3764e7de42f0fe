import Derived.Test.YtfkijmmflpnncaaDoorMgAD
import Derived.Test.YtfkijmmflpnncaaDoorMgAI
import Derived.Test.YtfkijmmflpnncaaDoorRel
namespace Go.Proofs.YtfkijmmflpnncaaDoor.L
open Go.RowKit Go.Sort Bs Go.Maps
set_option linter.unusedVariables false
theorem below_grow (w : World) (k : Nat) (os : Array Obj) : Below w.heap.size w (grow (w.drewN k) os) := by
  refine ⟨rfl, rfl, rfl, ?_, fun j hj => ?_⟩
  · show w.heap.size ≤ (w.heap ++ os).size
    simp
  · show (w.heap ++ os)[j]? = _
    rw [Array.getElem?_append_left hj]
def tx (n : Int) : ByteArray := ⟨(Lib.itoa n).toArray⟩
/-- The powers of ten of strconv. -/
def Pw (w : World) : Prop := Lib.TabIs Tryd.prog w "internal/strconv.uint64pow10" .u64 Lib.pow10Tab
theorem var_low {w w' : World} {name : String} {x : Array Value} (h : w.var? Tryd.prog name = some x) (hb : Below w.heap.size w w') : w'.var? Tryd.prog name = some x := by
  unfold World.var? at h ⊢
  cases e : Tryd.prog.globalNamed name with
  | none => rw [e] at h; cases h
  | some g =>
    rw [e] at h
    simp only [Option.bind_some] at h ⊢
    have hlt : g < w.heap.size := by
      apply Classical.byContradiction
      intro n
      rw [Array.getElem?_eq_none (by omega)] at h
      cases h
    rw [hb.block g hlt]
    exact h
theorem Pw.low {w w' : World} (h : Pw w) (hb : Below w.heap.size w w') : Pw w' := var_low h hb
theorem itoa_any (n : Int) (h0 : -9223372036854775808 ≤ n) (h1 : n ≤ 9223372036854775807) (w : World) (hv : Pw w) : Calls Tryd.prog 8 #[.int .i64 n] w fun e w' => e = .returned (.string (tx n)) ∧ Below w.heap.size w w' := by
  refine (show Calls Tryd.prog 8 _ _ _ from Any.strconv_Itoa laysM171 n h0 h1 w hv).mono ?_
  rintro e w' ⟨rfl, k, os, rfl⟩
  exact ⟨rfl, below_grow w k os⟩
theorem tx_size (n : Int) : (tx n).size = (Lib.itoa n).length := by
  show (Lib.itoa n).toArray.size = _
  simp
/-- The name of a number. -/
def nn (j : Nat) : ByteArray := ⟨#[110]⟩ ++ tx (j : Int)
theorem nn_list (j : Nat) : (nn j).data.toList = 110 :: Lib.itoa (j : Int) := by
  unfold nn tx
  simp [ByteArray.data_append]
theorem nn_size (j : Nat) : (nn j).size = (Lib.itoa (j : Int)).length + 1 := by
  show (nn j).data.size = _
  rw [← Array.length_toList, nn_list]
  simp
theorem nn_ok {j : Nat} (h : j < 200) : badB (nn j) = false ∧ (nn j).size ≤ 63 := by
  have h1 := (itoa_form (j : Int) (by omega) (by omega)).1
  have h2 := nn_size j
  refine ⟨?_, by omega⟩
  unfold badB
  rw [Bool.or_eq_false_iff, decide_eq_false_iff_not, decide_eq_false_iff_not]
  omega
theorem nn_inj {i j : Nat} (hi : i < 200) (hj : j < 200) (h : nn i = nn j) : i = j := by
  have e := congrArg (fun s : ByteArray => s.data.toList) h
  simp only [nn_list, List.cons.injEq, true_and] at e
  have a := atoi_itoa (i : Int) (by omega) (by omega)
  have b := atoi_itoa (j : Int) (by omega) (by omega)
  rw [e, b] at a
  injection a with a
  omega
/-- A full table's rows. -/
def fl (n : Nat) : List Rw := (List.range n).map fun j => (nn j, (j : Int))
theorem fl_succ (n : Nat) : fl (n + 1) = fl n ++ [(nn n, (n : Int))] := by unfold fl; rw [List.range_succ]; simp
theorem fl_len (n : Nat) : (fl n).length = n := by unfold fl; simp
theorem fl_get (n i : Nat) : (fl n)[i]? = if i < n then some (nn i, (i : Int)) else none := by
  unfold fl
  by_cases h : i < n
  · simp [h]
  · simp [h]
theorem fl_nm (n i : Nat) : nm (fl n) i = if i < n then nn i else ByteArray.empty := by
  unfold nm; rw [fl_get]; split <;> rfl
theorem nn_pos (j : Nat) : (nn j).size ≠ 0 := by rw [nn_size]; omega
theorem fl_isT (n i : Nat) : isT (fl n) i = decide (i < n) := by
  unfold isT; rw [fl_nm]
  by_cases h : i < n
  · simp only [h, if_true, decide_true]
    exact decide_eq_true (nn_pos i)
  · simp [h]
theorem fl_low (n : Nat) : low (fl n) = n := low_one (by rw [fl_isT]; simp) (fun j hj => by rw [fl_isT]; simpa using hj)
theorem fl_cnt : ∀ n, cnt (fl n) = n
  | 0 => rfl
  | n + 1 => by
    rw [fl_succ, cnt_app, fl_cnt n]
    have := nn_pos n
    simp [cnt, this]
theorem fl_wrt (n : Nat) : wrt (fl n) (low (fl n)) (nn n, (n : Int)) = fl (n + 1) := by
  unfold wrt
  rw [fl_low, fl_len, if_neg (by omega), fl_succ]
theorem fl_no {n m : Nat} (h : n ≤ m) (hm : m < 200) : NoN (fl n) (nn m) := fun i hi e => by
  rw [fl_isT] at hi
  have hi' : i < n := by simpa using hi
  rw [fl_nm, if_pos hi'] at e
  have := nn_inj (by omega) hm e
  omega
theorem fl_more (n : Nat) : NoN (fl n) ⟨#[109, 111, 114, 101]⟩ := fun i hi e => by
  rw [fl_isT] at hi
  have hi' : i < n := by simpa using hi
  rw [fl_nm, if_pos hi'] at e
  have e2 := congrArg (fun s : ByteArray => s.data.toList) e
  simp [nn_list] at e2
theorem fl_yes {n d : Nat} (h : d < n) : isT (fl n) d = true ∧ nm (fl n) d = nn d := ⟨by rw [fl_isT]; simpa using h, by rw [fl_nm, if_pos h]⟩
/-- The rows without one. -/
def fd (n d : Nat) : List Rw := trim ((fl n).set d (ByteArray.empty, 0))
theorem fd_isT {n d : Nat} (h : d < n) (j : Nat) : isT (fd n d) j = (decide (j < n) && !decide (j = d)) := by
  have nw := nm_drop (v := (0 : Int)) (fl_yes h).1 j
  unfold fd isT
  rw [nw]
  by_cases e : j = d
  · subst e; simp
  · rw [if_neg e]
    have := fl_isT n j
    unfold isT at this
    rw [this]; simp [e]
theorem fd_low {n d : Nat} (h : d < n) : low (fd n d) = d := low_one (by rw [fd_isT h]; simp) (fun j hj => by rw [fd_isT h]; simp; omega)
theorem fd_no {n d : Nat} (h : d < n) (hn : n ≤ 200) : NoN (fd n d) (nn d) := fun i hi e => by
  have nw := nm_drop (v := (0 : Int)) (fl_yes h).1 i
  have hi2 := hi
  rw [fd_isT h] at hi2
  simp at hi2
  have e2 : nm (fd n d) i = nn d := e
  unfold fd at e2
  rw [nw, if_neg hi2.2, fl_nm, if_pos hi2.1] at e2
  exact hi2.2 (nn_inj (by omega) (by omega) e2)
theorem fd_cnt {n d : Nat} (h : d < n) : cnt (fd n d) + 1 = n := by
  have := cnt_drop (v := (0 : Int)) (fl_yes h).1
  rw [fl_cnt] at this
  exact this
theorem fd_wrt {n d : Nat} (h : d < n) : wrt (fd n d) (low (fd n d)) (nn d, (d : Int)) = fl n := by
  have hle := low_le (fd n d)
  rw [fd_low h] at hle ⊢
  apply List.ext_getElem?
  intro j
  rw [get_wrt _ _ _ hle, fl_get]
  by_cases e : j = d
  · subst e; rw [if_pos rfl, if_pos h]
  · rw [if_neg e]
    by_cases hj : j < n
    · rw [if_pos hj]
      unfold fd
      rw [get_trim _ j ?_, List.getElem?_set_ne (fun c => e c.symm), fl_get, if_pos hj]
      have := fd_isT h j
      unfold fd at this
      rw [isT_trim] at this
      rw [this]; simp [hj, e]
    · rw [if_neg hj, List.getElem?_eq_none]
      unfold fd
      rw [len_trim]
      have := tl_le ((fl n).set d (ByteArray.empty, 0))
      rw [List.length_set, fl_len] at this
      omega
/-- What stands while the table is filled. -/
structure FI (w wr : World) (p m n : Nat) (F : List Nat) : Prop where
  tb : Tb wr p m (fl n) F
  fB : ∀ x ∈ F, w.heap.size ≤ x
  bl : Below w.heap.size w wr
theorem FI.low {w wr w2 : World} {p m n : Nat} {F : List Nat} (h : FI w wr p m n F) (hb : Below wr.heap.size wr w2) : FI w w2 p m n F := ⟨h.tb.low hb, h.fB, h.bl.trans (hb.mono h.bl.size)⟩
theorem FI.drewN {w wr : World} {p m n : Nat} {F : List Nat} (h : FI w wr p m n F) (k : Nat) : FI w (wr.drewN k) p m n F := ⟨h.tb.drewN k, h.fB, ⟨h.bl.os, h.bl.tape, h.bl.output, h.bl.size, h.bl.block⟩⟩
theorem FI.mv {w wr w2 : World} {p m n n2 : Nat} {F F2 : List Nat} (h : FI w wr p m n F) (ht : Tb w2 p m (fl n2) F2) (hm : Mv F F2 wr w2) : FI w w2 p m n2 F2 := ⟨ht, hm.above h.bl.size h.fB, h.bl.trans (hm.below h.bl.size h.fB)⟩
end Go.Proofs.YtfkijmmflpnncaaDoor.L
namespace Go.Proofs.YtfkijmmflpnncaaDoor.L
open Go.RowKit Bs Go.Maps
set_option linter.unusedVariables false
section
variable {β : Type} (g : Int → β) (z : β)
/-- A row with a value of another type; a free one has the zero. -/
def rowM (x : ByteArray × Int) : ByteArray × β := if x.1.size = 0 then (x.1, z) else (x.1, g x.2)
def mp (l : List (ByteArray × Int)) : List (ByteArray × β) := l.map (rowM g z)
theorem rowM_1 (x : ByteArray × Int) : (rowM g z x).1 = x.1 := by unfold rowM; split <;> rfl
theorem mp_len (l : List (ByteArray × Int)) : (mp g z l).length = l.length := by simp [mp]
theorem nm_mp (l : List (ByteArray × Int)) (i : Nat) : nm (mp g z l) i = nm l i := by
  unfold nm mp
  rw [List.getElem?_map]
  cases l[i]? with
  | none => rfl
  | some x => simp [rowM_1]
theorem isT_mp (l : List (ByteArray × Int)) (i : Nat) : isT (mp g z l) i = isT l i := by unfold isT; rw [nm_mp]
theorem low_mp : ∀ l : List (ByteArray × Int), low (mp g z l) = low l
  | [] => rfl
  | x :: r => by
    show low (rowM g z x :: mp g z r) = _
    unfold low
    rw [rowM_1, low_mp r]
theorem cnt_mp : ∀ l : List (ByteArray × Int), cnt (mp g z l) = cnt l
  | [] => rfl
  | x :: r => by
    show cnt (rowM g z x :: mp g z r) = _
    unfold cnt
    rw [rowM_1, cnt_mp r]
theorem tl_mp : ∀ l : List (ByteArray × Int), tl (mp g z l) = tl l
  | [] => rfl
  | x :: r => by
    show tl (rowM g z x :: mp g z r) = _
    unfold tl
    rw [rowM_1, tl_mp r]
theorem set_mp (l : List (ByteArray × Int)) (i : Nat) (s : ByteArray) (v : Int) (hs : s.size ≠ 0) : (mp g z l).set i (s, g v) = mp g z (l.set i (s, v)) := by
  unfold mp
  rw [List.map_set]
  simp [rowM, hs]
theorem wrt_mp (l : List (ByteArray × Int)) (i : Nat) (s : ByteArray) (v : Int) (hs : s.size ≠ 0) : wrt (mp g z l) i (s, g v) = mp g z (wrt l i (s, v)) := by
  unfold wrt
  rw [mp_len]
  split
  · exact set_mp g z l i s v hs
  · unfold mp
    simp [rowM, hs]
theorem drop_mp (l : List (ByteArray × Int)) (i : Nat) : trim ((mp g z l).set i (ByteArray.empty, z)) = mp g z (trim (l.set i (ByteArray.empty, 0))) := by
  have e : (mp g z l).set i (ByteArray.empty, z) = mp g z (l.set i (ByteArray.empty, 0)) := by
    unfold mp
    rw [List.map_set]
    simp [rowM]
  rw [e]
  unfold trim
  rw [tl_mp]
  unfold mp
  rw [List.map_take]
theorem get_mp (l : List (ByteArray × Int)) (i : Nat) (h : isT l i = true) : (mp g z l)[i]? = some (nm l i, g (vlu l i)) := by
  have hl := isT_lt h
  have h2 := isT_iff.1 h
  unfold mp
  rw [List.getElem?_map, List.getElem?_eq_getElem hl]
  rw [nm_at hl] at h2 ⊢
  rw [vlu_at hl]
  simp [rowM, h2]
end
theorem non_mp {β : Type} (g : Int → β) (z : β) {l : List Rw} {s : ByteArray} (h : NoN l s) : ∀ i, isT (mp g z l) i = true → nm (mp g z l) i ≠ s := fun i hi => by
  rw [isT_mp] at hi
  rw [nm_mp]
  exact h i hi
/-- Numbers of a machine. -/
def inR (n : Int) : Prop := -9223372036854775808 ≤ n ∧ n ≤ 9223372036854775807
/-- What Put answers, and the rows behind it. -/
def PutR (m : Nat) (l : List Rw) (s : ByteArray) (x : Int) (l' : List Rw) (sl er : Int) : Prop :=
  (badB s = true ∧ l' = l ∧ sl = 0 ∧ er = 51) ∨ (badB s = false ∧ (∃ i, isT l i = true ∧ nm l i = s) ∧ l' = l ∧ sl = 0 ∧ er = 52) ∨
  (badB s = false ∧ NoN l s ∧ cnt l = m ∧ l' = l ∧ sl = 0 ∧ er = 53) ∨ (badB s = false ∧ NoN l s ∧ cnt l < m ∧ l' = wrt l (low l) (s, x) ∧ sl = (low l : Int) ∧ er = 0)
def SetR (l : List Rw) (s : ByteArray) (x : Int) (l' : List Rw) (er : Int) : Prop :=
  (badB s = true ∧ l' = l ∧ er = 51) ∨ (badB s = false ∧ NoN l s ∧ l' = l ∧ er = 54) ∨ (badB s = false ∧ ∃ i, isT l i = true ∧ nm l i = s ∧ l' = l.set i (s, x) ∧ er = 0)
def DropR (l : List Rw) (s : ByteArray) (l' : List Rw) (sl er : Int) : Prop :=
  (badB s = true ∧ l' = l ∧ sl = 0 ∧ er = 51) ∨ (badB s = false ∧ NoN l s ∧ l' = l ∧ sl = 0 ∧ er = 54) ∨ (badB s = false ∧ ∃ i, isT l i = true ∧ nm l i = s ∧ l' = trim (l.set i (ByteArray.empty, 0)) ∧ sl = (i : Int) ∧ er = 0)
theorem name_or (l : List Rw) (s : ByteArray) : NoN l s ∨ ∃ i, isT l i = true ∧ nm l i = s := by
  by_cases h : ∃ i, isT l i = true ∧ nm l i = s
  · exact Or.inr h
  · exact Or.inl (fun i hi e => h ⟨i, hi, e⟩)
theorem badB_size {s : ByteArray} (h : badB s = false) : s.size ≠ 0 ∧ s.size ≤ 63 := by
  unfold badB at h
  rw [Bool.or_eq_false_iff, decide_eq_false_iff_not, decide_eq_false_iff_not] at h
  exact ⟨h.1, by omega⟩
theorem putR_is {m : Nat} {l : List Rw} (ok : OkS m l) (s : ByteArray) (x : Int) : ∃ l' sl er, PutR m l s x l' sl er := by
  cases hb : badB s
  · rcases name_or l s with hn | hi
    · by_cases hc : cnt l < m
      · exact ⟨_, _, _, Or.inr (Or.inr (Or.inr ⟨hb, hn, hc, rfl, rfl, rfl⟩))⟩
      · exact ⟨_, _, _, Or.inr (Or.inr (Or.inl ⟨hb, hn, Nat.le_antisymm ok.ct (by omega), rfl, rfl, rfl⟩))⟩
    · exact ⟨_, _, _, Or.inr (Or.inl ⟨hb, hi, rfl, rfl, rfl⟩)⟩
  · exact ⟨_, _, _, Or.inl ⟨hb, rfl, rfl, rfl⟩⟩
theorem setR_is (l : List Rw) (s : ByteArray) (x : Int) : ∃ l' er, SetR l s x l' er := by
  cases hb : badB s
  · rcases name_or l s with hn | ⟨i, h1, h2⟩
    · exact ⟨_, _, Or.inr (Or.inl ⟨hb, hn, rfl, rfl⟩)⟩
    · exact ⟨_, _, Or.inr (Or.inr ⟨hb, i, h1, h2, rfl, rfl⟩)⟩
  · exact ⟨_, _, Or.inl ⟨hb, rfl, rfl⟩⟩
theorem dropR_is (l : List Rw) (s : ByteArray) : ∃ l' sl er, DropR l s l' sl er := by
  cases hb : badB s
  · rcases name_or l s with hn | ⟨i, h1, h2⟩
    · exact ⟨_, _, _, Or.inr (Or.inl ⟨hb, hn, rfl, rfl, rfl⟩)⟩
    · exact ⟨_, _, _, Or.inr (Or.inr ⟨hb, i, h1, h2, rfl, rfl, rfl⟩)⟩
  · exact ⟨_, _, _, Or.inl ⟨hb, rfl, rfl, rfl⟩⟩
/-- The rows: a table's, with numbers of a machine, an answer within bounds. -/
structure Ro (m : Nat) (l : List Rw) : Prop where
  ok : OkS m l
  num : ∀ i, inR (vlu l i)
theorem inR_zero : inR 0 := ⟨by decide, by decide⟩
theorem vlu_take (l : List Rw) (n i : Nat) : vlu (l.take n) i = if i < n then vlu l i else 0 := by
  unfold vlu
  rw [List.getElem?_take]
  split <;> rfl
theorem Ro.put {m : Nat} {l l' : List Rw} {s : ByteArray} {x sl er : Int} (h : Ro m l) (hx : inR x) (hp : PutR m l s x l' sl er) : Ro m l' ∧ 0 ≤ sl ∧ sl ≤ 65536 := by
  rcases hp with ⟨hb, rfl, rfl, rfl⟩ | ⟨hb, hi, rfl, rfl, rfl⟩ | ⟨hb, hn, hc, rfl, rfl, rfl⟩ | ⟨hb, hn, hc, rfl, rfl, rfl⟩
  · exact ⟨h, by decide, by decide⟩
  · exact ⟨h, by decide, by decide⟩
  · exact ⟨h, by decide, by decide⟩
  · have hs := badB_size hb
    have h1 := low_cnt l
    have h2 := h.ok.mm
    refine ⟨⟨h.ok.put hs.1 hs.2 hn hc, fun i => ?_⟩, by omega, by omega⟩
    rw [vlu_wrt l _ _ (low_le l)]
    split
    · exact hx
    · exact h.num i
theorem Ro.set {m : Nat} {l l' : List Rw} {s : ByteArray} {x er : Int} (h : Ro m l) (hx : inR x) (hp : SetR l s x l' er) : Ro m l' := by
  rcases hp with ⟨hb, rfl, rfl⟩ | ⟨hb, hn, rfl, rfl⟩ | ⟨hb, i, h1, h2, rfl, rfl⟩
  · exact h
  · exact h
  · have := h.ok.set (v := x) h1
    rw [h2] at this
    refine ⟨this, fun j => ?_⟩
    rw [vlu_set l _ _ (isT_lt h1)]
    split
    · exact hx
    · exact h.num j
theorem Ro.drop {m : Nat} {l l' : List Rw} {s : ByteArray} {sl er : Int} (h : Ro m l) (hp : DropR l s l' sl er) : Ro m l' ∧ 0 ≤ sl ∧ sl ≤ 65536 := by
  rcases hp with ⟨hb, rfl, rfl, rfl⟩ | ⟨hb, hn, rfl, rfl, rfl⟩ | ⟨hb, i, h1, h2, rfl, rfl, rfl⟩
  · exact ⟨h, by decide, by decide⟩
  · exact ⟨h, by decide, by decide⟩
  · have hl := isT_lt h1
    have h3 := h.ok.mm
    have h4 := h.ok.le
    refine ⟨⟨h.ok.drop h1, fun j => ?_⟩, by omega, by omega⟩
    unfold trim
    rw [vlu_take]
    split
    · rw [vlu_set l _ _ hl]
      split
      · exact inR_zero
      · exact h.num j
    · exact inR_zero
end Go.Proofs.YtfkijmmflpnncaaDoor.L
