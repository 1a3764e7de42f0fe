import Derived.Lib.ItoaMem
import Derived.Lib.AtoiAll
import Derived.WalkKit
import Derived.Shelf.Strconv.Itoa3
import Derived.Test.YtdhjoimiejdgbabDoorProg
import Derived.Test.YtdhjoimiejdgbabDoorMgJ
namespace Go.Proofs.YtdhjoimiejdgbabDoor.L
open Go.Lib
set_option linter.unusedVariables false
theorem dec_small {u : Nat} (h : u < 10) : decDigits u = [UInt8.ofNat (48 + u)] := by rw [decDigits, dif_pos h]
theorem dec_big {u : Nat} (h : ¬ u < 10) : decDigits u = decDigits (u / 10) ++ [UInt8.ofNat (48 + u % 10)] := by rw [decDigits, dif_neg h]
theorem digit_nat {d : Nat} (h : d < 10) : (UInt8.ofNat (48 + d)).toNat = 48 + d := by
  rw [UInt8.toNat_ofNat']
  omega
theorem dec_digits (u : Nat) : ∀ c ∈ decDigits u, 48 ≤ c.toNat ∧ c.toNat ≤ 57 := by
  induction u using Nat.strongRecOn with
  | _ u ih =>
    intro c hc
    by_cases h : u < 10
    · rw [dec_small h] at hc
      have hc := List.mem_singleton.1 hc
      rw [hc, digit_nat h]
      omega
    · rw [dec_big h] at hc
      rcases List.mem_append.1 hc with hc | hc
      · exact ih (u / 10) (by omega) c hc
      · have hc := List.mem_singleton.1 hc
        rw [hc, digit_nat (by omega)]
        omega
theorem dec_ne (u : Nat) : decDigits u ≠ [] := by
  by_cases h : u < 10
  · rw [dec_small h]; simp
  · rw [dec_big h]; simp
theorem dec_len (k u : Nat) (h : u < 10 ^ (k + 1)) : (decDigits u).length ≤ k + 1 := by
  induction k generalizing u with
  | zero => rw [dec_small (by simpa using h)]; simp
  | succ k ih =>
    by_cases h' : u < 10
    · rw [dec_small h']; simp
    · rw [dec_big h', List.length_append]
      have := ih (u / 10) (by rw [Nat.pow_succ] at h; omega)
      simp
      omega
theorem parse_app (l r : List UInt8) (acc u : Nat) (h : parseUint10 acc l = .ok u) : parseUint10 acc (l ++ r) = parseUint10 u r := by
  induction l generalizing acc with
  | nil =>
    simp only [parseUint10] at h
    injection h with h
    rw [h]
    rfl
  | cons c l ih =>
    simp only [List.cons_append, parseUint10] at h ⊢
    split at h
    · rename_i h1
      rw [if_pos h1]
      split at h
      · cases h
      · rename_i h2
        rw [if_neg h2]
        split at h
        · cases h
        · rename_i h3
          rw [if_neg h3]
          exact ih _ h
    · cases h
theorem parse_dec (u : Nat) (h : u < 18446744073709551616) : parseUint10 0 (decDigits u) = .ok u := by
  induction u using Nat.strongRecOn with
  | _ u ih =>
    by_cases h' : u < 10
    · rw [dec_small h']
      simp only [parseUint10]
      rw [digit_nat h', if_pos (by omega), if_neg (by omega), if_neg (by omega)]
      congr 1
      omega
    · rw [dec_big h', parse_app _ _ _ _ (ih (u / 10) (by omega) (by omega))]
      simp only [parseUint10]
      rw [digit_nat (by omega), if_pos (by omega), if_neg (by omega), if_neg (by omega)]
      congr 1
      omega
theorem head_digit {l : List UInt8} (h : ∀ c ∈ l, 48 ≤ c.toNat ∧ c.toNat ≤ 57) (hn : l ≠ []) : ∃ c r, l = c :: r ∧ c.toNat ≠ 43 ∧ c.toNat ≠ 45 := by
  cases l with
  | nil => exact absurd rfl hn
  | cons c r =>
    have := h c (by simp)
    exact ⟨c, r, rfl, by omega, by omega⟩
/-- What Itoa writes, Atoi reads. -/
theorem atoi_itoa (n : Int) (h0 : -9223372036854775808 ≤ n) (h1 : n ≤ 9223372036854775807) : atoiAll (itoa n) = .ok n := by
  by_cases hneg : n < 0
  · obtain ⟨u, rfl⟩ : ∃ u : Nat, n = -(u : Int) := ⟨n.natAbs, by omega⟩
    rw [itoa_neg u (by omega)]
    unfold atoiAll
    have e : parseMag (decDigits u) = .ok u := by
      unfold parseMag
      rw [if_neg (dec_ne u)]
      exact parse_dec u (by omega)
    have c45 : (45 : UInt8).toNat = 45 := by decide
    simp only [c45]
    rw [if_pos (by simp), e]
    simp
    omega
  · obtain ⟨u, rfl⟩ : ∃ u : Nat, n = u := ⟨n.toNat, by omega⟩
    rw [itoa_nonneg]
    have e : parseMag (decDigits u) = .ok u := by
      unfold parseMag
      rw [if_neg (dec_ne u)]
      exact parse_dec u (by omega)
    obtain ⟨c, r, el, n1, n2⟩ := head_digit (dec_digits u) (dec_ne u)
    rw [el] at e ⊢
    unfold atoiAll
    simp only
    rw [if_neg (by omega), e]
    simp [n2]
    omega
/-- What a number of fifteen digits is as bytes. -/
theorem itoa_form (n : Int) (h0 : -999999999999999 ≤ n) (h1 : n ≤ 999999999999999) : (itoa n).length ≤ 16 ∧ ∃ c r, itoa n = c :: r ∧ (c = 45 ∧ r ≠ [] ∨ 48 ≤ c.toNat ∧ c.toNat ≤ 57) ∧ ∀ x ∈ r, 48 ≤ x.toNat ∧ x.toNat ≤ 57 := by
  by_cases hneg : n < 0
  · obtain ⟨u, rfl⟩ : ∃ u : Nat, n = -(u : Int) := ⟨n.natAbs, by omega⟩
    rw [itoa_neg u (by omega)]
    have := dec_len 14 u (by show u < 1000000000000000; omega)
    exact ⟨by simp; omega, 45, _, rfl, Or.inl ⟨rfl, dec_ne u⟩, dec_digits u⟩
  · obtain ⟨u, rfl⟩ : ∃ u : Nat, n = u := ⟨n.toNat, by omega⟩
    rw [itoa_nonneg]
    have := dec_len 14 u (by show u < 1000000000000000; omega)
    obtain ⟨c, r, el, n1, n2⟩ := head_digit (dec_digits u) (dec_ne u)
    have hd := dec_digits u
    rw [el] at hd this ⊢
    exact ⟨by omega, c, r, rfl, Or.inr (hd c (by simp)), fun x hx => hd x (by simp [hx])⟩
/-- What Atoi reads is an int. -/
theorem atoi_range {l : List UInt8} {n : Int} (h : atoiAll l = .ok n) : -9223372036854775808 ≤ n ∧ n ≤ 9223372036854775807 := by
  unfold atoiAll at h
  cases l with
  | nil => cases h
  | cons c r =>
    simp only at h
    split at h
    · cases h
    · cases h
    · rename_i u e
      split at h
      · cases h
      · split at h
        · cases h
        · injection h with h
          subst h
          split <;> omega
end Go.Proofs.YtdhjoimiejdgbabDoor.L
namespace Go.Proofs.YtdhjoimiejdgbabDoor
open Go.Shelf
def laysM171_ren : Go.Shelf.Ren := ⟨fun | 171 => 18 | 243 => 36 | 246 => 46 | 283 => 65 | 284 => 66 | 285 => 67 | 286 => 68 | 129 => 58 | 317 => 76 | 318 => 77 | 319 => 78 | 320 => 79 | 337 => 81 | 338 => 47 | n => n, fun | 3 => 3 | 9 => 9 | 2 => 2 | 4 => 4 | 171 => 114 | 0 => 0 | 53 => 85 | 37 => 116 | 5 => 5 | 173 => 117 | 212 => 128 | 51 => 108 | 20 => 20 | 213 => 129 | 46 => 89 | 232 => 134 | 233 => 119 | n => n, fun | 17 => 1 | 18 => 2 | 19 => 0 | n => n⟩
theorem laysM171 : Go.Proofs.LaysM.n171 Tryd.prog laysM171_ren := {
  mixed := by kernel_rfl
  f129 := Tryd.func58.trans (congrArg some (by kernel_rfl))
  f171 := Tryd.func18.trans (congrArg some (by kernel_rfl))
  f243 := Tryd.func36.trans (congrArg some (by kernel_rfl))
  f246 := Tryd.func46.trans (congrArg some (by kernel_rfl))
  f283 := Tryd.func65.trans (congrArg some (by kernel_rfl))
  f284 := Tryd.func66.trans (congrArg some (by kernel_rfl))
  f285 := Tryd.func67.trans (congrArg some (by kernel_rfl))
  f286 := Tryd.func68.trans (congrArg some (by kernel_rfl))
  f317 := Tryd.func76.trans (congrArg some (by kernel_rfl))
  f318 := Tryd.func77.trans (congrArg some (by kernel_rfl))
  f319 := Tryd.func78.trans (congrArg some (by kernel_rfl))
  f320 := Tryd.func79.trans (congrArg some (by kernel_rfl))
  f337 := Tryd.func81.trans (congrArg some (by kernel_rfl))
  f338 := Tryd.func47.trans (congrArg some (by kernel_rfl))
  t0 := Tryd.underlying0
  a0 := Tryd.isAgg0
  z0 := Tryd.sizeOf0
  v0 := Tryd.zeroValue0
  t2 := Tryd.underlying2
  a2 := Tryd.isAgg2
  z2 := Tryd.sizeOf2
  v2 := Tryd.zeroValue2
  t3 := Tryd.underlying3
  a3 := Tryd.isAgg3
  z3 := Tryd.sizeOf3
  v3 := Tryd.zeroValue3
  t4 := Tryd.underlying4
  a4 := Tryd.isAgg4
  z4 := Tryd.sizeOf4
  v4 := Tryd.zeroValue4
  t5 := Tryd.underlying5
  a5 := Tryd.isAgg5
  z5 := Tryd.sizeOf5
  v5 := Tryd.zeroValue5
  t9 := Tryd.underlying9
  a9 := Tryd.isAgg9
  z9 := Tryd.sizeOf9
  v9 := Tryd.zeroValue9
  t20 := Tryd.underlying20
  a20 := Tryd.isAgg20
  z20 := Tryd.sizeOf20
  v20 := Tryd.zeroValue20
  t37 := Tryd.underlying116
  a37 := Tryd.isAgg116
  z37 := Tryd.sizeOf116
  v37 := Tryd.zeroValue116
  t46 := Tryd.underlying89
  a46 := Tryd.isAgg89
  z46 := Tryd.sizeOf89
  v46 := Tryd.zeroValue89
  t51 := Tryd.underlying108
  a51 := Tryd.isAgg108
  z51 := Tryd.sizeOf108
  v51 := Tryd.zeroValue108
  t53 := Tryd.underlying85
  a53 := Tryd.isAgg85
  z53 := Tryd.sizeOf85
  v53 := Tryd.zeroValue85
  t171 := Tryd.underlying114
  a171 := Tryd.isAgg114
  z171 := Tryd.sizeOf114
  v171 := Tryd.zeroValue114
  t173 := Tryd.underlying117
  a173 := Tryd.isAgg117
  z173 := Tryd.sizeOf117
  v173 := Tryd.zeroValue117
  t212 := Tryd.underlying128
  a212 := Tryd.isAgg128
  z212 := Tryd.sizeOf128
  v212 := Tryd.zeroValue128
  t213 := Tryd.underlying129
  a213 := Tryd.isAgg129
  z213 := Tryd.sizeOf129
  t232 := Tryd.underlying134
  a232 := Tryd.isAgg134
  z232 := Tryd.sizeOf134
  v232 := Tryd.zeroValue134
  t233 := Tryd.underlying119
  a233 := Tryd.isAgg119
  z233 := Tryd.sizeOf119
  v233 := Tryd.zeroValue119
  g17 := by kernel_rfl
  g18 := by kernel_rfl
  g19 := by kernel_rfl
  i0 := by kernel_rfl
  i2 := by kernel_rfl
  i3 := by kernel_rfl
  i4 := by kernel_rfl
  i5 := by kernel_rfl
  i9 := by kernel_rfl
  i20 := by kernel_rfl
  i37 := by kernel_rfl
  i46 := by kernel_rfl
  i51 := by kernel_rfl
  i53 := by kernel_rfl
  i171 := by kernel_rfl
  i173 := by kernel_rfl
  i212 := by kernel_rfl
  i232 := by kernel_rfl
  i233 := by kernel_rfl
  m17 := by kernel_rfl
  m18 := by kernel_rfl
  m19 := by kernel_rfl }
end Go.Proofs.YtdhjoimiejdgbabDoor
namespace Go.Proofs.YtdhjoimiejdgbabDoor.L
open Go.RowKit Go.Sort Bs Go.Maps
set_option linter.unusedVariables false
theorem below_grow (w : World) (k : Nat) (os : Array Obj) : Below w.heap.size w (grow (w.drewN k) os) := by
  refine ⟨rfl, rfl, rfl, ?_, fun j hj => ?_⟩
  · show w.heap.size ≤ (w.heap ++ os).size
    simp
  · show (w.heap ++ os)[j]? = _
    rw [Array.getElem?_append_left hj]
def tx (n : Int) : ByteArray := ⟨(Lib.itoa n).toArray⟩
/-- The powers of ten of strconv. -/
def Pw (w : World) : Prop := Lib.TabIs Tryd.prog w "internal/strconv.uint64pow10" .u64 Lib.pow10Tab
theorem var_low {w w' : World} {name : String} {x : Array Value} (h : w.var? Tryd.prog name = some x) (hb : Below w.heap.size w w') : w'.var? Tryd.prog name = some x := by
  unfold World.var? at h ⊢
  cases e : Tryd.prog.globalNamed name with
  | none => rw [e] at h; cases h
  | some g =>
    rw [e] at h
    simp only [Option.bind_some] at h ⊢
    have hlt : g < w.heap.size := by
      apply Classical.byContradiction
      intro n
      rw [Array.getElem?_eq_none (by omega)] at h
      cases h
    rw [hb.block g hlt]
    exact h
theorem Pw.low {w w' : World} (h : Pw w) (hb : Below w.heap.size w w') : Pw w' := var_low h hb
theorem itoa_any (n : Int) (h0 : -9223372036854775808 ≤ n) (h1 : n ≤ 9223372036854775807) (w : World) (hv : Pw w) : Calls Tryd.prog 18 #[.int .i64 n] w fun e w' => e = .returned (.string (tx n)) ∧ Below w.heap.size w w' := by
  refine (show Calls Tryd.prog 18 _ _ _ from Any.strconv_Itoa laysM171 n h0 h1 w hv).mono ?_
  rintro e w' ⟨rfl, k, os, rfl⟩
  exact ⟨rfl, below_grow w k os⟩
theorem tx_size (n : Int) : (tx n).size = (Lib.itoa n).length := by
  show (Lib.itoa n).toArray.size = _
  simp
/-- The name of a number. -/
def nn (j : Nat) : ByteArray := ⟨#[110]⟩ ++ tx (j : Int)
theorem nn_list (j : Nat) : (nn j).data.toList = 110 :: Lib.itoa (j : Int) := by
  unfold nn tx
  simp [ByteArray.data_append]
theorem nn_size (j : Nat) : (nn j).size = (Lib.itoa (j : Int)).length + 1 := by
  show (nn j).data.size = _
  rw [← Array.length_toList, nn_list]
  simp
theorem nn_ok {j : Nat} (h : j < 200) : badB (nn j) = false ∧ (nn j).size ≤ 63 := by
  have h1 := (itoa_form (j : Int) (by omega) (by omega)).1
  have h2 := nn_size j
  refine ⟨?_, by omega⟩
  unfold badB
  rw [Bool.or_eq_false_iff, decide_eq_false_iff_not, decide_eq_false_iff_not]
  omega
theorem nn_inj {i j : Nat} (hi : i < 200) (hj : j < 200) (h : nn i = nn j) : i = j := by
  have e := congrArg (fun s : ByteArray => s.data.toList) h
  simp only [nn_list, List.cons.injEq, true_and] at e
  have a := atoi_itoa (i : Int) (by omega) (by omega)
  have b := atoi_itoa (j : Int) (by omega) (by omega)
  rw [e, b] at a
  injection a with a
  omega
/-- A full table's rows. -/
def fl (n : Nat) : List Rw := (List.range n).map fun j => (nn j, (j : Int))
theorem fl_succ (n : Nat) : fl (n + 1) = fl n ++ [(nn n, (n : Int))] := by unfold fl; rw [List.range_succ]; simp
theorem fl_len (n : Nat) : (fl n).length = n := by unfold fl; simp
theorem fl_get (n i : Nat) : (fl n)[i]? = if i < n then some (nn i, (i : Int)) else none := by
  unfold fl
  by_cases h : i < n
  · simp [h]
  · simp [h]
theorem fl_nm (n i : Nat) : nm (fl n) i = if i < n then nn i else ByteArray.empty := by
  unfold nm; rw [fl_get]; split <;> rfl
theorem nn_pos (j : Nat) : (nn j).size ≠ 0 := by rw [nn_size]; omega
theorem fl_isT (n i : Nat) : isT (fl n) i = decide (i < n) := by
  unfold isT; rw [fl_nm]
  by_cases h : i < n
  · simp only [h, if_true, decide_true]
    exact decide_eq_true (nn_pos i)
  · simp [h]
theorem fl_low (n : Nat) : low (fl n) = n := low_one (by rw [fl_isT]; simp) (fun j hj => by rw [fl_isT]; simpa using hj)
theorem fl_cnt : ∀ n, cnt (fl n) = n
  | 0 => rfl
  | n + 1 => by
    rw [fl_succ, cnt_app, fl_cnt n]
    have := nn_pos n
    simp [cnt, this]
theorem fl_wrt (n : Nat) : wrt (fl n) (low (fl n)) (nn n, (n : Int)) = fl (n + 1) := by
  unfold wrt
  rw [fl_low, fl_len, if_neg (by omega), fl_succ]
theorem fl_no {n m : Nat} (h : n ≤ m) (hm : m < 200) : NoN (fl n) (nn m) := fun i hi e => by
  rw [fl_isT] at hi
  have hi' : i < n := by simpa using hi
  rw [fl_nm, if_pos hi'] at e
  have := nn_inj (by omega) hm e
  omega
theorem fl_more (n : Nat) : NoN (fl n) ⟨#[109, 111, 114, 101]⟩ := fun i hi e => by
  rw [fl_isT] at hi
  have hi' : i < n := by simpa using hi
  rw [fl_nm, if_pos hi'] at e
  have e2 := congrArg (fun s : ByteArray => s.data.toList) e
  simp [nn_list] at e2
theorem fl_yes {n d : Nat} (h : d < n) : isT (fl n) d = true ∧ nm (fl n) d = nn d := ⟨by rw [fl_isT]; simpa using h, by rw [fl_nm, if_pos h]⟩
/-- The rows without one. -/
def fd (n d : Nat) : List Rw := trim ((fl n).set d (ByteArray.empty, 0))
theorem fd_isT {n d : Nat} (h : d < n) (j : Nat) : isT (fd n d) j = (decide (j < n) && !decide (j = d)) := by
  have nw := nm_drop (v := (0 : Int)) (fl_yes h).1 j
  unfold fd isT
  rw [nw]
  by_cases e : j = d
  · subst e; simp
  · rw [if_neg e]
    have := fl_isT n j
    unfold isT at this
    rw [this]; simp [e]
theorem fd_low {n d : Nat} (h : d < n) : low (fd n d) = d := low_one (by rw [fd_isT h]; simp) (fun j hj => by rw [fd_isT h]; simp; omega)
theorem fd_no {n d : Nat} (h : d < n) (hn : n ≤ 200) : NoN (fd n d) (nn d) := fun i hi e => by
  have nw := nm_drop (v := (0 : Int)) (fl_yes h).1 i
  have hi2 := hi
  rw [fd_isT h] at hi2
  simp at hi2
  have e2 : nm (fd n d) i = nn d := e
  unfold fd at e2
  rw [nw, if_neg hi2.2, fl_nm, if_pos hi2.1] at e2
  exact hi2.2 (nn_inj (by omega) (by omega) e2)
theorem fd_cnt {n d : Nat} (h : d < n) : cnt (fd n d) + 1 = n := by
  have := cnt_drop (v := (0 : Int)) (fl_yes h).1
  rw [fl_cnt] at this
  exact this
theorem fd_wrt {n d : Nat} (h : d < n) : wrt (fd n d) (low (fd n d)) (nn d, (d : Int)) = fl n := by
  have hle := low_le (fd n d)
  rw [fd_low h] at hle ⊢
  apply List.ext_getElem?
  intro j
  rw [get_wrt _ _ _ hle, fl_get]
  by_cases e : j = d
  · subst e; rw [if_pos rfl, if_pos h]
  · rw [if_neg e]
    by_cases hj : j < n
    · rw [if_pos hj]
      unfold fd
      rw [get_trim _ j ?_, List.getElem?_set_ne (fun c => e c.symm), fl_get, if_pos hj]
      have := fd_isT h j
      unfold fd at this
      rw [isT_trim] at this
      rw [this]; simp [hj, e]
    · rw [if_neg hj, List.getElem?_eq_none]
      unfold fd
      rw [len_trim]
      have := tl_le ((fl n).set d (ByteArray.empty, 0))
      rw [List.length_set, fl_len] at this
      omega
/-- What stands while the table is filled. -/
structure FI (w wr : World) (p m n : Nat) (F : List Nat) : Prop where
  tb : Tb wr p m (fl n) F
  fB : ∀ x ∈ F, w.heap.size ≤ x
  bl : Below w.heap.size w wr
theorem FI.low {w wr w2 : World} {p m n : Nat} {F : List Nat} (h : FI w wr p m n F) (hb : Below wr.heap.size wr w2) : FI w w2 p m n F := ⟨h.tb.low hb, h.fB, h.bl.trans (hb.mono h.bl.size)⟩
theorem FI.drewN {w wr : World} {p m n : Nat} {F : List Nat} (h : FI w wr p m n F) (k : Nat) : FI w (wr.drewN k) p m n F := ⟨h.tb.drewN k, h.fB, ⟨h.bl.os, h.bl.tape, h.bl.output, h.bl.size, h.bl.block⟩⟩
theorem FI.mv {w wr w2 : World} {p m n n2 : Nat} {F F2 : List Nat} (h : FI w wr p m n F) (ht : Tb w2 p m (fl n2) F2) (hm : Mv F F2 wr w2) : FI w w2 p m n2 F2 := ⟨ht, hm.above h.bl.size h.fB, h.bl.trans (hm.below h.bl.size h.fB)⟩
end Go.Proofs.YtdhjoimiejdgbabDoor.L
