import Derived.WalkKit
import Derived.WalkSpells
import Derived.WalkLawsBesides
import Derived.Handy
import Derived.Test.YtlhlpamciafocaaGreatDoorProg
import Derived.Deep.QuietTactic
import Derived.BigQuiet
import Derived.OwnWalk
import Derived.Laws.AppendOwnNone
import Derived.Lib.Bytealg
import Derived.Deep.RegionHeld3
import Derived.RangeFuncBox
import Derived.Deep.Cut
namespace Go.Proofs.YtlhlpamciafocaaGreatDoor.L
open Go.RowKit
set_option linter.unusedVariables false
theorem hid {p : Prop} (h : p) : Hid p := h
theorem ret_bool {a b : Bool} (h : a = b) : Ending.returned (.bool a) = .returned (.bool b) := by rw [h]
theorem below_drewN {B : Nat} {a w : World} (h : Below B a w) (n : Nat) : Below B a (w.drewN n) := ⟨h.os, h.tape, h.output, h.size, h.block⟩
theorem belowA (w : World) (o : Obj) : Below w.heap.size w (w.alloc o) := (Below.refl _ _).alloc (Nat.le_refl _) _
/-- A byte as the number that it is. -/
def iv (c : UInt8) : Int := (c.toNat : Int)
/-- The byte at a place; 0 behind the end. -/
def bt (s : ByteArray) (i : Nat) : UInt8 := s.data.toList.getD i 0
theorem bt_get (s : ByteArray) (k : Nat) (h : k < s.size) : bt s k = s[k]'h := by
  unfold bt
  simp [h]
  rfl
theorem bt_out (s : ByteArray) (k : Nat) (h : s.size ≤ k) : bt s k = 0 := by
  unfold bt
  rw [List.getD_eq_getElem?_getD, List.getElem?_eq_none (by simpa using h)]
  rfl
theorem all_u8 {p : UInt8 → Bool} (h : (List.range 256).all (fun n => p (UInt8.ofNat n)) = true) (c : UInt8) : p c = true := by
  rw [List.all_eq_true] at h
  have := h c.toNat (by simp; exact c.toNat_lt)
  simpa using this
/-- The first place of a byte, or -1. -/
def idx (s : ByteArray) (c : UInt8) : Int := Lib.indexByte s.data.toList c
set_option maxHeartbeats 1000000 in
set_option maxRecDepth 100000 in
theorem ib_any (s : ByteArray) (c : UInt8) (w : World) : Calls Tryz.prog 91 #[.string s, .int .u8 (iv c)] w fun e w' => e = .returned (.int .i64 (idx s c)) ∧ w' = w := by
  unfold iv
  go_enter Tryz.func91, Tryz.ntmps91
  go_wp2
  rw [run_callFunc_extern Tryz.func104 (by kernel_rfl) (by kernel_rfl) (by kernel_rfl) (e := Extern.BytealgIndexByte.indexByte) (by kernel_rfl), Lib.run_indexByteString]
  simp only [Result.andThen]
  rw [Oper.upon_value]
  go_wp2
  go_ret
  exact ⟨by unfold idx; simp, rfl⟩
set_option maxHeartbeats 1000000 in
theorem sib_any (s : ByteArray) (c : UInt8) (w : World) : Calls Tryz.prog 77 #[.string s, .int .u8 (iv c)] w fun e w' => e = .returned (.int .i64 (idx s c)) ∧ w' = w := by
  have HI := hid (fun W => ib_any s c W)
  generalize idx s c = r at *
  generalize iv c = x at *
  go_enter Tryz.func77, Tryz.ntmps77
  go_wp2_with (go_at_call 91; refine (HI.out _).mono ?_; rintro e w1 ⟨rfl, hww⟩; subst hww)
  go_ret
  exact ⟨rfl, rfl⟩
/-- What the first place of a byte is. -/
theorem idx_cases (s : ByteArray) (c : UInt8) : idx s c = -1 ∨ ∃ i : Nat, idx s c = i ∧ i < s.size := by
  have key : ∀ l : List UInt8, Lib.indexByte l c = -1 ∨ ∃ i : Nat, Lib.indexByte l c = i ∧ i < l.length := by
    intro l
    induction l with
    | nil => exact Or.inl rfl
    | cons b l ih =>
      unfold Lib.indexByte
      by_cases e : (b == c) = true
      · rw [if_pos e]
        exact Or.inr ⟨0, rfl, by simp⟩
      · rw [if_neg e]
        rcases ih with h | ⟨i, h, hi⟩
        · rw [h]; exact Or.inl rfl
        · rw [h, if_neg (by simp)]
          exact Or.inr ⟨i + 1, rfl, by simpa using hi⟩
  exact key _
def hexv (x : Int) : Int := if 48 ≤ x ∧ x ≤ 57 then x - 48 else if 97 ≤ x ∧ x ≤ 102 then x - 87 else if 65 ≤ x ∧ x ≤ 70 then x - 55 else -1
def sixteen : ByteArray := ⟨#[48, 49, 50, 51, 52, 53, 54, 55, 56, 57, 97, 98, 99, 100, 101, 102]⟩
theorem idx_low (c : UInt8) (h : ¬ (65 ≤ iv c ∧ iv c ≤ 70)) : idx sixteen c = hexv (iv c) := by
  have := all_u8 (p := fun c => decide (65 ≤ iv c ∧ iv c ≤ 70) || decide (idx sixteen c = hexv (iv c))) (by decide +kernel) c
  simp at this
  rcases this with e | e
  · exact absurd e h
  · exact e
theorem idx_up (c : UInt8) (h : 65 ≤ iv c ∧ iv c ≤ 70) : idx sixteen (c + 32) = hexv (iv c) ∧ iv (c + 32) = iv c + 32 := by
  have := all_u8 (p := fun c => ! decide (65 ≤ iv c ∧ iv c ≤ 70) || decide (idx sixteen (c + 32) = hexv (iv c) ∧ iv (c + 32) = iv c + 32)) (by decide +kernel) c
  simp at this
  rcases this with e | e
  · omega
  · exact e
set_option maxHeartbeats 1000000 in
theorem worth_any (c : UInt8) (w : World) : Calls Tryz.prog 109 #[.int .u8 (iv c)] w fun e w' => e = .returned (.int .i64 (hexv (iv c))) ∧ w' = w := by
  by_cases h : 65 ≤ iv c ∧ iv c ≤ 70
  · obtain ⟨h1, h2⟩ := idx_up c h
    have HI := hid (fun W => sib_any sixteen (c + 32) W)
    rw [h1, h2] at HI
    clear h1 h2
    obtain ⟨ha, hb⟩ := h
    generalize hexv (iv c) = r at *
    generalize iv c = x at *
    unfold sixteen at HI
    go_enter Tryz.func109, Tryz.ntmps109
    go_wp2_with (go_at_call 77; refine (HI.out _).mono ?_; rintro e w1 ⟨rfl, hww⟩; subst hww)
    go_ret
    exact ⟨rfl, rfl⟩
  · have HI := hid (fun W => sib_any sixteen c W)
    rw [idx_low c h] at HI
    generalize hexv (iv c) = r at *
    generalize iv c = x at *
    unfold sixteen at HI
    by_cases ha : 65 ≤ x
    · have hb : ¬ x ≤ 70 := fun hb => h ⟨ha, hb⟩
      clear h
      go_enter Tryz.func109, Tryz.ntmps109
      go_wp2_with (go_at_call 77; refine (HI.out _).mono ?_; rintro e w1 ⟨rfl, hww⟩; subst hww)
      go_ret
      exact ⟨rfl, rfl⟩
    · clear h
      go_enter Tryz.func109, Tryz.ntmps109
      go_wp2_with (go_at_call 77; refine (HI.out _).mono ?_; rintro e w1 ⟨rfl, hww⟩; subst hww)
      go_ret
      exact ⟨rfl, rfl⟩
end Go.Proofs.YtlhlpamciafocaaGreatDoor.L
namespace Go.Proofs.YtlhlpamciafocaaGreatDoor.L
open Go.RowKit
set_option linter.unusedVariables false
theorem lt_blk {W : World} {k : Nat} {o : Obj} (h : W.heap[k]? = some o) : k < W.heap.size := (Array.getElem?_eq_some_iff.1 h).1
/-- What a kind's parts hold. -/
structure Fm where
  cl : Int
  kd : Int
  ls : Int
  ms : Int
  tx : Bool
  lo : Int
  hi : Int
def fmv (f : Fm) : Value := .agg #[.int .i64 f.cl, .int .i64 f.kd, .int .i64 f.ls, .int .i64 f.ms, .bool f.tx, .int .i64 f.lo, .int .i64 f.hi]
def fmO (k : Int) : Fm :=
  if k = 1 ∨ k = 2 then ⟨1, 0, 0, 0, false, 0, 0⟩
  else if k = 3 then ⟨1, 1, 1, 1, false, 0, 0⟩
  else if k = 4 ∨ k = 5 then ⟨1, 1, 2, 1000, false, 0, 0⟩
  else if k = 6 then ⟨1, 2, 2, 2, false, 1, 6⟩
  else if k = 7 then ⟨1, 2, 2, 2, false, 0, 1⟩
  else if k = 8 ∨ k = 9 then ⟨1, 1, 1, 1, true, 0, 0⟩
  else if k = 10 then ⟨1, 0, 0, 0, true, 0, 0⟩
  else if k = 11 then ⟨3, 0, 0, 0, true, 0, 0⟩
  else if k = 12 then ⟨3, 0, 0, 0, false, -999999999999999999, 999999999999999999⟩
  else if k = 13 then ⟨2, 3, 0, 64, false, 0, 0⟩
  else if k = 14 ∨ k = 18 then ⟨2, 0, 0, 0, true, 1, 3⟩
  else if k = 15 ∨ k = 16 ∨ k = 17 then ⟨2, 0, 0, 0, false, 1, 3⟩
  else if k = 19 then ⟨2, 2, 1, 1, false, 0, 0⟩
  else if k = 20 then ⟨2, 1, 1, 1, true, 0, 0⟩
  else ⟨0, 0, 0, 0, false, 0, 0⟩
theorem kind_cases (k : Int) : (k = 1 ∨ k = 2 ∨ k = 3 ∨ k = 4 ∨ k = 5 ∨ k = 6 ∨ k = 7 ∨ k = 8 ∨ k = 9 ∨ k = 10 ∨ k = 11 ∨ k = 12 ∨ k = 13 ∨ k = 14 ∨ k = 15 ∨ k = 16 ∨ k = 17 ∨ k = 18 ∨ k = 19 ∨ k = 20) ∨ (k < 1 ∨ 20 < k) := by omega
end Go.Proofs.YtlhlpamciafocaaGreatDoor.L
namespace Go.Proofs.YtlhlpamciafocaaGreatDoor.L
open Go.RowKit
set_option linter.unusedVariables false
set_option maxHeartbeats 4000000
set_option maxRecDepth 100000
def fitsB (f : Fm) (tx : ByteArray) (nu n : Int) : Bool := decide (f.cl ≠ 0 ∧ (tx.toList = [] ∨ f.tx = true) ∧ (tx.size : Int) ≤ 127 ∧ f.lo ≤ nu ∧ nu ≤ f.hi ∧ f.ls ≤ n ∧ n ≤ f.ms)
def takesB (f : Fm) (c : Int) : Bool := decide (c = f.kd ∨ (c = 3 ∧ f.kd = 2))
def holdsB (k : Int) (tx : ByteArray) (nu : Int) : Bool :=
  if k = 8 ∨ k = 9 ∨ k = 10 ∨ k = 11 ∨ k = 20 then decide ((tx.size : Int) ≤ 127 ∧ nu = 0)
  else if k = 6 then decide (tx.toList = [] ∧ 1 ≤ nu ∧ nu ≤ 6)
  else if k = 7 then decide (tx.toList = [] ∧ (nu = 0 ∨ nu = 1))
  else if k = 12 then decide (tx.toList = [] ∧ -999999999999999999 ≤ nu ∧ nu ≤ 999999999999999999)
  else if k = 14 ∨ k = 18 then decide ((tx.size : Int) ≤ 127 ∧ 1 ≤ nu ∧ nu ≤ 3)
  else if k = 15 ∨ k = 16 ∨ k = 17 then decide (tx.toList = [] ∧ 1 ≤ nu ∧ nu ≤ 3)
  else decide (tx.toList = [] ∧ nu = 0)
end Go.Proofs.YtlhlpamciafocaaGreatDoor.L
namespace Go.Proofs.YtlhlpamciafocaaGreatDoor.L
open Go.RowKit
set_option linter.unusedVariables false
set_option maxHeartbeats 4000000
set_option maxRecDepth 100000
def kidsB (k n : Int) : Bool :=
  if k = 3 ∨ k = 8 ∨ k = 9 ∨ k = 19 ∨ k = 20 then decide (n = 1)
  else if k = 4 ∨ k = 5 then decide (2 ≤ n)
  else if k = 6 ∨ k = 7 then decide (n = 2)
  else if k = 13 then decide (n ≤ 64)
  else decide (n = 0)
def brB (k n : Int) : Bool :=
  if k = 3 ∨ k = 4 then decide (n = 4 ∨ n = 5)
  else if k = 5 then decide (n = 5)
  else false
def opB (k : Int) : Bool :=
  if k = 3 ∨ k = 8 ∨ k = 9 ∨ k = 20 ∨ k = 19 then true
  else false
def clsB (k n : Int) : Bool :=
  if k = 6 ∨ k = 7 ∨ k = 19 then decide (11 ≤ n ∧ n ≤ 20)
  else if k = 13 then decide (n = 11 ∨ n = 12)
  else decide (1 ≤ n ∧ n ≤ 10)
end Go.Proofs.YtlhlpamciafocaaGreatDoor.L
namespace Go.Proofs.YtlhlpamciafocaaGreatDoor.L
open Go.RowKit
set_option linter.unusedVariables false
/-- A part of a tree. -/
structure Pt where
  kind : Int
  text : ByteArray
  num : Int
  kids : List Int
def pt (T : List Pt) (j : Nat) : Pt := T.getD j ⟨0, ⟨#[]⟩, 0, []⟩
/-- What stands ahead of place i and is nobody's kid yet. -/
def fre (T : List Pt) : Nat → List Int
  | 0 => []
  | i + 1 => (fre T i).take ((fre T i).length - (pt T i).kids.length) ++ [(i : Int)]
/-- The part holds what the table says, its kids' classes too. -/
def tabD (T : List Pt) (p : Pt) : Prop := kidsB p.kind p.kids.length = true ∧ 1 ≤ p.kind ∧ p.kind ≤ 20 ∧ holdsB p.kind p.text p.num = true ∧ ∀ x, x ∈ p.kids → clsB p.kind (pt T x.toNat).kind = true
def tabP (T : List Pt) (p : Pt) : Prop := fitsB (fmO p.kind) p.text p.num p.kids.length = true ∧ ∀ x, x ∈ p.kids → takesB (fmO p.kind) (fmO (pt T x.toNat).kind).cl = true
theorem cl_one (k : Int) : (fmO k).cl = 1 ↔ 1 ≤ k ∧ k ≤ 10 := by
  rcases kind_cases k with (rfl | rfl | rfl | rfl | rfl | rfl | rfl | rfl | rfl | rfl | rfl | rfl | rfl | rfl | rfl | rfl | rfl | rfl | rfl | rfl) | h
  case inr =>
    have ef : fmO k = ⟨0, 0, 0, 0, false, 0, 0⟩ := by unfold fmO; repeat rw [if_neg (by omega)]
    rw [ef]
    simp
    omega
  all_goals decide
theorem cl_two (k : Int) : ((fmO k).cl = 2 ∨ (fmO k).cl = 3) ↔ 11 ≤ k ∧ k ≤ 20 := by
  rcases kind_cases k with (rfl | rfl | rfl | rfl | rfl | rfl | rfl | rfl | rfl | rfl | rfl | rfl | rfl | rfl | rfl | rfl | rfl | rfl | rfl | rfl) | h
  case inr =>
    have ef : fmO k = ⟨0, 0, 0, 0, false, 0, 0⟩ := by unfold fmO; repeat rw [if_neg (by omega)]
    rw [ef]
    simp
    omega
  all_goals decide
theorem cl_three (k : Int) : (fmO k).cl = 3 ↔ k = 11 ∨ k = 12 := by
  rcases kind_cases k with (rfl | rfl | rfl | rfl | rfl | rfl | rfl | rfl | rfl | rfl | rfl | rfl | rfl | rfl | rfl | rfl | rfl | rfl | rfl | rfl) | h
  case inr =>
    have ef : fmO k = ⟨0, 0, 0, 0, false, 0, 0⟩ := by unfold fmO; repeat rw [if_neg (by omega)]
    rw [ef]
    simp
    omega
  all_goals decide
theorem size_nil {s : ByteArray} (h : s.toList = []) : s.size = 0 := by
  have : s.data.toList = [] := by rw [← ByteArray.toList_eq]; exact h
  have h2 : s.size = s.data.toList.length := by simp
  rw [h2, this]
  rfl
theorem takes_cls (k kk : Int) (h : k = 3 ∨ k = 4 ∨ k = 5 ∨ k = 6 ∨ k = 7 ∨ k = 8 ∨ k = 9 ∨ k = 13 ∨ k = 19 ∨ k = 20) : takesB (fmO k) (fmO kk).cl = clsB k kk := by
  have c1 := cl_one kk
  have c2 := cl_two kk
  have c3 := cl_three kk
  generalize (fmO kk).cl = c at *
  rw [Bool.eq_iff_iff]
  rcases h with rfl | rfl | rfl | rfl | rfl | rfl | rfl | rfl | rfl | rfl <;> simp [takesB, clsB, fmO] <;> omega
theorem fits_tab (k : Int) (tx : ByteArray) (nu : Int) (n : Nat) (hn : n ≤ 1000) : fitsB (fmO k) tx nu n = true ↔ kidsB k n = true ∧ 1 ≤ k ∧ k ≤ 20 ∧ holdsB k tx nu = true := by
  have z : tx.toList = [] → (tx.size : Int) = 0 := fun h => by rw [size_nil h]; rfl
  rcases kind_cases k with (rfl | rfl | rfl | rfl | rfl | rfl | rfl | rfl | rfl | rfl | rfl | rfl | rfl | rfl | rfl | rfl | rfl | rfl | rfl | rfl) | h
  case inr =>
    have ef : fmO k = ⟨0, 0, 0, 0, false, 0, 0⟩ := by unfold fmO; repeat rw [if_neg (by omega)]
    rw [ef]
    simp [fitsB]
    omega
  all_goals
    by_cases e : tx.toList = []
    · have := z e
      simp [fitsB, fmO, kidsB, holdsB, e, this]
      try omega
    · simp [fitsB, fmO, kidsB, holdsB, e]
      try omega
theorem tab_iff (T : List Pt) (p : Pt) (hn : p.kids.length ≤ 1000) : tabP T p ↔ tabD T p := by
  obtain ⟨k, tx, nu, ks⟩ := p
  unfold tabP tabD
  simp only at hn ⊢
  have hf := fits_tab k tx nu ks.length hn
  constructor
  · rintro ⟨h1, h2⟩
    obtain ⟨a, b, c, d⟩ := hf.1 h1
    refine ⟨a, b, c, d, fun x hx => ?_⟩
    have hk : k = 3 ∨ k = 4 ∨ k = 5 ∨ k = 6 ∨ k = 7 ∨ k = 8 ∨ k = 9 ∨ k = 13 ∨ k = 19 ∨ k = 20 := by
      apply Classical.byContradiction
      intro hc
      unfold kidsB at a
      rw [if_neg (by omega), if_neg (by omega), if_neg (by omega), if_neg (by omega)] at a
      simp at a
      rw [a] at hx
      cases hx
    rw [← takes_cls k _ hk]
    exact h2 x hx
  · rintro ⟨a, b, c, d, h2⟩
    refine ⟨hf.2 ⟨a, b, c, d⟩, fun x hx => ?_⟩
    have hk : k = 3 ∨ k = 4 ∨ k = 5 ∨ k = 6 ∨ k = 7 ∨ k = 8 ∨ k = 9 ∨ k = 13 ∨ k = 19 ∨ k = 20 := by
      apply Classical.byContradiction
      intro hc
      unfold kidsB at a
      rw [if_neg (by omega), if_neg (by omega), if_neg (by omega), if_neg (by omega)] at a
      simp at a
      rw [a] at hx
      cases hx
    rw [takes_cls k _ hk]
    exact h2 x hx
/-- The part at i is right where it stands. -/
structure OkA (T : List Pt) (i : Nat) : Prop where
  many : (pt T i).kids.length ≤ (fre T i).length
  kids : (pt T i).kids = (fre T i).drop ((fre T i).length - (pt T i).kids.length)
  tab : tabD T (pt T i)
theorem fre_len (T : List Pt) : ∀ i, (fre T i).length ≤ i
  | 0 => by simp [fre]
  | i + 1 => by
    have := fre_len T i
    simp [fre]
    omega
theorem fre_mem (T : List Pt) : ∀ i x, x ∈ fre T i → 0 ≤ x ∧ x < i
  | 0, x, h => by simp [fre] at h
  | i + 1, x, h => by
    unfold fre at h
    rcases List.mem_append.1 h with h | h
    · have := fre_mem T i x (List.mem_of_mem_take h)
      omega
    · simp at h
      omega
theorem OkA.lt {T : List Pt} {i : Nat} (h : OkA T i) {x : Int} (hx : x ∈ (pt T i).kids) : 0 ≤ x ∧ x < i := by
  rw [h.kids] at hx
  exact fre_mem T i x (List.mem_of_mem_drop hx)
/-- The first part that bars the tree; none does; the last one is no condition, or one is left. -/
def Bar (T : List Pt) (i : Nat) : Prop := i < T.length ∧ ¬ OkA T i ∧ ∀ j, j < i → OkA T j
def Ok0 (T : List Pt) : Prop := ∀ j, j < T.length → OkA T j
def Lst (T : List Pt) : Prop := ¬ (1 ≤ (pt T (T.length - 1)).kind ∧ (pt T (T.length - 1)).kind ≤ 10) ∨ 1 < (fre T T.length).length
/-- How much more stands round a kid. -/
def btw (k n : Int) : Int := (if opB k then 1 else 0) + (if brB k n then 1 else 0)
theorem btw_le (k n : Int) : 0 ≤ btw k n ∧ btw k n ≤ 2 := by unfold btw; split <;> split <;> omega
def inn (T : List Pt) (i : Nat) (ks n : List Int) : List Int := ks.foldl (fun n x => n.set x.toNat (n.getD i 0 + btw (pt T i).kind (pt T x.toNat).kind)) n
def nsts (T : List Pt) : Nat → List Int → List Int
  | 0, n => n
  | i + 1, n => nsts T i (inn T i (pt T i).kids n)
def nests (T : List Pt) : List Int := nsts T T.length (List.replicate T.length 0)
theorem inn_len (T : List Pt) (i : Nat) : ∀ (ks n : List Int), (inn T i ks n).length = n.length
  | [], n => rfl
  | x :: ks, n => by
    show (inn T i ks _).length = _
    rw [inn_len T i ks]
    simp
theorem nsts_len (T : List Pt) : ∀ (i : Nat) (n : List Int), (nsts T i n).length = n.length
  | 0, n => rfl
  | i + 1, n => by rw [nsts, nsts_len T i, inn_len]
theorem nests_len (T : List Pt) : (nests T).length = T.length := by unfold nests; rw [nsts_len]; simp
/-- No nest is greater than twice what lies behind its place. -/
def Sm (L : Nat) (n : List Int) : Prop := ∀ j, j < n.length → 0 ≤ n.getD j 0 ∧ n.getD j 0 ≤ 2 * ((L : Int) - 1 - j)
theorem Sm.set {L : Nat} {n : List Int} {i x : Nat} {v : Int} (h : Sm L n) (hi : i < n.length) (hx : x < i) (hv : 0 ≤ v ∧ v ≤ n.getD i 0 + 2) : Sm L (n.set x v) := by
  intro j hj
  rw [List.length_set] at hj
  have hi' := h i hi
  by_cases e : j = x
  · subst e
    have : (n.set j v).getD j 0 = v := by rw [List.getD_eq_getElem?_getD, List.getElem?_set_self hj]; rfl
    rw [this]
    omega
  · have : (n.set x v).getD j 0 = n.getD j 0 := by rw [List.getD_eq_getElem?_getD, List.getD_eq_getElem?_getD, List.getElem?_set_ne (by omega)]
    rw [this]
    exact h j hj
def Deep (T : List Pt) (i : Nat) : Prop := i < T.length ∧ 32 < (nests T).getD i 0 ∧ ∀ j, j < i → (nests T).getD j 0 ≤ 32
def NoDeep (T : List Pt) : Prop := ∀ j, j < T.length → (nests T).getD j 0 ≤ 32
/-- What Valid answers: a code (0: nothing bars) and a place. -/
def Res (T : List Pt) (c a : Nat) : Prop :=
  (T.length = 0 ∧ c = 130 ∧ a = 0) ∨ (1000 < T.length ∧ c = 130 ∧ a = 1000) ∨
  (1 ≤ T.length ∧ T.length ≤ 1000 ∧ ((Bar T a ∧ c = 130) ∨ (Ok0 T ∧ Lst T ∧ c = 130 ∧ a = T.length - 1) ∨
    (Ok0 T ∧ ¬ Lst T ∧ ((Deep T a ∧ c = 122) ∨ (NoDeep T ∧ c = 0 ∧ a = 0)))))
theorem Bar.one {T : List Pt} {i j : Nat} (h : Bar T i) (k : Bar T j) : i = j := by
  rcases Nat.lt_trichotomy i j with h1 | h1 | h1
  · exact absurd (k.2.2 i h1) h.2.1
  · exact h1
  · exact absurd (h.2.2 j h1) k.2.1
theorem Bar.no {T : List Pt} {i : Nat} (h : Bar T i) (k : Ok0 T) : False := h.2.1 (k i h.1)
theorem Deep.one {T : List Pt} {i j : Nat} (h : Deep T i) (k : Deep T j) : i = j := by
  rcases Nat.lt_trichotomy i j with h1 | h1 | h1
  · have := k.2.2 i h1; have := h.2.1; omega
  · exact h1
  · have := h.2.2 j h1; have := k.2.1; omega
theorem Deep.no {T : List Pt} {i : Nat} (h : Deep T i) (k : NoDeep T) : False := by have := h.2.1; have := k i h.1; omega
theorem res_one {T : List Pt} {c a c' a' : Nat} (h : Res T c a) (k : Res T c' a') : c = c' ∧ a = a' := by
  rcases h with ⟨h0, rfl, rfl⟩ | ⟨h0, rfl, rfl⟩ | ⟨h0, h1, h⟩
  · rcases k with ⟨_, rfl, rfl⟩ | ⟨k0, _⟩ | ⟨k0, _⟩
    · exact ⟨rfl, rfl⟩
    · omega
    · omega
  · rcases k with ⟨k0, _⟩ | ⟨_, rfl, rfl⟩ | ⟨_, k0, _⟩
    · omega
    · exact ⟨rfl, rfl⟩
    · omega
  · rcases k with ⟨k0, _⟩ | ⟨k0, _⟩ | ⟨_, _, k⟩
    · omega
    · omega
    · rcases h with ⟨hb, rfl⟩ | ⟨ho, hl, rfl, rfl⟩ | ⟨ho, hl, h⟩
      · rcases k with ⟨kb, rfl⟩ | ⟨ko, _⟩ | ⟨ko, _⟩
        · exact ⟨rfl, hb.one kb⟩
        · exact (hb.no ko).elim
        · exact (hb.no ko).elim
      · rcases k with ⟨kb, rfl⟩ | ⟨ko, kl, rfl, rfl⟩ | ⟨ko, kl, _⟩
        · exact (kb.no ho).elim
        · exact ⟨rfl, rfl⟩
        · exact absurd hl kl
      · rcases k with ⟨kb, rfl⟩ | ⟨ko, kl, rfl, rfl⟩ | ⟨ko, kl, k⟩
        · exact (kb.no ho).elim
        · exact absurd kl hl
        · rcases h with ⟨hd, rfl⟩ | ⟨hd, rfl, rfl⟩
          · rcases k with ⟨kd, rfl⟩ | ⟨kd, rfl, rfl⟩
            · exact ⟨rfl, hd.one kd⟩
            · exact (hd.no kd).elim
          · rcases k with ⟨kd, rfl⟩ | ⟨kd, rfl, rfl⟩
            · exact (kd.no hd).elim
            · exact ⟨rfl, rfl⟩
end Go.Proofs.YtlhlpamciafocaaGreatDoor.L
