import Derived.WalkKit
import Derived.WalkSpells
import Derived.WalkLawsBesides
import Derived.Handy
import Derived.Test.YtiddnjjaidiohaaGreatDoorProg
import Derived.Deep.QuietTactic
import Derived.Deep.RegionHeld3
import Derived.BigQuiet
import Derived.OwnWalk
import Derived.Laws.AppendOwnNone
import Derived.RangeFuncBox
import Derived.Deep.Cut
import Derived.Lib.Bytealg
import Derived.Shelf.Strings.Split
namespace Go.Proofs.YtiddnjjaidiohaaGreatDoor.L
open Go.RowKit
set_option linter.unusedVariables false
theorem hid {p : Prop} (h : p) : Hid p := h
theorem ret_bool {a b : Bool} (h : a = b) : Ending.returned (.bool a) = .returned (.bool b) := by rw [h]
theorem below_drewN {B : Nat} {a w : World} (h : Below B a w) (n : Nat) : Below B a (w.drewN n) := ⟨h.os, h.tape, h.output, h.size, h.block⟩
theorem belowA (w : World) (o : Obj) : Below w.heap.size w (w.alloc o) := (Below.refl _ _).alloc (Nat.le_refl _) _
theorem lt_blk {W : World} {k : Nat} {o : Obj} (h : W.heap[k]? = some o) : k < W.heap.size := (Array.getElem?_eq_some_iff.1 h).1
/-- What a kind's parts hold. -/
structure Fm where
  cl : Int
  kd : Int
  ls : Int
  ms : Int
  tx : Bool
  lo : Int
  hi : Int
def fmv (f : Fm) : Value := .agg #[.int .i64 f.cl, .int .i64 f.kd, .int .i64 f.ls, .int .i64 f.ms, .bool f.tx, .int .i64 f.lo, .int .i64 f.hi]
def fmO (k : Int) : Fm :=
  if k = 1 ∨ k = 2 then ⟨1, 0, 0, 0, false, 0, 0⟩
  else if k = 3 then ⟨1, 1, 1, 1, false, 0, 0⟩
  else if k = 4 ∨ k = 5 then ⟨1, 1, 2, 1000, false, 0, 0⟩
  else if k = 6 then ⟨1, 2, 2, 2, false, 1, 6⟩
  else if k = 7 then ⟨1, 2, 2, 2, false, 0, 1⟩
  else if k = 8 ∨ k = 9 then ⟨1, 1, 1, 1, true, 0, 0⟩
  else if k = 10 then ⟨1, 0, 0, 0, true, 0, 0⟩
  else if k = 11 then ⟨3, 0, 0, 0, true, 0, 0⟩
  else if k = 12 then ⟨3, 0, 0, 0, false, -999999999999999999, 999999999999999999⟩
  else if k = 13 then ⟨2, 3, 0, 64, false, 0, 0⟩
  else if k = 14 ∨ k = 18 then ⟨2, 0, 0, 0, true, 1, 3⟩
  else if k = 15 ∨ k = 16 ∨ k = 17 then ⟨2, 0, 0, 0, false, 1, 3⟩
  else if k = 19 then ⟨2, 2, 1, 1, false, 0, 0⟩
  else if k = 20 then ⟨2, 1, 1, 1, true, 0, 0⟩
  else ⟨0, 0, 0, 0, false, 0, 0⟩
theorem kind_cases (k : Int) : (k = 1 ∨ k = 2 ∨ k = 3 ∨ k = 4 ∨ k = 5 ∨ k = 6 ∨ k = 7 ∨ k = 8 ∨ k = 9 ∨ k = 10 ∨ k = 11 ∨ k = 12 ∨ k = 13 ∨ k = 14 ∨ k = 15 ∨ k = 16 ∨ k = 17 ∨ k = 18 ∨ k = 19 ∨ k = 20) ∨ (k < 1 ∨ 20 < k) := by omega
end Go.Proofs.YtiddnjjaidiohaaGreatDoor.L
namespace Go.Proofs.YtiddnjjaidiohaaGreatDoor.L
set_option linter.unusedVariables false
abbrev Lb := ByteArray × ByteArray
theorem less_irrefl (x : List UInt8) : Op.bytesLess x x = false := by
  induction x with
  | nil => rfl
  | cons a x ih => simp [Op.bytesLess, ih]
theorem less_total (x y : List UInt8) : Op.bytesLess x y = true ∨ x = y ∨ Op.bytesLess y x = true := by
  induction x generalizing y with
  | nil => cases y with
    | nil => exact Or.inr (Or.inl rfl)
    | cons b y => exact Or.inl rfl
  | cons a x ih => cases y with
    | nil => exact Or.inr (Or.inr rfl)
    | cons b y =>
      simp only [Op.bytesLess, Bool.or_eq_true, Bool.and_eq_true, decide_eq_true_eq, beq_iff_eq, List.cons.injEq]
      by_cases h1 : a < b
      · exact Or.inl (Or.inl h1)
      · by_cases h2 : b < a
        · exact Or.inr (Or.inr (Or.inl h2))
        · have e : a = b := by
            rw [UInt8.lt_iff_toNat_lt] at h1 h2
            exact UInt8.toNat_inj.1 (by omega)
          rcases ih y with h | h | h
          · exact Or.inl (Or.inr ⟨e, h⟩)
          · exact Or.inr (Or.inl ⟨e, h⟩)
          · exact Or.inr (Or.inr (Or.inr ⟨e.symm, h⟩))
theorem less_trans (x y z : List UInt8) (h1 : Op.bytesLess x y = true) (h2 : Op.bytesLess y z = true) : Op.bytesLess x z = true := by
  induction x generalizing y z with
  | nil => cases z with
    | nil => cases y <;> simp [Op.bytesLess] at h2
    | cons c z => rfl
  | cons a x ih => cases y with
    | nil => simp [Op.bytesLess] at h1
    | cons b y => cases z with
      | nil => simp [Op.bytesLess] at h2
      | cons c z =>
        simp only [Op.bytesLess, Bool.or_eq_true, Bool.and_eq_true, decide_eq_true_eq, beq_iff_eq] at h1 h2 ⊢
        rw [UInt8.lt_iff_toNat_lt] at h1 h2 ⊢
        rcases h1 with h1 | ⟨rfl, h1⟩ <;> rcases h2 with h2 | ⟨rfl, h2⟩
        · exact Or.inl (by omega)
        · exact Or.inl h1
        · exact Or.inl h2
        · exact Or.inr ⟨rfl, ih y z h1 h2⟩
theorem less_asymm (x y : List UInt8) (h : Op.bytesLess x y = true) : Op.bytesLess y x = false ∧ (x == y) = false ∧ (y == x) = false := by
  refine ⟨?_, ?_, ?_⟩
  · cases e : Op.bytesLess y x
    · rfl
    · have := less_trans x y x h e
      rw [less_irrefl] at this
      cases this
  · simp
    rintro rfl
    rw [less_irrefl] at h
    cases h
  · simp
    rintro rfl
    rw [less_irrefl] at h
    cases h
theorem bytes_toList (s : ByteArray) : s.toList = s.data.toList := by
  exact ByteArray.toList_eq s
theorem bytes_ext {s t : ByteArray} (h : s.toList = t.toList) : s = t := by
  rw [bytes_toList, bytes_toList] at h
  cases s; cases t
  simp at h
  rw [h]
def Lt (x y : Lb) : Prop := Op.bytesLess x.1.toList y.1.toList = true
/-- A list whose keys rise. -/
def Up (l : List Lb) : Prop := l.Pairwise Lt
theorem lt_trans {x y z : Lb} (h : Lt x y) (h' : Lt y z) : Lt x z := less_trans _ _ _ h h'
theorem lt_irrefl {x : Lb} (h : Lt x x) : False := by
  unfold Lt at h
  rw [less_irrefl] at h
  cases h
theorem up_unique {a b : List Lb} (ha : Up a) (hb : Up b) (h : ∀ x, x ∈ a ↔ x ∈ b) : a = b := by
  induction a generalizing b with
  | nil => cases b with
    | nil => rfl
    | cons y b => exact absurd ((h y).2 (by simp)) (by simp)
  | cons x a ih => cases b with
    | nil => exact absurd ((h x).1 (by simp)) (by simp)
    | cons y b =>
      obtain ⟨a1, a2⟩ := List.pairwise_cons.1 ha
      obtain ⟨b1, b2⟩ := List.pairwise_cons.1 hb
      have e : x = y := by
        rcases List.mem_cons.1 ((h x).1 (by simp)) with e | e
        · exact e
        · rcases List.mem_cons.1 ((h y).2 (by simp)) with f | f
          · exact f.symm
          · exact (lt_irrefl (lt_trans (a1 y f) (b1 x e))).elim
      subst e
      rw [ih a2 b2 fun z => ?_]
      constructor
      · intro hz
        rcases List.mem_cons.1 ((h z).1 (by simp [hz])) with e | e
        · rw [e] at hz
          exact (lt_irrefl (a1 _ hz)).elim
        · exact e
      · intro hz
        rcases List.mem_cons.1 ((h z).2 (by simp [hz])) with e | e
        · rw [e] at hz
          exact (lt_irrefl (b1 _ hz)).elim
        · exact e
/-- Two of a rising list with one key are one. -/
theorem up_key {l : List Lb} (h : Up l) {x y : Lb} (hx : x ∈ l) (hy : y ∈ l) (e : x.1 = y.1) : x = y := by
  induction l with
  | nil => simp at hx
  | cons z l ih =>
    obtain ⟨h1, h2⟩ := List.pairwise_cons.1 h
    have no : ∀ {u : Lb}, u ∈ l → z.1 = u.1 → False := fun {u} hu e => by
      have := h1 u hu
      unfold Lt at this
      rw [e, less_irrefl] at this
      cases this
    rcases List.mem_cons.1 hx with hx | hx <;> rcases List.mem_cons.1 hy with hy | hy
    · rw [hx, hy]
    · exact (no hy (by rw [← hx]; exact e)).elim
    · exact (no hx (by rw [← hy]; exact e.symm)).elim
    · exact ih h2 hx hy
end Go.Proofs.YtiddnjjaidiohaaGreatDoor.L
namespace Go.Proofs.YtiddnjjaidiohaaGreatDoor.L
open Go.RowKit
set_option linter.unusedVariables false
def lowB (c : Int) : Bool := decide (97 ≤ c ∧ c ≤ 122) || decide (48 ≤ c ∧ c ≤ 57)
def wordB (c : Int) : Bool := lowB c || decide (65 ≤ c ∧ c ≤ 90)
def innB (c : Int) : Bool := wordB c || c == 45 || c == 95 || c == 46
theorem low_any (c : Int) (w : World) : Calls Tryz.prog 111 #[.int .u8 c] w fun e w' => e = .returned (.bool (lowB c)) ∧ w' = w := by
  unfold lowB
  by_cases a : 97 ≤ c
  · by_cases b : c ≤ 122
    · go_enter Tryz.func111, Tryz.ntmps111
      go_wp2
      go_ret
      exact ⟨ret_bool (by simp [a, b]), rfl⟩
    · have a2 : 48 ≤ c := by omega
      have b2 : ¬ c ≤ 57 := by omega
      go_enter Tryz.func111, Tryz.ntmps111
      go_wp2
      go_ret
      exact ⟨ret_bool (by simp; omega), rfl⟩
  · by_cases a2 : 48 ≤ c
    · by_cases b2 : c ≤ 57
      · go_enter Tryz.func111, Tryz.ntmps111
        go_wp2
        go_ret
        exact ⟨ret_bool (by simp), rfl⟩
      · go_enter Tryz.func111, Tryz.ntmps111
        go_wp2
        go_ret
        exact ⟨ret_bool (by simp; omega), rfl⟩
    · go_enter Tryz.func111, Tryz.ntmps111
      go_wp2
      go_ret
      exact ⟨ret_bool (by simp; omega), rfl⟩
theorem word_any (c : Int) (w : World) : Calls Tryz.prog 107 #[.int .u8 c] w fun e w' => e = .returned (.bool (wordB c)) ∧ w' = w := by
  have HL := hid (fun W => low_any c W)
  unfold wordB
  cases e1 : lowB c
  · rw [e1] at HL
    by_cases a : 65 ≤ c
    · by_cases b : c ≤ 90
      · go_enter Tryz.func107, Tryz.ntmps107
        go_wp2_with (go_at_call 111; refine (HL.out _).mono ?_; rintro e w1 ⟨rfl, hww⟩; subst hww)
        go_ret
        exact ⟨ret_bool (by simp [a, b]), rfl⟩
      · go_enter Tryz.func107, Tryz.ntmps107
        go_wp2_with (go_at_call 111; refine (HL.out _).mono ?_; rintro e w1 ⟨rfl, hww⟩; subst hww)
        go_ret
        exact ⟨ret_bool (by simp; omega), rfl⟩
    · go_enter Tryz.func107, Tryz.ntmps107
      go_wp2_with (go_at_call 111; refine (HL.out _).mono ?_; rintro e w1 ⟨rfl, hww⟩; subst hww)
      go_ret
      exact ⟨ret_bool (by simp; omega), rfl⟩
  · rw [e1] at HL
    go_enter Tryz.func107, Tryz.ntmps107
    go_wp2_with (go_at_call 111; refine (HL.out _).mono ?_; rintro e w1 ⟨rfl, hww⟩; subst hww)
    go_ret
    exact ⟨ret_bool (by simp), rfl⟩
def at' (s : ByteArray) (i : Nat) : Int := ((s.data.toList.getD i 0).toNat : Int)
theorem at_get (s : ByteArray) (k : Nat) (h : k < s.size) : at' s k = ((s[k]'h).toNat : Int) := by
  unfold at'
  simp [h]
  rfl
theorem all_snoc {p : Int → Bool} {s : ByteArray} {k : Nat} (h : ∀ j, j < k → p (at' s j) = true) (h' : p (at' s k) = true) : ∀ j, j < k + 1 → p (at' s j) = true := by
  intro j hj
  by_cases e : j < k
  · exact h j e
  · obtain rfl : j = k := by omega
    exact h'
def allB (p : Int → Bool) (s : ByteArray) : Bool := decide (∀ i, i < s.size → p (at' s i) = true)
theorem all_bad {p : Int → Bool} {s : ByteArray} {k : Nat} (hk : k < s.size) (h : p (at' s k) = false) : allB p s = false := by
  unfold allB
  rw [decide_eq_false]
  intro x
  rw [x k hk] at h
  cases h
theorem all_good {p : Int → Bool} {s : ByteArray} (h : ∀ j, j < s.size → p (at' s j) = true) : allB p s = true := by
  unfold allB
  exact decide_eq_true h
set_option maxHeartbeats 4000000 in
theorem plain_any (s : ByteArray) (w : World) (hs : s.size ≤ maxLen) : Calls Tryz.prog 106 #[.string s] w fun e w' => e = .returned (.bool (allB innB s)) ∧ w' = w := by
  unfold maxLen at hs
  go_enter Tryz.func106, Tryz.ntmps106
  go_wp2
  go_loop [6] (fun i => ∃ k : Nat, k ≤ s.size ∧ i = .int .i64 k ∧ Hid (∀ j, j < k → innB (at' s j) = true)) (fun i => s.size - (intOf i).toNat)
  case atStart => exact ⟨0, Nat.zero_le _, rfl, hid (fun j hj => by omega)⟩
  case round =>
    obtain ⟨k, hk, rfl, HO⟩ := hrel
    by_cases hlt : k < s.size
    · obtain ⟨c, hc⟩ : ∃ c : Int, ((s[k]'hlt).toNat : Int) = c := ⟨_, rfl⟩
      have HC := hid ((at_get s k hlt).trans hc)
      have HL := hid (fun W => word_any c W)
      by_cases c1 : wordB c = true
      · rw [c1] at HL
        have HO2 := hid (all_snoc (p := innB) HO.out (show innB (at' s k) = true by rw [HC.out]; unfold innB; rw [c1]; rfl))
        clear HO HC c1
        go_wp2_with (go_at_call 107; refine (HL.out _).mono ?_; rintro e w1 ⟨rfl, hww⟩; subst hww)
        exact ⟨⟨k + 1, by omega, by go_num, HO2⟩, by simp [intOf]; omega⟩
      · have c1' : wordB c = false := by simpa using c1
        rw [c1'] at HL
        by_cases c3 : c = 45
        · subst c3
          have HO2 := hid (all_snoc (p := innB) HO.out (show innB (at' s k) = true by rw [HC.out]; decide))
          clear HO HC c1 c1'
          go_wp2_with (go_at_call 107; refine (HL.out _).mono ?_; rintro e w1 ⟨rfl, hww⟩; subst hww)
          exact ⟨⟨k + 1, by omega, by go_num, HO2⟩, by simp [intOf]; omega⟩
        · by_cases c4 : c = 95
          · subst c4
            have HO2 := hid (all_snoc (p := innB) HO.out (show innB (at' s k) = true by rw [HC.out]; decide))
            clear HO HC c1 c1' c3
            go_wp2_with (go_at_call 107; refine (HL.out _).mono ?_; rintro e w1 ⟨rfl, hww⟩; subst hww)
            exact ⟨⟨k + 1, by omega, by go_num, HO2⟩, by simp [intOf]; omega⟩
          · by_cases c5 : c = 46
            · subst c5
              have HO2 := hid (all_snoc (p := innB) HO.out (show innB (at' s k) = true by rw [HC.out]; decide))
              clear HO HC c1 c1' c3 c4
              go_wp2_with (go_at_call 107; refine (HL.out _).mono ?_; rintro e w1 ⟨rfl, hww⟩; subst hww)
              exact ⟨⟨k + 1, by omega, by go_num, HO2⟩, by simp [intOf]; omega⟩
            · have HN := hid (all_bad (p := innB) hlt (show innB (at' s k) = false by rw [HC.out]; unfold innB; simp [c1', c3, c4, c5]))
              have b3 : (c != 45) = true := by simpa using c3
              have b4 : (c != 95) = true := by simpa using c4
              have b5 : (c != 46) = true := by simpa using c5
              clear c1 c1' c3 c4 c5
              go_wp2_with (go_at_call 107; refine (HL.out _).mono ?_; rintro e w1 ⟨rfl, hww⟩; subst hww)
              go_ret
              exact ⟨ret_bool HN.out.symm, rfl⟩
    · obtain rfl : k = s.size := by omega
      have HN := hid (all_good HO.out)
      go_wp2
      go_ret
      exact ⟨ret_bool HN.out.symm, rfl⟩
theorem empty_yes {s : ByteArray} (h : s.size = 0) : s.toList.isEmpty = true := by
  rw [ByteArray.toList_eq]
  simp
  rw [ByteArray.size_eq_zero_iff.1 h]
  rfl
theorem empty_no {s : ByteArray} (h : s.size ≠ 0) : s.toList.isEmpty = false := by
  rw [ByteArray.toList_eq]
  cases e : s.data.toList.isEmpty
  · rfl
  · simp at e
    exact absurd (by show s.data.size = 0; rw [e]; rfl) h
def valB (s : ByteArray) : Bool := decide (s.size = 0) || (decide (s.size ≤ 63) && allB innB s && (wordB (at' s 0) || at' s 0 == 45) && wordB (at' s (s.size - 1)))
end Go.Proofs.YtiddnjjaidiohaaGreatDoor.L
namespace Go.Proofs.YtiddnjjaidiohaaGreatDoor.L
open Go.RowKit
set_option linter.unusedVariables false
/-- The first place of a byte, or -1. -/
def idx (s : ByteArray) (c : UInt8) : Int := Lib.indexByte s.data.toList c
set_option maxHeartbeats 1000000 in
set_option maxRecDepth 100000 in
theorem ib_any (s : ByteArray) (c : UInt8) (w : World) : Calls Tryz.prog 113 #[.string s, .int .u8 (c.toNat : Int)] w fun e w' => e = .returned (.int .i64 (idx s c)) ∧ w' = w := by
  go_enter Tryz.func113, Tryz.ntmps113
  go_wp2
  rw [run_callFunc_extern Tryz.func120 (by kernel_rfl) (by kernel_rfl) (by kernel_rfl) (e := Extern.BytealgIndexByte.indexByte) (by kernel_rfl), Lib.run_indexByteString]
  simp only [Result.andThen]
  rw [Oper.upon_value]
  go_wp2
  go_ret
  exact ⟨by unfold idx; simp, rfl⟩
set_option maxHeartbeats 1000000 in
set_option maxRecDepth 100000 in
theorem ix_any (s : ByteArray) (c : UInt8) (w : World) : Calls Tryz.prog 110 #[.string s, .string ⟨#[c]⟩] w fun e w' => e = .returned (.int .i64 (idx s c)) ∧ w' = w := by
  have HI := hid (fun W => ib_any s c W)
  cases h : ([c] == s.toList)
  · generalize idx s c = i at *
    go_enter Tryz.func110, Tryz.ntmps110
    go_wp2_with (go_at_call 113; refine (HI.out _).mono ?_; rintro e w1 ⟨rfl, hww⟩; subst hww)
    go_ret
    exact ⟨rfl, rfl⟩
  · have h' : idx s c = 0 := by
      simp at h
      unfold idx
      rw [← ByteArray.toList_eq, ← h]
      simp [Lib.indexByte]
    have H := hid h'
    go_enter Tryz.func110, Tryz.ntmps110
    go_wp2
    go_ret
    exact ⟨by rw [H.out]; rfl, rfl⟩
/-- What stands ahead of the first place of a byte, and behind it. -/
theorem idx_cases (s : ByteArray) (c : UInt8) : idx s c = -1 ∨ ∃ i : Nat, idx s c = i ∧ i < s.size := by
  have key : ∀ l : List UInt8, Lib.indexByte l c = -1 ∨ ∃ i : Nat, Lib.indexByte l c = i ∧ i < l.length := by
    intro l
    induction l with
    | nil => exact Or.inl rfl
    | cons b l ih =>
      unfold Lib.indexByte
      by_cases e : (b == c) = true
      · rw [if_pos e]
        exact Or.inr ⟨0, rfl, by simp⟩
      · rw [if_neg e]
        rcases ih with h | ⟨i, h, hi⟩
        · rw [h]; exact Or.inl rfl
        · rw [h, if_neg (by simp)]
          exact Or.inr ⟨i + 1, rfl, by simpa using hi⟩
  exact key _
set_option maxHeartbeats 1000000 in
set_option maxRecDepth 100000 in
theorem lcut_no (s : ByteArray) (c : UInt8) (w : World) (h : idx s c = -1) : Calls Tryz.prog 105 #[.string s, .string ⟨#[c]⟩] w fun e w' => e = .returned (.tuple #[.string s, .string ByteArray.empty, .bool false]) ∧ w' = w := by
  have HI := hid (fun W => ix_any s c W)
  rw [h] at HI
  go_enter Tryz.func105, Tryz.ntmps105
  go_wp2_with (go_at_call 110; refine (HI.out _).mono ?_; rintro e w1 ⟨rfl, hww⟩; subst hww)
  go_ret3
  exact ⟨rfl, rfl⟩
set_option maxHeartbeats 1000000 in
set_option maxRecDepth 100000 in
theorem cut_no (s : ByteArray) (c : UInt8) (w : World) (h : idx s c = -1) : Calls Tryz.prog 100 #[.string s, .string ⟨#[c]⟩] w fun e w' => e = .returned (.tuple #[.string s, .string ByteArray.empty, .bool false]) ∧ w' = w := by
  have HI := hid (fun W => lcut_no s c W h)
  go_enter Tryz.func100, Tryz.ntmps100
  go_wp2_with (go_at_call 105; refine (HI.out _).mono ?_; rintro e w1 ⟨rfl, hww⟩; subst hww)
  go_ret3
  exact ⟨rfl, rfl⟩
set_option maxHeartbeats 1000000 in
set_option maxRecDepth 100000 in
theorem lcut_yes (s : ByteArray) (c : UInt8) (i : Nat) (w : World) (hs : s.size ≤ maxLen) (h : idx s c = i) (hi : i < s.size) : Calls Tryz.prog 105 #[.string s, .string ⟨#[c]⟩] w fun e w' => e = .returned (.tuple #[.string (s.extract 0 i), .string (s.extract (i + 1) s.size), .bool true]) ∧ ∃ n, w' = w.drewN n := by
  have HI := hid (fun W => ix_any s c W)
  rw [h] at HI
  unfold maxLen at hs
  go_enter Tryz.func105, Tryz.ntmps105
  go_wp2_with (go_at_call 110; refine (HI.out _).mono ?_; rintro e w1 ⟨rfl, hww⟩; subst hww)
  go_quiet (fail)
  go_wp2_with fail
  go_ret3
  exact ⟨rfl, _, rfl⟩
set_option maxHeartbeats 1000000 in
set_option maxRecDepth 100000 in
theorem cut_yes (s : ByteArray) (c : UInt8) (i : Nat) (w : World) (hs : s.size ≤ maxLen) (h : idx s c = i) (hi : i < s.size) : Calls Tryz.prog 100 #[.string s, .string ⟨#[c]⟩] w fun e w' => e = .returned (.tuple #[.string (s.extract 0 i), .string (s.extract (i + 1) s.size), .bool true]) ∧ ∃ n, w' = w.drewN n := by
  have HI := hid (fun W => lcut_yes s c i W hs h hi)
  go_enter Tryz.func100, Tryz.ntmps100
  go_wp2_with (go_at_call 105; refine (HI.out _).mono ?_; rintro e w1 ⟨rfl, n, hww⟩; subst hww)
  go_ret3
  exact ⟨rfl, n, rfl⟩
set_option maxHeartbeats 1000000 in
set_option maxRecDepth 100000 in
theorem sindex_any (s : ByteArray) (c : UInt8) (w : World) : Calls Tryz.prog 119 #[.string s, .string ⟨#[c]⟩] w fun e w' => e = .returned (.int .i64 (idx s c)) ∧ w' = w := by
  have HI := hid (fun W => ix_any s c W)
  generalize idx s c = i at *
  go_enter Tryz.func119, Tryz.ntmps119
  go_wp2_with (go_at_call 110; refine (HI.out _).mono ?_; rintro e w1 ⟨rfl, hww⟩; subst hww)
  go_ret
  exact ⟨rfl, rfl⟩
set_option maxHeartbeats 1000000 in
set_option maxRecDepth 100000 in
theorem count_any (s : ByteArray) (c : UInt8) (w : World) : Calls Tryz.prog 118 #[.string s, .string ⟨#[c]⟩] w fun e w' => e = .returned (.int .i64 (Lib.countByte s.data.toList c)) ∧ w' = w := by
  go_enter Tryz.func118, Tryz.ntmps118
  go_wp2
  rw [run_callFunc_extern Tryz.func124 (by kernel_rfl) (by kernel_rfl) (by kernel_rfl) (e := Extern.BytealgCount.count) (by kernel_rfl), Lib.run_countString]
  simp only [Result.andThen]
  rw [Oper.upon_value]
  go_wp2
  go_ret
  exact ⟨by simp; rfl, rfl⟩
end Go.Proofs.YtiddnjjaidiohaaGreatDoor.L
namespace Go.Proofs.YtiddnjjaidiohaaGreatDoor
open Go.Shelf
def lays221_ren : Go.Shelf.Ren := ⟨fun | 221 => 112 | 268 => 117 | 138 => 118 | 143 => 119 | 195 => 122 | 197 => 123 | 218 => 124 | 219 => 110 | 260 => 125 | 217 => 113 | 225 => 114 | 224 => 115 | 267 => 116 | 266 => 120 | 314 => 121 | n => n, fun | 9 => 9 | 3 => 3 | 31 => 107 | 4 => 4 | 0 => 0 | 105 => 166 | 21 => 21 | 5 => 5 | 46 => 160 | 119 => 168 | 139 => 171 | 138 => 170 | 146 => 163 | 51 => 162 | n => n, fun | 1 => 1 | 3 => 2 | 4 => 3 | n => n⟩
theorem lays221 : Go.Proofs.Lays.n221 Tryz.prog lays221_ren := {
  mixed := by kernel_rfl
  f138 := Tryz.func118.trans (congrArg some (by kernel_rfl))
  f143 := Tryz.func119.trans (congrArg some (by kernel_rfl))
  f195 := Tryz.func122.trans (congrArg some (by kernel_rfl))
  f197 := Tryz.func123.trans (congrArg some (by kernel_rfl))
  f217 := Tryz.func113.trans (congrArg some (by kernel_rfl))
  f218 := Tryz.func124.trans (congrArg some (by kernel_rfl))
  f219 := Tryz.func110.trans (congrArg some (by kernel_rfl))
  f221 := Tryz.func112.trans (congrArg some (by kernel_rfl))
  f224 := Tryz.func115.trans (congrArg some (by kernel_rfl))
  f225 := Tryz.func114.trans (congrArg some (by kernel_rfl))
  f260 := Tryz.func125.trans (congrArg some (by kernel_rfl))
  f266 := Tryz.func120.trans (congrArg some (by kernel_rfl))
  f267 := Tryz.func116.trans (congrArg some (by kernel_rfl))
  f268 := Tryz.func117.trans (congrArg some (by kernel_rfl))
  f314 := Tryz.func121.trans (congrArg some (by kernel_rfl))
  t0 := Tryz.underlying0
  a0 := Tryz.isAgg0
  z0 := Tryz.sizeOf0
  v0 := Tryz.zeroValue0
  t3 := Tryz.underlying3
  a3 := Tryz.isAgg3
  z3 := Tryz.sizeOf3
  v3 := Tryz.zeroValue3
  t4 := Tryz.underlying4
  a4 := Tryz.isAgg4
  z4 := Tryz.sizeOf4
  v4 := Tryz.zeroValue4
  t5 := Tryz.underlying5
  a5 := Tryz.isAgg5
  z5 := Tryz.sizeOf5
  v5 := Tryz.zeroValue5
  t9 := Tryz.underlying9
  a9 := Tryz.isAgg9
  z9 := Tryz.sizeOf9
  v9 := Tryz.zeroValue9
  t21 := Tryz.underlying21
  a21 := Tryz.isAgg21
  z21 := Tryz.sizeOf21
  v21 := Tryz.zeroValue21
  t31 := Tryz.underlying107
  a31 := Tryz.isAgg107
  z31 := Tryz.sizeOf107
  v31 := Tryz.zeroValue107
  t46 := Tryz.underlying160
  a46 := Tryz.isAgg160
  z46 := Tryz.sizeOf160
  v46 := Tryz.zeroValue160
  t51 := Tryz.underlying162
  a51 := Tryz.isAgg162
  z51 := Tryz.sizeOf162
  v51 := Tryz.zeroValue162
  t105 := Tryz.underlying166
  a105 := Tryz.isAgg166
  z105 := Tryz.sizeOf166
  v105 := Tryz.zeroValue166
  t119 := Tryz.underlying168
  a119 := Tryz.isAgg168
  z119 := Tryz.sizeOf168
  t138 := Tryz.underlying170
  a138 := Tryz.isAgg170
  z138 := Tryz.sizeOf170
  v138 := Tryz.zeroValue170
  t139 := Tryz.underlying171
  a139 := Tryz.isAgg171
  z139 := Tryz.sizeOf171
  v139 := Tryz.zeroValue171
  t146 := Tryz.underlying163
  a146 := Tryz.isAgg163
  z146 := Tryz.sizeOf163
  v146 := Tryz.zeroValue163
  g1 := by kernel_rfl
  g3 := by kernel_rfl
  g4 := by kernel_rfl }
end Go.Proofs.YtiddnjjaidiohaaGreatDoor
