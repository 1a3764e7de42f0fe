import Derived.Test.YtnclpdgbjefpmaaEa
import Derived.WalkKit
import Derived.WalkSpells
import Derived.WalkLawsBesides
import Derived.Handy
import Derived.Deep.QuietTactic
import Derived.BigQuiet
import Derived.RegionTactic
import Derived.ChangeAlike
import Derived.BigRegion
import Derived.OwnWalk
import Derived.Deep.Cut
import Derived.Deep.CutRange
import Derived.Shelf.RegionOpen
import Derived.Laws.AppendOwnNone
import Derived.Laws.Rows
import Derived.Laws.OwnMore
namespace Go.Proofs.Ytnclpdgbjefpmaa.L
set_option linter.unusedVariables false
set_option linter.unusedSimpArgs false
structure Ins where
  op : Int
  a : Int
  b : Int
  c : Int
deriving DecidableEq, Inhabited
structure Pg where
  tx : List ByteArray
  nu : List Int
  st : List (List ByteArray)
  ns : List (List Int)
  cd : List Ins
  dep : Int
  loc : Int
/-- Which operands an Op uses. -/
def us (o : Int) : Bool × Bool × Bool :=
  if o = 1 ∨ o = 2 ∨ o = 3 ∨ o = 4 ∨ o = 5 ∨ o = 6 ∨ o = 7 ∨ o = 13 ∨ o = 14 ∨ o = 24 ∨ o = 26 ∨ o = 31 ∨ o = 32 ∨ o = 33 ∨ o = 34 then (true, false, false)
  else if o = 19 ∨ o = 21 ∨ o = 22 ∨ o = 23 then (false, true, false)
  else if o = 12 ∨ o = 17 then (true, true, false)
  else if o = 25 then (true, false, true)
  else if o = 18 ∨ o = 20 then (false, true, true)
  else if o = 16 then (true, true, true)
  else (false, false, false)
/-- The order of texts, of numbers, of lists. -/
def ltS (a b : ByteArray) : Bool := Op.bytesLess a.toList b.toList
def ltI (a b : Int) : Bool := decide (a < b)
def ltL {α : Type} (lt : α → α → Bool) : List α → List α → Bool
  | [], [] => false
  | [], _ :: _ => true
  | _ :: _, [] => false
  | a :: r, b :: s => if lt a b = true then true else if lt b a = true then false else ltL lt r s
def unz (n : Nat) : Int := if n % 2 = 1 then -(((n + 1) / 2 : Nat) : Int) else ((n / 2 : Nat) : Int)
def zz (z : Int) : Nat := if z < 0 then (-2 * z - 1).toNat else (2 * z).toNat
theorem zz_unz (n : Nat) : zz (unz n) = n := by
  unfold zz unz
  split <;> split <;> omega
theorem unz_zz (z : Int) : unz (zz z) = z := by
  unfold zz unz
  split <;> split <;> omega
def textC : Cod ByteArray := ((Cod.cnt 0 127 (by decide)).seq fun n => Cod.raw n).map (fun x => ⟨x.2.toArray⟩) (fun s => (s.size, s.data.toList)) (by
  rintro ⟨n, l⟩ ⟨_, h⟩
  have h : l.length = n := h
  subst h
  simp [ByteArray.size])
def sgnC : Cod Int := (Cod.cnt 0 2000000000000000000 (by decide)).map unz zz (fun n _ => zz_unz n)
def natC (lo hi : Nat) (h : hi < 128 ^ 9) : Cod Int := (Cod.cnt lo hi h).map (fun n => (n : Int)) Int.toNat (fun n _ => by simp)
def optC (u : Bool) : Cod Int := if u = true then natC 0 65535 (by decide) else Cod.none 0
def insC : Cod Ins := ((Cod.byte 1 36 203 (by decide) (by decide)).seq fun o => (optC (us o.toNat).1).seq fun _ => (optC (us o.toNat).2.1).seq fun _ => optC (us o.toNat).2.2).map
  (fun x => ⟨x.1.toNat, x.2.1, x.2.2.1, x.2.2.2⟩) (fun i => (UInt8.ofNat i.op.toNat, i.a, i.b, i.c)) (by
  rintro ⟨o, a, b, c⟩ _
  simp)
def isC (c : UInt8) : Cod UInt8 := Cod.byte c.toNat c.toNat 200 (by decide) (by decide)
def headC : Cod Unit := ((isC 0x42).seq fun _ => (isC 0x52).seq fun _ => (isC 0x54).seq fun _ => isC 1).map (fun _ => ()) (fun _ => (0x42, 0x52, 0x54, 1)) (by
  rintro ⟨a, b, c, d⟩ ⟨⟨h1, h2⟩, ⟨h3, h4⟩, ⟨h5, h6⟩, h7, h8⟩
  have e1 : a = 0x42 := UInt8.toNat_inj.1 (Nat.le_antisymm h2 h1)
  have e2 : b = 0x52 := UInt8.toNat_inj.1 (Nat.le_antisymm h4 h3)
  have e3 : c = 0x54 := UInt8.toNat_inj.1 (Nat.le_antisymm h6 h5)
  have e4 : d = 1 := UInt8.toNat_inj.1 (Nat.le_antisymm h8 h7)
  rw [e1, e2, e3, e4])
theorem pool_lt (n : Nat) : 4096 - n < 128 ^ 9 := Nat.lt_of_le_of_lt (Nat.sub_le _ _) (by decide)
def txC : Cod (List ByteArray) := textC.lst ltS 0 4096 (by decide)
def nuC (n : Nat) : Cod (List Int) := sgnC.lst ltI 0 (4096 - n) (pool_lt n)
def setC : Cod (List ByteArray) := textC.lst ltS 1 1000 (by decide)
def nsetC : Cod (List Int) := sgnC.lst ltI 1 1000 (by decide)
def stC (n : Nat) : Cod (List (List ByteArray)) := setC.lst (ltL ltS) 0 (4096 - n) (pool_lt n)
def nsC (n : Nat) : Cod (List (List Int)) := nsetC.lst (ltL ltI) 0 (4096 - n) (pool_lt n)
def cdC : Cod (List Ins) := insC.lst (fun _ _ => true) 0 32768 (by decide)
def pgC : Cod Pg := (headC.seq fun _ => (natC 0 128 (by decide)).seq fun _ => (natC 0 1024 (by decide)).seq fun _ => txC.seq fun t => (nuC t.length).seq fun u => (stC (t.length + u.length)).seq fun s => (nsC (t.length + u.length + s.length)).seq fun _ => cdC).map
  (fun x => ⟨x.2.2.2.1, x.2.2.2.2.1, x.2.2.2.2.2.1, x.2.2.2.2.2.2.1, x.2.2.2.2.2.2.2, x.2.1, x.2.2.1⟩)
  (fun p => ((), p.dep, p.loc, p.tx, p.nu, p.st, p.ns, p.cd)) (by
  rintro ⟨⟨⟩, d, l, t, u, s, n, c⟩ _
  rfl)
/-- A program's bytes; has it a form? -/
def enc (p : Pg) : List UInt8 := pgC.W p
def formP (p : Pg) : Prop := pgC.D p
/-- What the bytes are. -/
def dec (B : List UInt8) : Except (Nat × Nat) Pg :=
  match pgC.P B 0 with
  | .ok (p, k) => if k < B.length then .error (206, k) else .ok p
  | .error e => .error e
theorem dec_enc {p : Pg} (h : formP p) : dec (enc p) = .ok p := by
  unfold dec
  rw [show pgC.P (enc p) 0 = .ok (p, 0 + (pgC.W p).length) from pgC.fwd h occ_full]
  simp only [Nat.zero_add]
  rw [if_neg (show ¬ (pgC.W p).length < (enc p).length from Nat.lt_irrefl _)]
theorem enc_dec {B : List UInt8} {p : Pg} (h : dec B = .ok p) : formP p ∧ enc p = B := by
  unfold dec at h
  cases hp : pgC.P B 0 with
  | error e => rw [hp] at h; cases h
  | ok q =>
    obtain ⟨p', k⟩ := q
    rw [hp] at h
    simp only at h
    split at h
    · cases h
    · rename_i hk
      injection h with h
      subst h
      obtain ⟨d, o, e⟩ := pgC.bwd (Nat.zero_le _) hp
      refine ⟨d, ?_⟩
      have hl : (enc p').length = B.length := by have := o.le; show (pgC.W p').length = _; omega
      have := occ_eq o
      rw [List.drop_zero, List.take_of_length_le (show B.length ≤ (pgC.W p').length from by show B.length ≤ (enc p').length; omega)] at this
      exact this.symm
theorem dec_cut {p : Pg} {n : Nat} (h : formP p) (hn : n < (enc p).length) : dec ((enc p).take n) = .error (201, n) := by
  have hl : ((enc p).take n).length = n := by simp; omega
  unfold dec
  rw [show pgC.P ((enc p).take n) 0 = .error (201, ((enc p).take n).length) from pgC.cut h hn ⟨[], [], by simp [enc], rfl⟩ (by rw [hl]; simp), hl]
theorem dec_rest {p : Pg} {r : List UInt8} (h : formP p) (hr : r ≠ []) : dec (enc p ++ r) = .error (206, (enc p).length) := by
  unfold dec
  rw [show pgC.P (enc p ++ r) 0 = .ok (p, 0 + (pgC.W p).length) from pgC.fwd h ⟨[], r, by simp [enc], rfl⟩]
  simp only [Nat.zero_add]
  have : 0 < r.length := List.length_pos_iff.2 hr
  rw [if_pos (by rw [List.length_append]; show (enc p).length < _; omega)]
  rfl
theorem dec_bad {B : List UInt8} {c a : Nat} (h : dec B = .error (c, a)) : 200 ≤ c ∧ c ≤ 206 ∧ a ≤ B.length := by
  unfold dec at h
  cases hp : pgC.P B 0 with
  | error e =>
    obtain ⟨c', a'⟩ := e
    rw [hp] at h
    injection h with h
    injection h with h1 h2
    subst h1 h2
    exact pgC.bad (Nat.zero_le _) hp
  | ok q =>
    obtain ⟨p', k⟩ := q
    rw [hp] at h
    simp only at h
    split at h
    · rename_i hk
      injection h with h
      injection h with h1 h2
      subst h1 h2
      omega
    · cases h
end Go.Proofs.Ytnclpdgbjefpmaa.L
namespace Go.Proofs.Ytnclpdgbjefpmaa.L
open Go.RowKit
set_option linter.unusedVariables false
set_option linter.unusedSimpArgs false
theorem hid {p : Prop} (h : p) : Hid p := h
theorem belowA (w : World) (o : Obj) : Below w.heap.size w (w.alloc o) := (Below.refl _ _).alloc (Nat.le_refl _) _
theorem below_drewN {B : Nat} {a w : World} (h : Below B a w) (n : Nat) : Below B a (w.drewN n) := ⟨h.os, h.tape, h.output, h.size, h.block⟩
theorem bch {w a b : World} (h1 : Below w.heap.size w a) (h2 : Below a.heap.size a b) : Below w.heap.size w b := h1.trans (h2.mono h1.size)
theorem lt_blk {W : World} {k : Nat} {o : Obj} (h : W.heap[k]? = some o) : k < W.heap.size := (Array.getElem?_eq_some_iff.1 h).1
/-- A row of values of one cell each that can be read. -/
def RdV (W : World) (a : Option Addr) (vs : List Value) : Prop := vs.length = 0 ∨ ∃ b off, a = some ⟨b, off, none⟩ ∧ b < W.heap.size ∧ ∀ j, j < vs.length → W.cell? ⟨b, off + j, none⟩ = some (vs.getD j undef)
theorem RdV.low {W W' : World} {a : Option Addr} {vs : List Value} (h : RdV W a vs) (k : Below W.heap.size W W') : RdV W' a vs := by
  rcases h with h | ⟨b, off, rfl, h2, h3⟩
  · exact Or.inl h
  · exact Or.inr ⟨b, off, rfl, Nat.lt_of_lt_of_le h2 k.size, fun j hj => (k.cell (p := ⟨b, off + j, none⟩) h2).trans (h3 j hj)⟩
/-- Of each element: may it stand there, is it behind the one ahead. -/
def risV (n : Nat) (m lt : Nat → Bool) : Bool := (List.range n).all fun j => m j && (j == 0 || lt j)
theorem risV_iff {n : Nat} {m lt : Nat → Bool} : risV n m lt = true ↔ ∀ j, j < n → m j = true ∧ (0 < j → lt j = true) := by
  unfold risV
  rw [List.all_eq_true]
  constructor
  · intro h j hj
    have := h j (by simpa using hj)
    simp only [Bool.and_eq_true, Bool.or_eq_true, beq_iff_eq] at this
    exact ⟨this.1, fun h0 => this.2.resolve_left (by omega)⟩
  · intro h j hj
    have := h j (by simpa using hj)
    simp only [Bool.and_eq_true, Bool.or_eq_true, beq_iff_eq]
    refine ⟨this.1, ?_⟩
    by_cases h0 : j = 0
    · exact Or.inl h0
    · exact Or.inr (this.2 (by omega))
def inR (n lo hi : Int) : Bool := decide (lo ≤ n ∧ n ≤ hi)
theorem within_any (n lo hi : Int) (w : World) : Calls Try.prog 40 #[.int .i64 n, .int .i64 lo, .int .i64 hi] w fun e w' => e = .returned (.bool (inR n lo hi)) ∧ w' = w := by
  unfold inR
  by_cases h1 : lo ≤ n
  · by_cases h2 : n ≤ hi
    · have e1 : decide (lo ≤ n) = true := by simpa using h1
      have e2 : decide (n ≤ hi) = true := by simpa using h2
      rw [show decide (lo ≤ n ∧ n ≤ hi) = true by simp [h1, h2]]
      go_enter Try.func40, Try.ntmps40
      go_wp2
      go_ret
      exact ⟨rfl, rfl⟩
    · have e1 : decide (lo ≤ n) = true := by simpa using h1
      have e2 : decide (n ≤ hi) = false := by simpa using h2
      rw [show decide (lo ≤ n ∧ n ≤ hi) = false by simp [h2]]
      go_enter Try.func40, Try.ntmps40
      go_wp2
      go_ret
      exact ⟨rfl, rfl⟩
  · have e1 : decide (lo ≤ n) = false := by simpa using h1
    rw [show decide (lo ≤ n ∧ n ≤ hi) = false by simp [h1]]
    go_enter Try.func40, Try.ntmps40
    go_wp2
    go_ret
    exact ⟨rfl, rfl⟩
theorem isshort_any (s : ByteArray) (w : World) : Calls Try.prog 42 #[.string s] w fun e w' => e = .returned (.bool (decide ((s.size : Int) ≤ 127))) ∧ w' = w := by
  go_enter Try.func42, Try.ntmps42
  go_wp2
  go_ret
  exact ⟨rfl, rfl⟩
theorem isnum_any (n : Int) (w : World) : Calls Try.prog 45 #[.int .i64 n] w fun e w' => e = .returned (.bool (inR n (-1000000000000000000) 1000000000000000000)) ∧ w' = w := by
  have H := hid (within_any n (-1000000000000000000) 1000000000000000000 w)
  go_enter Try.func45, Try.ntmps45
  go_wp2_with fail
  refine H.out.mono ?_
  rintro e w1 ⟨rfl, rfl⟩
  go_wp2_with fail
  go_ret
  exact ⟨rfl, rfl⟩
end Go.Proofs.Ytnclpdgbjefpmaa.L
namespace Go.Proofs.Ytnclpdgbjefpmaa.L
open Go.RowKit
set_option linter.unusedVariables false
set_option linter.unusedSimpArgs false
theorem less_irrefl (x : List UInt8) : Op.bytesLess x x = false := by
  induction x with
  | nil => rfl
  | cons a x ih => simp [Op.bytesLess, ih]
theorem less_total (x y : List UInt8) : Op.bytesLess x y = true ∨ x = y ∨ Op.bytesLess y x = true := by
  induction x generalizing y with
  | nil => cases y with
    | nil => exact Or.inr (Or.inl rfl)
    | cons b y => exact Or.inl rfl
  | cons a x ih => cases y with
    | nil => exact Or.inr (Or.inr rfl)
    | cons b y =>
      simp only [Op.bytesLess, Bool.or_eq_true, Bool.and_eq_true, decide_eq_true_eq, beq_iff_eq, List.cons.injEq]
      by_cases h1 : a < b
      · exact Or.inl (Or.inl h1)
      · by_cases h2 : b < a
        · exact Or.inr (Or.inr (Or.inl h2))
        · have e : a = b := by
            rw [UInt8.lt_iff_toNat_lt] at h1 h2
            exact UInt8.toNat_inj.1 (by omega)
          rcases ih y with h | h | h
          · exact Or.inl (Or.inr ⟨e, h⟩)
          · exact Or.inr (Or.inl ⟨e, h⟩)
          · exact Or.inr (Or.inr (Or.inr ⟨e.symm, h⟩))
theorem less_trans (x y z : List UInt8) (h1 : Op.bytesLess x y = true) (h2 : Op.bytesLess y z = true) : Op.bytesLess x z = true := by
  induction x generalizing y z with
  | nil => cases z with
    | nil => cases y <;> simp [Op.bytesLess] at h2
    | cons c z => rfl
  | cons a x ih => cases y with
    | nil => simp [Op.bytesLess] at h1
    | cons b y => cases z with
      | nil => simp [Op.bytesLess] at h2
      | cons c z =>
        simp only [Op.bytesLess, Bool.or_eq_true, Bool.and_eq_true, decide_eq_true_eq, beq_iff_eq] at h1 h2 ⊢
        rw [UInt8.lt_iff_toNat_lt] at h1 h2 ⊢
        rcases h1 with h1 | ⟨rfl, h1⟩ <;> rcases h2 with h2 | ⟨rfl, h2⟩
        · exact Or.inl (by omega)
        · exact Or.inl h1
        · exact Or.inl h2
        · exact Or.inr ⟨rfl, ih y z h1 h2⟩
theorem less_asymm (x y : List UInt8) (h : Op.bytesLess x y = true) : Op.bytesLess y x = false := by
  cases e : Op.bytesLess y x
  · rfl
  · have := less_trans x y x h e
    rw [less_irrefl] at this
    cases this
theorem bytes_inj {a b : ByteArray} (h : a.toList = b.toList) : a = b := by
  rw [ByteArray.toList_eq, ByteArray.toList_eq] at h
  exact ByteArray.ext (Array.toList_inj.1 h)
/-- What comparing answers. -/
def cmpV {α : Type} (lt : α → α → Bool) (a b : α) : Int := if lt a b = true then -1 else if lt b a = true then 1 else 0
theorem cmpV_neg {α : Type} (lt : α → α → Bool) (a b : α) : cmpV lt a b < 0 ↔ lt a b = true := by
  unfold cmpV
  split
  · simp_all
  · split <;> simp_all
theorem nan_s (s : ByteArray) (w : World) : Calls Try.prog 85 #[.string s] w fun e w' => e = .returned (.bool false) ∧ w' = w := by
  have h : (s.toList != s.toList) = false := by simp
  go_enter Try.func85, Try.ntmps85
  go_wp2
  go_ret
  exact ⟨by simp, rfl⟩
theorem nan_i (n : Int) (w : World) : Calls Try.prog 86 #[.int .i64 n] w fun e w' => e = .returned (.bool false) ∧ w' = w := by
  have h : (n != n) = false := by simp
  go_enter Try.func86, Try.ntmps86
  go_wp2
  go_ret
  exact ⟨by simp, rfl⟩
theorem cmp_s (a b : ByteArray) (w : World) : Calls Try.prog 43 #[.string a, .string b] w fun e w' => e = .returned (.int .i64 (cmpV ltS a b)) ∧ w' = w := by
  have HN := hid (fun s W => nan_s s W)
  unfold cmpV ltS
  by_cases h1 : Op.bytesLess a.toList b.toList = true
  · rw [if_pos h1]
    go_enter Try.func43, Try.ntmps43
    go_wp2_with (go_at_call 85; refine (HN.out _ _).mono ?_; rintro e w1 ⟨rfl, hww⟩; subst hww)
    go_ret
    exact ⟨rfl, rfl⟩
  · rw [if_neg h1]
    have h1' : Op.bytesLess a.toList b.toList = false := by simpa using h1
    by_cases h2 : Op.bytesLess b.toList a.toList = true
    · rw [if_pos h2]
      have h3 : (a.toList == b.toList) = false := by
        simp only [beq_eq_false_iff_ne, ne_eq]
        intro h
        rw [h, less_irrefl] at h2
        cases h2
      go_enter Try.func43, Try.ntmps43
      go_wp2_with (go_at_call 85; refine (HN.out _ _).mono ?_; rintro e w1 ⟨rfl, hww⟩; subst hww)
      go_ret
      exact ⟨rfl, rfl⟩
    · rw [if_neg h2]
      have h2' : Op.bytesLess b.toList a.toList = false := by simpa using h2
      have h3 : (a.toList == b.toList) = true := by
        rcases less_total a.toList b.toList with h | h | h
        · exact absurd h h1
        · rw [h]; simp
        · exact absurd h h2
      go_enter Try.func43, Try.ntmps43
      go_wp2_with (go_at_call 85; refine (HN.out _ _).mono ?_; rintro e w1 ⟨rfl, hww⟩; subst hww)
      go_ret
      exact ⟨rfl, rfl⟩
theorem cmp_i (a b : Int) (w : World) : Calls Try.prog 46 #[.int .i64 a, .int .i64 b] w fun e w' => e = .returned (.int .i64 (cmpV ltI a b)) ∧ w' = w := by
  have HN := hid (fun s W => nan_i s W)
  unfold cmpV ltI
  by_cases h1 : a < b
  · rw [if_pos (by simpa using h1)]
    go_enter Try.func46, Try.ntmps46
    go_wp2_with (go_at_call 86; refine (HN.out _ _).mono ?_; rintro e w1 ⟨rfl, hww⟩; subst hww)
    go_ret
    exact ⟨rfl, rfl⟩
  · rw [if_neg (by simpa using h1)]
    by_cases h2 : b < a
    · rw [if_pos (by simpa using h2)]
      go_enter Try.func46, Try.ntmps46
      go_wp2_with (go_at_call 86; refine (HN.out _ _).mono ?_; rintro e w1 ⟨rfl, hww⟩; subst hww)
      go_ret
      exact ⟨rfl, rfl⟩
    · rw [if_neg (by simpa using h2)]
      go_enter Try.func46, Try.ntmps46
      go_wp2_with (go_at_call 86; refine (HN.out _ _).mono ?_; rintro e w1 ⟨rfl, hww⟩; subst hww)
      go_ret
      exact ⟨rfl, rfl⟩
end Go.Proofs.Ytnclpdgbjefpmaa.L
