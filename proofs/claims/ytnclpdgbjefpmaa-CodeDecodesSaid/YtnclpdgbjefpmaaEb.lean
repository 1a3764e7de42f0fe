import Derived.Test.YtnclpdgbjefpmaaEa
namespace Go.Proofs.Ytnclpdgbjefpmaa.L
set_option linter.unusedVariables false
set_option linter.unusedSimpArgs false
structure Ins where
  op : Int
  a : Int
  b : Int
  c : Int
deriving DecidableEq, Inhabited
structure Pg where
  tx : List ByteArray
  nu : List Int
  st : List (List ByteArray)
  ns : List (List Int)
  cd : List Ins
  dep : Int
  loc : Int
/-- Which operands an Op uses. -/
def us (o : Int) : Bool × Bool × Bool :=
  if o = 1 ∨ o = 2 ∨ o = 3 ∨ o = 4 ∨ o = 5 ∨ o = 6 ∨ o = 7 ∨ o = 13 ∨ o = 14 ∨ o = 24 ∨ o = 26 ∨ o = 31 ∨ o = 32 ∨ o = 33 ∨ o = 34 then (true, false, false)
  else if o = 19 ∨ o = 21 ∨ o = 22 ∨ o = 23 then (false, true, false)
  else if o = 12 ∨ o = 17 then (true, true, false)
  else if o = 25 then (true, false, true)
  else if o = 18 ∨ o = 20 then (false, true, true)
  else if o = 16 then (true, true, true)
  else (false, false, false)
/-- The order of texts, of numbers, of lists. -/
def ltS (a b : ByteArray) : Bool := Op.bytesLess a.toList b.toList
def ltI (a b : Int) : Bool := decide (a < b)
def ltL {α : Type} (lt : α → α → Bool) : List α → List α → Bool
  | [], [] => false
  | [], _ :: _ => true
  | _ :: _, [] => false
  | a :: r, b :: s => if lt a b = true then true else if lt b a = true then false else ltL lt r s
def unz (n : Nat) : Int := if n % 2 = 1 then -(((n + 1) / 2 : Nat) : Int) else ((n / 2 : Nat) : Int)
def zz (z : Int) : Nat := if z < 0 then (-2 * z - 1).toNat else (2 * z).toNat
theorem zz_unz (n : Nat) : zz (unz n) = n := by
  unfold zz unz
  split <;> split <;> omega
theorem unz_zz (z : Int) : unz (zz z) = z := by
  unfold zz unz
  split <;> split <;> omega
def textC : Cod ByteArray := ((Cod.cnt 0 127 (by decide)).seq fun n => Cod.raw n).map (fun x => ⟨x.2.toArray⟩) (fun s => (s.size, s.data.toList)) (by
  rintro ⟨n, l⟩ ⟨_, h⟩
  have h : l.length = n := h
  subst h
  simp [ByteArray.size])
def sgnC : Cod Int := (Cod.cnt 0 2000000000000000000 (by decide)).map unz zz (fun n _ => zz_unz n)
def natC (lo hi : Nat) (h : hi < 128 ^ 9) : Cod Int := (Cod.cnt lo hi h).map (fun n => (n : Int)) Int.toNat (fun n _ => by simp)
def optC (u : Bool) : Cod Int := if u = true then natC 0 65535 (by decide) else Cod.none 0
def insC : Cod Ins := ((Cod.byte 1 36 203 (by decide) (by decide)).seq fun o => (optC (us o.toNat).1).seq fun _ => (optC (us o.toNat).2.1).seq fun _ => optC (us o.toNat).2.2).map
  (fun x => ⟨x.1.toNat, x.2.1, x.2.2.1, x.2.2.2⟩) (fun i => (UInt8.ofNat i.op.toNat, i.a, i.b, i.c)) (by
  rintro ⟨o, a, b, c⟩ _
  simp)
def isC (c : UInt8) : Cod UInt8 := Cod.byte c.toNat c.toNat 200 (by decide) (by decide)
def headC : Cod Unit := ((isC 0x42).seq fun _ => (isC 0x52).seq fun _ => (isC 0x54).seq fun _ => isC 1).map (fun _ => ()) (fun _ => (0x42, 0x52, 0x54, 1)) (by
  rintro ⟨a, b, c, d⟩ ⟨⟨h1, h2⟩, ⟨h3, h4⟩, ⟨h5, h6⟩, h7, h8⟩
  have e1 : a = 0x42 := UInt8.toNat_inj.1 (Nat.le_antisymm h2 h1)
  have e2 : b = 0x52 := UInt8.toNat_inj.1 (Nat.le_antisymm h4 h3)
  have e3 : c = 0x54 := UInt8.toNat_inj.1 (Nat.le_antisymm h6 h5)
  have e4 : d = 1 := UInt8.toNat_inj.1 (Nat.le_antisymm h8 h7)
  rw [e1, e2, e3, e4])
theorem pool_lt (n : Nat) : 4096 - n < 128 ^ 9 := Nat.lt_of_le_of_lt (Nat.sub_le _ _) (by decide)
def txC : Cod (List ByteArray) := textC.lst ltS 0 4096 (by decide)
def nuC (n : Nat) : Cod (List Int) := sgnC.lst ltI 0 (4096 - n) (pool_lt n)
def setC : Cod (List ByteArray) := textC.lst ltS 1 1000 (by decide)
def nsetC : Cod (List Int) := sgnC.lst ltI 1 1000 (by decide)
def stC (n : Nat) : Cod (List (List ByteArray)) := setC.lst (ltL ltS) 0 (4096 - n) (pool_lt n)
def nsC (n : Nat) : Cod (List (List Int)) := nsetC.lst (ltL ltI) 0 (4096 - n) (pool_lt n)
def cdC : Cod (List Ins) := insC.lst (fun _ _ => true) 0 32768 (by decide)
def pgC : Cod Pg := (headC.seq fun _ => (natC 0 128 (by decide)).seq fun _ => (natC 0 1024 (by decide)).seq fun _ => txC.seq fun t => (nuC t.length).seq fun u => (stC (t.length + u.length)).seq fun s => (nsC (t.length + u.length + s.length)).seq fun _ => cdC).map
  (fun x => ⟨x.2.2.2.1, x.2.2.2.2.1, x.2.2.2.2.2.1, x.2.2.2.2.2.2.1, x.2.2.2.2.2.2.2, x.2.1, x.2.2.1⟩)
  (fun p => ((), p.dep, p.loc, p.tx, p.nu, p.st, p.ns, p.cd)) (by
  rintro ⟨⟨⟩, d, l, t, u, s, n, c⟩ _
  rfl)
/-- A program's bytes; has it a form? -/
def enc (p : Pg) : List UInt8 := pgC.W p
def formP (p : Pg) : Prop := pgC.D p
/-- What the bytes are. -/
def dec (B : List UInt8) : Except (Nat × Nat) Pg :=
  match pgC.P B 0 with
  | .ok (p, k) => if k < B.length then .error (206, k) else .ok p
  | .error e => .error e
theorem dec_enc {p : Pg} (h : formP p) : dec (enc p) = .ok p := by
  unfold dec
  rw [show pgC.P (enc p) 0 = .ok (p, 0 + (pgC.W p).length) from pgC.fwd h occ_full]
  simp only [Nat.zero_add]
  rw [if_neg (show ¬ (pgC.W p).length < (enc p).length from Nat.lt_irrefl _)]
theorem enc_dec {B : List UInt8} {p : Pg} (h : dec B = .ok p) : formP p ∧ enc p = B := by
  unfold dec at h
  cases hp : pgC.P B 0 with
  | error e => rw [hp] at h; cases h
  | ok q =>
    obtain ⟨p', k⟩ := q
    rw [hp] at h
    simp only at h
    split at h
    · cases h
    · rename_i hk
      injection h with h
      subst h
      obtain ⟨d, o, e⟩ := pgC.bwd (Nat.zero_le _) hp
      refine ⟨d, ?_⟩
      have hl : (enc p').length = B.length := by have := o.le; show (pgC.W p').length = _; omega
      have := occ_eq o
      rw [List.drop_zero, List.take_of_length_le (show B.length ≤ (pgC.W p').length from by show B.length ≤ (enc p').length; omega)] at this
      exact this.symm
theorem dec_cut {p : Pg} {n : Nat} (h : formP p) (hn : n < (enc p).length) : dec ((enc p).take n) = .error (201, n) := by
  have hl : ((enc p).take n).length = n := by simp; omega
  unfold dec
  rw [show pgC.P ((enc p).take n) 0 = .error (201, ((enc p).take n).length) from pgC.cut h hn ⟨[], [], by simp [enc], rfl⟩ (by rw [hl]; simp), hl]
theorem dec_rest {p : Pg} {r : List UInt8} (h : formP p) (hr : r ≠ []) : dec (enc p ++ r) = .error (206, (enc p).length) := by
  unfold dec
  rw [show pgC.P (enc p ++ r) 0 = .ok (p, 0 + (pgC.W p).length) from pgC.fwd h ⟨[], r, by simp [enc], rfl⟩]
  simp only [Nat.zero_add]
  have : 0 < r.length := List.length_pos_iff.2 hr
  rw [if_pos (by rw [List.length_append]; show (enc p).length < _; omega)]
  rfl
theorem dec_bad {B : List UInt8} {c a : Nat} (h : dec B = .error (c, a)) : 200 ≤ c ∧ c ≤ 206 ∧ a ≤ B.length := by
  unfold dec at h
  cases hp : pgC.P B 0 with
  | error e =>
    obtain ⟨c', a'⟩ := e
    rw [hp] at h
    injection h with h
    injection h with h1 h2
    subst h1 h2
    exact pgC.bad (Nat.zero_le _) hp
  | ok q =>
    obtain ⟨p', k⟩ := q
    rw [hp] at h
    simp only at h
    split at h
    · rename_i hk
      injection h with h
      injection h with h1 h2
      subst h1 h2
      omega
    · cases h
end Go.Proofs.Ytnclpdgbjefpmaa.L
