import Derived.Test.YtdnoagebcolgbabDoorH4
import Derived.Test.YtdnoagebcolgbabDoorX3
import Derived.Lib.Join
import Derived.Lib.ItoaMem
namespace Go.Proofs.YtdnoagebcolgbabDoor.L
open Go.RowKit
set_option linter.unusedVariables false
abbrev S (l : List UInt8) : ByteArray := ⟨l.toArray⟩
theorem S_size (l : List UInt8) : (S l).size = l.length := by
  show l.toArray.size = _
  simp
theorem S_app (a b : List UInt8) : S a ++ S b = S (a ++ b) := by
  apply ByteArray.ext
  simp [S]
theorem S_inj {a b : List UInt8} (h : S a = S b) : a = b := by
  have := congrArg (fun x => x.data.toList) h
  simpa using this
/-- The word of a side. -/
def whoL (n : Int) : List UInt8 := if n = 1 then [112, 111, 100] else if n = 2 then [110, 111, 100, 101] else [105, 116]
/-- The mark of a comparison. -/
def sgnL (n : Int) : List UInt8 := if n = 1 then [61, 61] else if n = 2 then [33, 61] else if n = 3 then [60] else if n = 4 then [60, 61] else if n = 5 then [62] else [62, 61]
def memL (n : Int) : List UInt8 := if n = 1 then [110, 111, 116, 105, 110] else [105, 110]
/-- The text of a part: its kind, its text in quotes, its number, its kids' texts as they stand in it. -/
def txK (k : Int) (q : List UInt8) (nu : Int) (ks : List (List UInt8)) : List UInt8 :=
  if k = 1 then [116, 114, 117, 101]
  else if k = 2 then [102, 97, 108, 115, 101]
  else if k = 3 then [33] ++ ks.getD 0 []
  else if k = 4 then Lib.join ks [32, 38, 38, 32]
  else if k = 5 then Lib.join ks [32, 124, 124, 32]
  else if k = 6 then ks.getD 0 [] ++ ([32] ++ (sgnL nu ++ ([32] ++ ks.getD 1 [])))
  else if k = 7 then ks.getD 0 [] ++ ([32] ++ (memL nu ++ ([32] ++ ks.getD 1 [])))
  else if k = 8 then [110, 101, 97, 114] ++ ([40] ++ ((q ++ ([44, 32] ++ ks.getD 0 [])) ++ [41]))
  else if k = 9 then [97, 112, 97, 114, 116] ++ ([40] ++ ((q ++ ([44, 32] ++ ks.getD 0 [])) ++ [41]))
  else if k = 10 then [116, 111, 108, 101, 114, 97, 116, 101, 100] ++ ([40] ++ (q ++ [41]))
  else if k = 11 then q
  else if k = 12 then Lib.itoa nu
  else if k = 13 then [123] ++ (Lib.join ks [44, 32] ++ [125])
  else if k = 14 then whoL nu ++ ([91] ++ (q ++ [93]))
  else if k = 15 then whoL nu ++ [46, 110, 97, 109, 101]
  else if k = 16 then whoL nu ++ [46, 107, 101, 121, 115]
  else if k = 17 then whoL nu ++ [46, 116, 97, 105, 110, 116, 115]
  else if k = 18 then (whoL nu ++ [46, 99, 97, 112]) ++ ([40] ++ (q ++ [41]))
  else if k = 19 then [105, 110, 116] ++ ([40] ++ (ks.getD 0 [] ++ [41]))
  else [99, 111, 117, 110, 116] ++ ([40] ++ ((q ++ ([44, 32] ++ ks.getD 0 [])) ++ [41]))
/-- A kid's text as it stands in a part of this kind. -/
def kidL (T : List Pt) (X : List (List UInt8)) (k : Int) (x : Int) : List UInt8 := if brB k (pt T x.toNat).kind then [40] ++ (X.getD x.toNat [] ++ [41]) else X.getD x.toNat []
def ksL (T : List Pt) (X : List (List UInt8)) (p : Pt) : List (List UInt8) := p.kids.map (kidL T X p.kind)
def ptx (T : List Pt) (X : List (List UInt8)) (p : Pt) : List UInt8 := txK p.kind (quoteL p.text.data.toList) p.num (ksL T X p)
/-- The texts of the first parts. -/
def txs (T : List Pt) : Nat → List (List UInt8)
  | 0 => []
  | i + 1 => txs T i ++ [ptx T (txs T i) (pt T i)]
theorem txs_len (T : List Pt) : ∀ i, (txs T i).length = i
  | 0 => rfl
  | i + 1 => by simp [txs, txs_len T i]
theorem txs_get (T : List Pt) (j : Nat) : ∀ {i : Nat}, j < i → (txs T i)[j]? = some (ptx T (txs T j) (pt T j))
  | i + 1, h => by
    simp only [txs]
    by_cases e : j < i
    · rw [List.getElem?_append_left (by rw [txs_len]; exact e)]
      exact txs_get T j e
    · have : j = i := by omega
      subst this
      rw [List.getElem?_append_right (by rw [txs_len]; omega), txs_len]
      simp
/-- The text of a valid tree, or none, if one of its parts has too long a one. -/
def Shrt (T : List Pt) (i : Nat) : Prop := ∀ j, j < i → ((txs T i).getD j []).length ≤ 4096
theorem getD_txs (T : List Pt) {i j : Nat} (h : j < i) : (txs T i).getD j [] = ptx T (txs T j) (pt T j) := by
  rw [List.getD_eq_getElem?_getD, txs_get T j h]
  rfl
theorem Shrt.le {T : List Pt} {i j : Nat} (h : Shrt T i) (hj : j ≤ i) : Shrt T j := by
  intro k hk
  have := h k (by omega)
  rw [getD_txs T (show k < i by omega)] at this
  rw [getD_txs T hk]
  exact this
theorem Shrt.more {T : List Pt} {i : Nat} (h : Shrt T i) (hl : (ptx T (txs T i) (pt T i)).length ≤ 4096) : Shrt T (i + 1) := by
  intro k hk
  rw [getD_txs T hk]
  by_cases e : k < i
  · have := h k e
    rwa [getD_txs T e] at this
  · have : k = i := by omega
    subst this
    exact hl
theorem shrt_zero (T : List Pt) : Shrt T 0 := fun j hj => absurd hj (Nat.not_lt_zero j)
theorem kid_len {T : List Pt} {i : Nat} (h : Shrt T i) (k x : Int) : (kidL T (txs T i) k x).length ≤ 4098 := by
  have : ((txs T i).getD x.toNat []).length ≤ 4096 := by
    by_cases e : x.toNat < i
    · exact h _ e
    · rw [List.getD_eq_getElem?_getD, List.getElem?_eq_none (by rw [txs_len]; omega)]
      simp
  unfold kidL
  split
  · simp only [List.length_append, List.length_cons, List.length_nil]
    omega
  · omega
theorem lens_le {m : Nat} : ∀ (l : List (List UInt8)), (∀ x, x ∈ l → x.length ≤ m) → Lib.lens l ≤ l.length * m
  | [], _ => by simp [Lib.lens]
  | x :: l, h => by
    have h1 := h x (by simp)
    have h2 := lens_le l (fun y hy => h y (by simp [hy]))
    have e : Lib.lens (x :: l) = x.length + Lib.lens l := by simp [Lib.lens]
    rw [e, List.length_cons, Nat.add_mul]
    omega
theorem join_le (m : Nat) {l : List (List UInt8)} {sep : List UInt8} (h : ∀ x, x ∈ l → x.length ≤ m) (hn : l.length ≤ 1000) (hs : sep.length ≤ 10) : (Lib.join l sep).length ≤ 1000 * m + 10000 := by
  cases l with
  | nil => simp [Lib.join_nil]
  | cons x r =>
    rw [Lib.join_length]
    have h1 := lens_le (x :: r) h
    have h2 : sep.length * r.length ≤ 10 * 1000 := Nat.mul_le_mul hs (by simp at hn; omega)
    have h3 : (x :: r).length * m ≤ 1000 * m := Nat.mul_le_mul_right _ hn
    omega
theorem join_snoc (l : List (List UInt8)) (x sep : List UInt8) (h : l ≠ []) : Lib.join (l ++ [x]) sep = Lib.join l sep ++ (sep ++ x) := by
  cases l with
  | nil => exact absurd rfl h
  | cons a r =>
    rw [List.cons_append, Lib.join_cons, Lib.join_cons]
    simp [Lib.joinTail]
end Go.Proofs.YtdnoagebcolgbabDoor.L
