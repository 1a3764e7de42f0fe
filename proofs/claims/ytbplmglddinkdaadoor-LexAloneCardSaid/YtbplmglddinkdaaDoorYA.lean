import Derived.Test.YtbplmglddinkdaaDoorXW
import Derived.Test.YtbplmglddinkdaaDoorZA
import Derived.Deep.Cut
namespace Go.Proofs.YtbplmglddinkdaaDoor.L
open Go.RowKit Go.Shelf
set_option linter.unusedVariables false
/-- What is written of the tokens. -/
def wid (s : ByteArray) (l : List Tok) : ByteArray := l.foldl (fun a t => a ++ (gp ++ s.extract t.a t.e)) ⟨#[]⟩
theorem wid_snoc (s : ByteArray) (l : List Tok) (t : Tok) : wid s (l ++ [t]) = wid s l ++ (gp ++ s.extract t.a t.e) := by
  unfold wid
  rw [List.foldl_append]
  rfl
theorem wid_all (s : ByteArray) : ∀ (r : List Tok) (pre : ByteArray), (r ++ [tokE s.size]).foldl (fun a t => a ++ (gp ++ s.extract t.a t.e)) pre = pre ++ widc s r
  | [], pre => by
    show pre ++ (gp ++ s.extract s.size s.size) = pre ++ gp
    rw [show s.extract s.size s.size = ⟨#[]⟩ by apply ByteArray.ext; simp]
    rw [show gp ++ (⟨#[]⟩ : ByteArray) = gp from rfl]
  | t :: r, pre => by
    show (r ++ [tokE s.size]).foldl (fun a t => a ++ (gp ++ s.extract t.a t.e)) (pre ++ (gp ++ s.extract t.a t.e)) = _
    rw [wid_all s r]
    simp only [widc, ByteArray.append_assoc]
/-- The token at a place of the list. -/
structure At (s : ByteArray) (l : List Tok) (i : Nat) : Prop where
  a : (tk l i).a ≤ (tk l i).e
  e : (tk l i).e ≤ s.size
  one : i + 1 < l.length → scanT (s.extract (tk l i).a (tk l i).e) = ([⟨(tk l i).kind, (tk l i).text, (tk l i).num, 0, (tk l i).e - (tk l i).a⟩, tokE ((tk l i).e - (tk l i).a)], none)
theorem tk_get {l : List Tok} {i : Nat} (h : i < l.length) : tk l i = l[i] := by
  unfold tk
  rw [List.getD_eq_getElem?_getD, List.getElem?_eq_getElem h]
  rfl
theorem at_of (s : ByteArray) (hs : s.size ≤ 4096) (l : List Tok) (hall : ∀ t, t ∈ l → t.a < s.size ∧ tokS s t.a = .ok t ∧ t.e ≤ s.size) (i : Nat) (hi : i < (l ++ [tokE s.size]).length) : At s (l ++ [tokE s.size]) i := by
  have hlen : (l ++ [tokE s.size]).length = l.length + 1 := by simp
  by_cases h : i < l.length
  · have e : tk (l ++ [tokE s.size]) i = l[i] := by rw [tk_get hi, List.getElem_append_left h]
    have hx := hall l[i] (List.getElem_mem h)
    have hin := tok_in hx.1 hx.2.1
    refine ⟨by rw [e]; omega, by rw [e]; exact hx.2.2, fun _ => ?_⟩
    rw [e]
    exact alone_scan hx.1 hx.2.1 hs
  · have e : tk (l ++ [tokE s.size]) i = tokE s.size := by rw [tk_get hi, List.getElem_append_right (by omega)]; simp
    exact ⟨by rw [e]; exact Nat.le_refl _, by rw [e]; exact Nat.le_refl _, fun hh => by omega⟩
theorem take_tk (l : List Tok) (i : Nat) (h : i < l.length) : l.take (i + 1) = l.take i ++ [tk l i] := by
  rw [List.take_succ_eq_append_getElem h, tk_get h]
theorem wid_size (s : ByteArray) : ∀ (l : List Tok), (wid s l).size ≤ l.length * (4 + s.size) := by
  intro l
  suffices H : ∀ (l : List Tok) (pre : ByteArray), (l.foldl (fun a t => a ++ (gp ++ s.extract t.a t.e)) pre).size ≤ pre.size + l.length * (4 + s.size) from by
    have := H l ⟨#[]⟩
    rw [show (⟨#[]⟩ : ByteArray).size = 0 from rfl, Nat.zero_add] at this
    exact this
  intro l
  induction l with
  | nil => intro pre; simp
  | cons t r ih =>
    intro pre
    have := ih (pre ++ (gp ++ s.extract t.a t.e))
    have hx : (s.extract t.a t.e).size ≤ s.size := by simp; omega
    simp only [ByteArray.size_append] at this
    rw [gp_size] at this
    rw [List.length_cons, Nat.succ_mul]
    show (r.foldl (fun a t => a ++ (gp ++ s.extract t.a t.e)) (pre ++ (gp ++ s.extract t.a t.e))).size ≤ _
    omega
end Go.Proofs.YtbplmglddinkdaaDoor.L
