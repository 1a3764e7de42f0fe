import Derived.Test.YtfkijmmflpnncaaDoorStb
import Derived.Test.YtfkijmmflpnncaaDoorSst
import Derived.WalkKit
import Derived.WalkSpells
import Derived.WalkLawsBesides
import Derived.Handy
import Derived.Deep.QuietTactic
import Derived.BigQuiet
import Derived.OwnWalk
import Derived.Laws.AppendOwnNone
import Derived.Laws.Rows
import Derived.Maps.OwnSet
import Derived.StringKeys
import Derived.Test.YtfkijmmflpnncaaDoorProg
namespace Go.Proofs.YtfkijmmflpnncaaDoor.LT
open L
open Go.RowKit Bs Go.Maps
set_option linter.unusedVariables false
/-- Rows in memory: a name, a number and a text each. -/
abbrev Rw := ByteArray × (Int × ByteArray)
def cellsR (l : List Rw) : List Value := l.flatMap fun x => [.string x.1, .int .i64 x.2.1, .string x.2.2]
theorem cellsR_cons (x : Rw) (l : List Rw) : cellsR (x :: l) = .string x.1 :: .int .i64 x.2.1 :: .string x.2.2 :: cellsR l := rfl
theorem cellsR_len : ∀ l : List Rw, (cellsR l).length = l.length * 3
  | [] => rfl
  | x :: l => by rw [cellsR_cons]; simp [cellsR_len l]; omega
theorem cellsR_app (l c : List Rw) : cellsR (l ++ c) = cellsR l ++ cellsR c := by simp [cellsR]
theorem cellsR_at0 : ∀ (l : List Rw) (j : Nat) (h : j < l.length), (cellsR l)[j * 3]? = some (.string (l[j]).1)
  | x :: l, 0, h => rfl
  | x :: l, j + 1, h => by rw [cellsR_cons, show (j + 1) * 3 = j * 3 + 1 + 1 + 1 by omega]; simpa using cellsR_at0 l j (by simpa using h)
theorem cellsR_at1 : ∀ (l : List Rw) (j : Nat) (h : j < l.length), (cellsR l)[j * 3 + 1]? = some (.int .i64 (l[j]).2.1)
  | x :: l, 0, h => rfl
  | x :: l, j + 1, h => by rw [cellsR_cons, show (j + 1) * 3 + 1 = j * 3 + 1 + 1 + 1 + 1 by omega]; simpa using cellsR_at1 l j (by simpa using h)
theorem cellsR_at2 : ∀ (l : List Rw) (j : Nat) (h : j < l.length), (cellsR l)[j * 3 + 2]? = some (.string (l[j]).2.2)
  | x :: l, 0, h => rfl
  | x :: l, j + 1, h => by rw [cellsR_cons, show (j + 1) * 3 + 2 = j * 3 + 2 + 1 + 1 + 1 by omega]; simpa using cellsR_at2 l j (by simpa using h)
theorem cellsR_set : ∀ (l : List Rw) (j : Nat) (x : Rw), j < l.length → (((cellsR l).set (j * 3) (.string x.1)).set (j * 3 + 1) (.int .i64 x.2.1)).set (j * 3 + 2) (.string x.2.2) = cellsR (l.set j x)
  | y :: l, 0, x, h => rfl
  | y :: l, j + 1, x, h => by
    have := cellsR_set l j x (by simpa using h)
    rw [cellsR_cons, show (j + 1) * 3 = j * 3 + 1 + 1 + 1 by omega]
    simp only [List.set_cons_succ, cellsR_cons, List.cons.injEq, true_and]
    exact this
theorem cellsR_set1 : ∀ (l : List Rw) (j : Nat) (v : Int × ByteArray), j < l.length → ((cellsR l).set (j * 3 + 1) (.int .i64 v.1)).set (j * 3 + 2) (.string v.2) = cellsR (l.set j (nm l j, v))
  | y :: l, 0, v, h => rfl
  | y :: l, j + 1, v, h => by
    have := cellsR_set1 l j v (by simpa using h)
    rw [cellsR_cons, show (j + 1) * 3 + 1 = j * 3 + 1 + 1 + 1 + 1 by omega, show (j + 1) * 3 + 2 = j * 3 + 2 + 1 + 1 + 1 by omega, nm_cons_succ]
    simp only [List.set_cons_succ, cellsR_cons, List.cons.injEq, true_and]
    exact this
theorem cellsR_take : ∀ (l : List Rw) (n : Nat), (cellsR l).take (n * 3) = cellsR (l.take n)
  | [], n => by simp [cellsR]
  | x :: l, 0 => by simp [cellsR]
  | x :: l, n + 1 => by
    rw [cellsR_cons, show (n + 1) * 3 = n * 3 + 1 + 1 + 1 by omega]
    simp only [List.take_succ_cons, cellsR_cons, cellsR_take l n]
abbrev OwnR (w : World) (v : Value) (l : List Rw) : Prop := w.ownsRow 0 80 3 v l.length (cellsR l)
/-- A table in memory: the struct, the map, the rows, the words. -/
structure Tm (w : World) (p m mb : Nat) (rs ks : Value) (D : DataW Unit) (l : List Rw) (ws : List Nat) : Prop where
  hp : w.heap[p]? = some (.cells #[.int .i64 (m : Int), .map (some mb), rs, ks] 72 (0, 0))
  hm : Own1 w mb 65536 D
  hr : OwnR w rs l
  hk : OwnK w ks ws
/-- What its parts have to do with one another. -/
structure Cp (m : Nat) (D : DataW Unit) (l : List Rw) (ws : List Nat) : Prop where
  ok : OkS m l
  mo : MapOf D l
  wd : Wd ws
  bt : ∀ i, mem ws i = isT l i
  wl : ws.length ≤ 1024
/-- A TABLE: its most, its rows, its blocks. -/
def Tb (w : World) (p m : Nat) (l : List Rw) (F : List Nat) : Prop := ∃ mb rs ks D ws, Tm w p m mb rs ks D l ws ∧ Cp m D l ws ∧ F = fp p mb rs ks
theorem Tm.frame {w w' : World} {p m mb : Nat} {rs ks : Value} {D : DataW Unit} {l : List Rw} {ws : List Nat} (h : Tm w p m mb rs ks D l ws) (hk : ∀ k ∈ fp p mb rs ks, w'.heap[k]? = w.heap[k]?) : Tm w' p m mb rs ks D l ws :=
  ⟨(hk p (by simp [fp])).trans h.hp, owns_stays h.hm (hk mb (by simp [fp])), own_stays h.hr (fun g hg => hk g (by simp [fp, hg])), own_stays h.hk (fun g hg => hk g (by simp [fp, hg]))⟩
theorem Tb.frame {w w' : World} {p m : Nat} {l : List Rw} {F : List Nat} (h : Tb w p m l F) (hk : ∀ k ∈ F, w'.heap[k]? = w.heap[k]?) : Tb w' p m l F := by
  obtain ⟨mb, rs, ks, D, ws, h1, h2, rfl⟩ := h
  exact ⟨mb, rs, ks, D, ws, h1.frame hk, h2, rfl⟩
theorem Tm.lt {w : World} {p m mb : Nat} {rs ks : Value} {D : DataW Unit} {l : List Rw} {ws : List Nat} (h : Tm w p m mb rs ks D l ws) : ∀ k ∈ fp p mb rs ks, k < w.heap.size := by
  intro k hk
  unfold fp at hk
  simp at hk
  rcases hk with rfl | rfl | hk | hk
  · exact lt_of_block h.hp
  · exact owns_lt h.hm
  · exact (h.hr.lt k hk).2
  · exact (h.hk.lt k hk).2
theorem Tb.lt {w : World} {p m : Nat} {l : List Rw} {F : List Nat} (h : Tb w p m l F) : ∀ k ∈ F, k < w.heap.size := by
  obtain ⟨mb, rs, ks, D, ws, h1, h2, rfl⟩ := h
  exact h1.lt
theorem Tb.low {w w' : World} {p m : Nat} {l : List Rw} {F : List Nat} (h : Tb w p m l F) (hb : Below w.heap.size w w') : Tb w' p m l F := h.frame (fun k hk => hb.block k (h.lt k hk))
theorem Tb.ok {w : World} {p m : Nat} {l : List Rw} {F : List Nat} (h : Tb w p m l F) : OkS m l := by
  obtain ⟨mb, rs, ks, D, ws, h1, h2, rfl⟩ := h
  exact h2.ok
theorem Tb.mem {w : World} {p m : Nat} {l : List Rw} {F : List Nat} (h : Tb w p m l F) : p ∈ F := by
  obtain ⟨mb, rs, ks, D, ws, h1, h2, rfl⟩ := h
  simp [fp]
/-- Blocks of unlike kind are apart. -/
theorem Tm.ap {w : World} {p m mb : Nat} {rs ks : Value} {D : DataW Unit} {l : List Rw} {ws : List Nat} (h : Tm w p m mb rs ks D l ws) : p ≠ mb ∧ (∀ g, rs.ownBlock = some g → g ≠ p ∧ g ≠ mb ∧ ks.ownBlock ≠ some g) ∧ (∀ g, ks.ownBlock = some g → g ≠ p ∧ g ≠ mb ∧ rs.ownBlock ≠ some g) := by
  obtain ⟨es, clock, hb, _⟩ := h.hm
  have R : ∀ g, rs.ownBlock = some g → ∃ cur, w.heap[g]? = some (.cells cur 80 (0, 0)) := by
    intro g hg
    rcases h.hr.2 with ⟨e, _⟩ | ⟨g', cap, cur, e, _, hh, _⟩
    · rw [e] at hg; simp [Value.ownBlock] at hg
    · rw [e] at hg; simp [Value.ownBlock] at hg; subst hg; exact ⟨cur, hh⟩
  have K : ∀ g, ks.ownBlock = some g → ∃ cur, w.heap[g]? = some (.cells cur 97 (0, 0)) := by
    intro g hg
    rcases h.hk.2 with ⟨e, _⟩ | ⟨g', cap, cur, e, _, hh, _⟩
    · rw [e] at hg; simp [Value.ownBlock] at hg
    · rw [e] at hg; simp [Value.ownBlock] at hg; subst hg; exact ⟨cur, hh⟩
  refine ⟨fun e => ?_, fun g hg => ?_, fun g hg => ?_⟩
  · subst e; have := h.hp.symm.trans hb; simp at this
  · obtain ⟨cur, hc⟩ := R g hg
    refine ⟨fun e => ?_, fun e => ?_, fun e => ?_⟩
    · subst e; have := h.hp.symm.trans hc; simp at this
    · subst e; have := hb.symm.trans hc; simp at this
    · obtain ⟨cur', hc'⟩ := K g e
      have := hc'.symm.trans hc; simp at this
  · obtain ⟨cur, hc⟩ := K g hg
    refine ⟨fun e => ?_, fun e => ?_, fun e => ?_⟩
    · subst e; have := h.hp.symm.trans hc; simp at this
    · subst e; have := hb.symm.trans hc; simp at this
    · obtain ⟨cur', hc'⟩ := R g e
      have := hc'.symm.trans hc; simp at this
end Go.Proofs.YtfkijmmflpnncaaDoor.LT
