import Derived.Test.YtkbjjbgmnfngjaaGreatDoorDif
import Derived.OwnWalkIn
import Derived.Maps.AppendAt
import Derived.Test.YtkbjjbgmnfngjaaGreatDoorPrs
namespace Go.Proofs.YtkbjjbgmnfngjaaGreatDoor.L
open Go.RowKit
set_option linter.unusedVariables false
/-- One difference: key, old, new, had, has. -/
structure Df where
  k : ByteArray
  o : ByteArray
  n : ByteArray
  had : Bool
  has : Bool
def dv (d : Df) : Value := .agg #[.string d.k, .string d.o, .string d.n, .bool d.had, .bool d.has]
theorem infoD : (Tryz.prog.info? 52).map (fun i => (i.zero, i.size, i.bytes)) = some (some (.agg #[.string ByteArray.empty, .string ByteArray.empty, .string ByteArray.empty, .bool false, .bool false]), 5, 56) := by kernel_rfl
def cellsD (l : List Df) : List Value := l.flatMap fun d => [.string d.k, .string d.o, .string d.n, .bool d.had, .bool d.has]
theorem cellsD_snoc (l : List Df) (d : Df) : cellsD (l ++ [d]) = cellsD l ++ [.string d.k, .string d.o, .string d.n, .bool d.had, .bool d.has] := by simp [cellsD]
theorem row_mono {W : World} {base base' : Nat} {e : TypeId} {size : Nat} {v : Value} {k : Nat} {xs : List Value} (h : W.ownsRow base e size v k xs) (hb : base' ≤ base) : W.ownsRow base' e size v k xs := by
  obtain ⟨h1, h2⟩ := h
  refine ⟨h1, ?_⟩
  rcases h2 with h | ⟨g, cap, cur, hv, hg, r⟩
  · exact Or.inl h
  · exact Or.inr ⟨g, cap, cur, hv, Nat.le_trans hb hg, r⟩
theorem cell_five_new (w : World) (a b c d e : Value) (t : TypeId) : ∀ (j : Nat) (u : Value), [a, b, c, d, e][j]? = some u → (w.alloc (.cells #[a, b, c, d, e] t)).cell? ((⟨w.heap.size, 0, none⟩ : Addr).add j) = some u := by
  intro j u hu
  match j, hu with
  | 0, hu => simp at hu; subst hu; simp [go_sem, Addr.add]
  | 1, hu => simp at hu; subst hu; simp [go_sem, Addr.add]
  | 2, hu => simp at hu; subst hu; simp [go_sem, Addr.add]
  | 3, hu => simp at hu; subst hu; simp [go_sem, Addr.add]
  | 4, hu => simp at hu; subst hu; simp [go_sem, Addr.add]
  | j + 5, hu => simp at hu
/-- The five cells of a difference. -/
structure FiveAt (W : World) (B : Nat) (x : Df) : Prop where
  d0 : W.cell? ⟨B, 0, none⟩ = some (.string x.k)
  d1 : W.cell? ⟨B, 1, none⟩ = some (.string x.o)
  d2 : W.cell? ⟨B, 2, none⟩ = some (.string x.n)
  d3 : W.cell? ⟨B, 3, none⟩ = some (.bool x.had)
  d4 : W.cell? ⟨B, 4, none⟩ = some (.bool x.has)
end Go.Proofs.YtkbjjbgmnfngjaaGreatDoor.L
namespace Go.Proofs.YtkbjjbgmnfngjaaGreatDoor.L
open Go.RowKit
set_option linter.unusedVariables false
def ab : List Lb := [(sA, s1), (sB, s2)]
theorem wake_parse : parseN ⟨#[98, 61, 50, 44, 97, 61, 49]⟩ = ([(sB, s2), (sA, s1)], 0, 0) := by decide +kernel
theorem ok_ab : OkL ab := ⟨by decide, by unfold ab Up; simp [Lt]; decide +kernel, by decide +kernel⟩
theorem good_ab : Good ab := ⟨⟨by decide, by decide⟩, by unfold maxLen; decide +kernel⟩
theorem sorted_ab {l : List Lb} (h : Sorted [(sB, s2), (sA, s1)] l) : l = ab := by
  have d : Dist [(sB, s2), (sA, s1)] := by unfold Dist; simp; decide +kernel
  refine up_unique (sorted_ok h d) ok_ab.up fun x => ?_
  rw [h.1.mem_iff]
  unfold ab
  simp
  exact Or.comm
theorem run_eql_func_nil (w : World) (f : Fn) (a b : Array Value) : (binOp .eql 33 (.func f a b) .nilFunc).run Tryz.prog w = .ok (.bool false) w := by
  have h : ∀ d, (Op.equalIn (d + 1) 33 (.func f a b) .nilFunc).run Tryz.prog w = .ok false w := fun d => by
    simp [Op.equalIn, run_underlying Tryz.underlying33]
  simp only [binOp]
  simp [Op.equal, Op.maxDepth, h 9999]
set_option maxHeartbeats 4000000 in
set_option maxRecDepth 100000 in
theorem wakes_any (w : World) : Calls Tryz.prog 4 #[] w fun e w' => e = .returned (.bool true) ∧ Below w.heap.size w w' := by
  have HP := hid (parse_any ⟨#[98, 61, 50, 44, 97, 61, 49]⟩ w (by unfold maxLen; decide))
  rw [wake_parse] at HP
  have HD0 := hid (fun W => diff_yes (.slice none 0 0) (.slice none 0 0) [] [] W (Or.inl ⟨rfl, rfl⟩) (Or.inl ⟨rfl, rfl⟩) good_nil good_nil ok_nil ok_nil)
  have HD1 := hid (fun W v (hc : Came W v ab) => diff_yes v (.slice none 0 0) ab [] W hc (Or.inl ⟨rfl, rfl⟩) good_ab good_nil ok_ab ok_nil)
  have qf := run_eql_func_nil
  go_enter Tryz.func4, Tryz.ntmps4
  go_wp2_with fail
  refine HP.out.mono ?_
  rintro e w1 ⟨v, l, rfl, hb, hh⟩
  rcases hh with ⟨h, _⟩ | ⟨_, hc, hs⟩
  · exact absurd rfl h
  obtain rfl := sorted_ab hs
  have B1 := hid hb
  have C1 := hid (own_came hc)
  clear hb hc hs
  go_wp2_with fail
  refine (HD0.out _).mono ?_
  rintro e w2 ⟨fn, rfl, hb⟩
  have B2 := hid (B1.out.trans (hb.mono B1.out.size))
  have C2 := hid (C1.out.low hb)
  clear hb C1 B1
  go_wp2_with fail
  refine (HD1.out _ _ C2.out).mono ?_
  rintro e w3 ⟨fn', rfl, hb⟩
  have B3 := hid (B2.out.trans (hb.mono B2.out.size))
  have C3 := C2.out.low hb
  clear hb C2 B2
  rcases C3 with ⟨_, h0⟩ | ⟨a, cap, rfl, hcap, h0 | ⟨b, off, rfl, hbl, hcell⟩⟩
  · cases h0
  · cases h0
  · obtain ⟨p0, p1⟩ := hcell 0 (by decide)
    obtain ⟨q0, q1⟩ := hcell 1 (by decide)
    have hl2 : ab.length = 2 := rfl
    rw [hl2]
    rw [show off + 0 * 2 = off by omega] at p0 p1
    rw [show off + 1 * 2 = off + 2 by omega] at q0 q1
    have e1 : ky ab 0 = ⟨#[97]⟩ := rfl
    have e2 : vl ab 0 = ⟨#[49]⟩ := rfl
    have e3 : ky ab 1 = ⟨#[98]⟩ := rfl
    have e4 : vl ab 1 = ⟨#[50]⟩ := rfl
    rw [e1] at p0
    rw [e2] at p1
    rw [e3] at q0
    rw [e4] at q1
    clear hcell e1 e2 e3 e4 hl2
    go_wp2_with fail
    go_ret
    exact ⟨rfl, B3.out⟩
end Go.Proofs.YtkbjjbgmnfngjaaGreatDoor.L
namespace Go.Proofs.YtkbjjbgmnfngjaaGreatDoor.L
open Go.RowKit
set_option linter.unusedVariables false
theorem cellsD_cons (d : Df) (L : List Df) : cellsD (d :: L) = [.string d.k, .string d.o, .string d.n, .bool d.had, .bool d.has] ++ cellsD L := by simp [cellsD]
theorem cellsD_len (L : List Df) : (cellsD L).length = L.length * 5 := by
  induction L with
  | nil => rfl
  | cons d L ih => rw [cellsD_cons, List.length_append, ih]; simp; omega
theorem cellsD_at (L : List Df) : ∀ (j : Nat) (hj : j < L.length) (i : Nat) (u : Value), [Value.string L[j].k, .string L[j].o, .string L[j].n, .bool L[j].had, .bool L[j].has][i]? = some u → (cellsD L)[j * 5 + i]? = some u := by
  induction L with
  | nil => intro j hj; cases hj
  | cons d L ih =>
    intro j hj i u hu
    rw [cellsD_cons]
    cases j with
    | zero =>
      have hi : i < 5 := by
        apply Classical.byContradiction
        intro n
        rw [List.getElem?_eq_none (by simp; omega)] at hu
        cases hu
      rw [List.getElem?_append_left (by simp; omega)]
      simpa using hu
    | succ j =>
      rw [List.getElem?_append_right (by simp; omega)]
      have := ih j (by simpa using hj) i u (by simpa using hu)
      rw [← this]
      congr 1
      simp
      omega
/-- A list of differences in memory. -/
def ItemsD (W : World) (v : Value) (L : List Df) : Prop := ∃ a cap, v = .slice a L.length cap ∧ (L.length = 0 ∨ ∃ b off, a = some ⟨b, off, none⟩ ∧ b < W.heap.size ∧ ∀ j (hj : j < L.length), W.cell? ⟨b, off + j * 5, none⟩ = some (.string L[j].k) ∧ W.cell? ⟨b, off + j * 5 + 1, none⟩ = some (.string L[j].o) ∧ W.cell? ⟨b, off + j * 5 + 2, none⟩ = some (.string L[j].n) ∧ W.cell? ⟨b, off + j * 5 + 3, none⟩ = some (.bool L[j].had) ∧ W.cell? ⟨b, off + j * 5 + 4, none⟩ = some (.bool L[j].has))
theorem own_itemsD {w : World} {base : Nat} {v : Value} {L : List Df} (h : w.ownsRow base 52 5 v L.length (cellsD L)) : ItemsD w v L := by
  obtain ⟨h1, h2⟩ := h
  rcases h2 with ⟨rfl, hz⟩ | ⟨g, cap, cur, rfl, hb, hh, hle, hm, hs, ht⟩
  · exact ⟨none, 0, by rw [hz], Or.inl hz⟩
  · refine ⟨_, cap, rfl, ?_⟩
    by_cases hz : L.length = 0
    · exact Or.inl hz
    · have hlt : g < w.heap.size := by
        apply Classical.byContradiction
        intro n
        rw [Array.getElem?_eq_none (by omega)] at hh
        cases hh
      refine Or.inr ⟨g, 0, rfl, hlt, fun j hj => ?_⟩
      have key : ∀ k u, (cellsD L)[k]? = some u → w.cell? ⟨g, k, none⟩ = some u := by
        intro k u hu
        have hk : k < L.length * 5 := by
          apply Classical.byContradiction
          intro n
          rw [List.getElem?_eq_none (by rw [cellsD_len]; omega)] at hu
          cases hu
        rw [← ht, List.getElem?_take] at hu
        rw [if_pos (by omega)] at hu
        simp [World.cell?, hh]
        simpa using hu
      have a := cellsD_at L j hj
      refine ⟨?_, ?_, ?_, ?_, ?_⟩
      · simpa using key _ _ (a 0 _ rfl)
      · simpa using key _ _ (a 1 _ rfl)
      · simpa using key _ _ (a 2 _ rfl)
      · simpa using key _ _ (a 3 _ rfl)
      · simpa using key _ _ (a 4 _ rfl)
end Go.Proofs.YtkbjjbgmnfngjaaGreatDoor.L
