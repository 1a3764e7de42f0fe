import Derived.Test.YtdnoagebcolgbabDoorOb
namespace Go.Proofs.YtdnoagebcolgbabDoor.L
open Go.RowKit
set_option linter.unusedVariables false
theorem own_some {W : World} {base : Nat} {v : Value} {zs : List Int} (h : OwnI W base v zs) (hz : 0 < zs.length) : ∃ g c, v = .slice (some ⟨g, 0, none⟩) zs.length c ∧ base ≤ g ∧ zs.length ≤ c := by
  rcases h.2 with ⟨_, n0⟩ | ⟨g, cap, cur, rfl, hb, hg, h3, h4, h5, h6⟩
  · omega
  · exact ⟨g, cap, rfl, hb, by omega⟩
theorem own_cap {W : World} {base g c m : Nat} {zs : List Int} (h : OwnI W base (.slice (some ⟨g, 0, none⟩) (m + 3) c) (zs ++ [-7, -8, -9])) (hm : m = zs.length) : m + 3 ≤ c := by
  obtain ⟨g', c', e, _, hc⟩ := own_some h (by simp)
  have hl : (zs ++ [-7, -8, -9]).length = m + 3 := by rw [hm]; simp
  rw [hl] at e hc
  cases e
  exact hc
theorem mark_get {zs : List Int} {m l : Nat} (hm : m = zs.length) (h1 : m ≤ l) (h2 : l < m + 3) : (zs ++ [-7, -8, -9]).getD l 0 = -7 - ((l : Int) - (m : Int)) := by
  have : l = m ∨ l = m + 1 ∨ l = m + 2 := by omega
  subst hm
  rcases this with rfl | rfl | rfl
  · rw [List.getD_eq_getElem?_getD, List.getElem?_append_right (Nat.le_refl _)]
    simp
  · rw [List.getD_eq_getElem?_getD, List.getElem?_append_right (by omega)]
    simp
    omega
  · rw [List.getD_eq_getElem?_getD, List.getElem?_append_right (by omega)]
    simp
    omega
theorem kid_get {zs : List Int} {m l : Nat} (hm : m = zs.length) (h : l < m) : (zs ++ [-7, -8, -9]).getD l 0 = zs.getD l 0 := by
  rw [List.getD_eq_getElem?_getD, List.getD_eq_getElem?_getD, List.getElem?_append_left (by omega)]
/-- Copied parts, each with three marks behind its kids. -/
structure OwnQ (W : World) (base : Nat) (v : Value) (T : List Pt) (ks : Nat → Value) (k : Nat) : Prop where
  row : W.ownsRow base 33 4 v k (CP T ks k)
  kids : ∀ j, j < k → ∃ g c, ks j = .slice (some ⟨g, 0, none⟩) (pt T j).kids.length c ∧ OwnI W base (.slice (some ⟨g, 0, none⟩) ((pt T j).kids.length + 3) c) ((pt T j).kids ++ [-7, -8, -9])
theorem OwnQ.low {W W' : World} {base : Nat} {v : Value} {T : List Pt} {ks : Nat → Value} {k : Nat} (h : OwnQ W base v T ks k) (hk : Below W.heap.size W W') : OwnQ W' base v T ks k :=
  ⟨World.ownsRow.kept (row := none) h.row ⟨hk.os, hk.tape, hk.output, hk.size, fun k hkl _ => hk.block k hkl⟩ (by cases v.ownBlock <;> simp), fun j hj => by
    obtain ⟨g, c, e, o⟩ := h.kids j hj
    exact ⟨g, c, e, own_low o hk⟩⟩
theorem OwnQ.more {W W' : World} {base g c : Nat} {v v' : Value} {T : List Pt} {ks : Nat → Value} {k : Nat} (h : OwnQ W base v T ks k) (hx : OwnI W base (.slice (some ⟨g, 0, none⟩) ((pt T k).kids.length + 3) c) ((pt T k).kids ++ [-7, -8, -9]))
    (hr : W'.ownsRow base 33 4 v' (k + 1) (CP T ks k ++ [.int .i64 (pt T k).kind, .string (pt T k).text, .int .i64 (pt T k).num, .slice (some ⟨g, 0, none⟩) (pt T k).kids.length c])) (hg : W.grownBy W' v.ownBlock) :
    OwnQ W' base v' T (fun j => if j = k then .slice (some ⟨g, 0, none⟩) (pt T k).kids.length c else ks j) (k + 1) := by
  refine ⟨?_, fun j hj => ?_⟩
  · have e : CP T (fun j => if j = k then Value.slice (some ⟨g, 0, none⟩) (pt T k).kids.length c else ks j) (k + 1) = CP T ks k ++ [.int .i64 (pt T k).kind, .string (pt T k).text, .int .i64 (pt T k).num, .slice (some ⟨g, 0, none⟩) (pt T k).kids.length c] := by
      simp only [CP, if_true]
      rw [CP_congr T (ks' := ks) (fun j hj => by simp [Nat.ne_of_lt hj])]
    rw [e]
    exact hr
  · by_cases hjk : j = k
    · subst hjk
      simp only [if_true]
      exact ⟨g, c, rfl, World.ownsRow.kept hx hg (row_ne hx h.row (by decide))⟩
    · simp only [hjk, if_false]
      obtain ⟨g', c', e', o'⟩ := h.kids j (by omega)
      exact ⟨g', c', e', World.ownsRow.kept o' hg (row_ne o' h.row (by decide))⟩
abbrev twoC : List Value := [.int .i64 77, .string ⟨#[]⟩, .int .i64 0, .slice none 0 0, .int .i64 78, .string ⟨#[]⟩, .int .i64 0, .slice none 0 0]
theorem two_one : ∀ u ∈ twoC, u.oneCell' = true := by
  intro u hu
  simp only [twoC, List.mem_cons, List.not_mem_nil, or_false] at hu
  rcases hu with rfl | rfl | rfl | rfl | rfl | rfl | rfl | rfl <;> rfl
/-- All of them, with two parts behind them. -/
structure OwnF (W : World) (base : Nat) (v : Value) (T : List Pt) (ks : Nat → Value) : Prop where
  row : W.ownsRow base 33 4 v (T.length + 2) (CP T ks T.length ++ twoC)
  kids : ∀ j, j < T.length → ∃ g c, ks j = .slice (some ⟨g, 0, none⟩) (pt T j).kids.length c ∧ OwnI W base (.slice (some ⟨g, 0, none⟩) ((pt T j).kids.length + 3) c) ((pt T j).kids ++ [-7, -8, -9])
theorem OwnF.low {W W' : World} {base : Nat} {v : Value} {T : List Pt} {ks : Nat → Value} (h : OwnF W base v T ks) (hk : Below W.heap.size W W') : OwnF W' base v T ks :=
  ⟨World.ownsRow.kept (row := none) h.row ⟨hk.os, hk.tape, hk.output, hk.size, fun k hkl _ => hk.block k hkl⟩ (by cases v.ownBlock <;> simp), fun j hj => by
    obtain ⟨g, c, e, o⟩ := h.kids j hj
    exact ⟨g, c, e, own_low o hk⟩⟩
theorem OwnQ.fin {W W' : World} {base : Nat} {v v' : Value} {T : List Pt} {ks : Nat → Value} (h : OwnQ W base v T ks T.length) (hr : W'.ownsRow base 33 4 v' (T.length + 2) (CP T ks T.length ++ twoC)) (hg : W.grownBy W' v.ownBlock) : OwnF W' base v' T ks :=
  ⟨hr, fun j hj => by
    obtain ⟨g', c', e', o'⟩ := h.kids j hj
    exact ⟨g', c', e', World.ownsRow.kept o' hg (row_ne o' h.row (by decide))⟩⟩
theorem OwnF.form {W : World} {base : Nat} {v : Value} {T : List Pt} {ks : Nat → Value} (h : OwnF W base v T ks) : ∃ g cap, v = .slice (some ⟨g, 0, none⟩) (T.length + 2) cap ∧ T.length + 2 ≤ cap := by
  rcases h.row.2 with ⟨_, n0⟩ | ⟨g, cap, cur, rfl, hb, hg, h3, h4, h5, h6⟩
  · omega
  · exact ⟨g, cap, rfl, by omega⟩
/-- What its cells hold. -/
theorem OwnF.cells {W : World} {base g n cap : Nat} {T : List Pt} {ks : Nat → Value} (h : OwnF W base (.slice (some ⟨g, 0, none⟩) n cap) T ks) : g < W.heap.size ∧
    (∀ j, j < T.length → ∀ r, r < 4 → W.cell? ⟨g, j * 4 + r, none⟩ = [.int .i64 (pt T j).kind, .string (pt T j).text, .int .i64 (pt T j).num, ks j][r]?) ∧ W.cell? ⟨g, T.length * 4, none⟩ = some (.int .i64 77) ∧ W.cell? ⟨g, (T.length + 1) * 4, none⟩ = some (.int .i64 78) := by
  rcases h.row.2 with ⟨_, n0⟩ | ⟨g', cap', cur, e, hb, hg, h3, h4, h5, h6⟩
  · omega
  · cases e
    have key : ∀ i, i < T.length * 4 + 8 → W.cell? ⟨g, i, none⟩ = (CP T ks T.length ++ twoC)[i]? := by
      intro i hi
      rw [cell_of_row W g _ _ _ _ hg, ← h6, List.getElem?_take_of_lt (by omega), Array.getElem?_toList]
    refine ⟨lt_blk hg, fun j hj r hr => ?_, ?_, ?_⟩
    · rw [key _ (by omega), List.getElem?_append_left (by rw [CP_len]; omega)]
      exact CP_get T ks j r hr hj
    · rw [key _ (by omega), List.getElem?_append_right (by rw [CP_len]; omega), CP_len, Nat.sub_self]
      rfl
    · rw [key _ (by omega), List.getElem?_append_right (by rw [CP_len]; omega), CP_len, show (T.length + 1) * 4 - T.length * 4 = 4 by omega]
      rfl
theorem OwnF.pl {W : World} {base g n cap : Nat} {T : List Pt} {ks : Nat → Value} (h : OwnF W base (.slice (some ⟨g, 0, none⟩) n cap) T ks) : PLs W (some ⟨g, 0, none⟩) T := by
  obtain ⟨hlt, key, _⟩ := h.cells
  refine Or.inr ⟨g, 0, rfl, hlt, fun j hj => ?_⟩
  obtain ⟨gk, c, e, o⟩ := h.kids j hj
  have hl : ((pt T j).kids ++ [-7, -8, -9]).length = (pt T j).kids.length + 3 := by simp
  have o1 : OwnI W base (.slice (some ⟨gk, 0, none⟩) ((pt T j).kids ++ [-7, -8, -9]).length c) ((pt T j).kids ++ [-7, -8, -9]) := by rw [hl]; exact o
  have o2 := own_take o1 (pt T j).kids.length (by simp)
  rw [List.take_left' rfl] at o2
  obtain ⟨_, r1, r2⟩ := own_rdI o2
  refine ⟨some ⟨gk, 0, none⟩, c, ?_, ?_, ?_, ?_, r1, r2⟩
  · rw [Nat.zero_add]; exact key j hj 0 (by decide)
  · rw [Nat.zero_add]; exact key j hj 1 (by decide)
  · rw [Nat.zero_add]; exact key j hj 2 (by decide)
  · rw [Nat.zero_add, ← e]; exact key j hj 3 (by decide)
end Go.Proofs.YtdnoagebcolgbabDoor.L
