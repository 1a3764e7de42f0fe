import Derived.Test.YtiddnjjaidiohaaGreatDoorMgAB
import Derived.Test.YtiddnjjaidiohaaGreatDoorH4
namespace Go.Proofs.YtiddnjjaidiohaaGreatDoor.L
open Go.RowKit
set_option linter.unusedVariables false
/-- A list of numbers that can be read. -/
def RdI (w : World) (a : Option Addr) (zs : List Int) : Prop := zs.length = 0 ∨ ∃ b off, a = some ⟨b, off, none⟩ ∧ b < w.heap.size ∧ ∀ j, j < zs.length → w.cell? ⟨b, off + j, none⟩ = some (.int .i64 (zs.getD j 0))
theorem RdI.low {w w' : World} {a : Option Addr} {zs : List Int} (h : RdI w a zs) {B : Nat} (k : Below B w w') (hB : w.heap.size ≤ B) : RdI w' a zs := by
  rcases h with h | ⟨b, off, rfl, h2, h3⟩
  · exact Or.inl h
  · exact Or.inr ⟨b, off, rfl, Nat.lt_of_lt_of_le h2 k.size, fun j hj => (k.cell (p := ⟨b, off + j, none⟩) (Nat.lt_of_lt_of_le h2 hB)).trans (h3 j hj)⟩
/-- A list of parts that can be read, with its lists of kids. -/
def PL (w : World) (a : Option Addr) (T : List Pt) : Prop := T.length = 0 ∨ ∃ b off, a = some ⟨b, off, none⟩ ∧ b < w.heap.size ∧ ∀ j, j < T.length → ∃ ka kc,
  w.cell? ⟨b, off + j * 4, none⟩ = some (.int .i64 (pt T j).kind) ∧ w.cell? ⟨b, off + j * 4 + 1, none⟩ = some (.string (pt T j).text) ∧ w.cell? ⟨b, off + j * 4 + 2, none⟩ = some (.int .i64 (pt T j).num) ∧
  w.cell? ⟨b, off + j * 4 + 3, none⟩ = some (.slice ka (pt T j).kids.length kc) ∧ RdI w ka (pt T j).kids
theorem PL.low {w w' : World} {a : Option Addr} {T : List Pt} (h : PL w a T) (k : Below w.heap.size w w') : PL w' a T := by
  rcases h with h | ⟨b, off, rfl, h2, h3⟩
  · exact Or.inl h
  · refine Or.inr ⟨b, off, rfl, Nat.lt_of_lt_of_le h2 k.size, fun j hj => ?_⟩
    obtain ⟨ka, kc, c0, c1, c2, c3, r⟩ := h3 j hj
    exact ⟨ka, kc, (k.cell (p := ⟨b, off + j * 4, none⟩) h2).trans c0, (k.cell (p := ⟨b, off + j * 4 + 1, none⟩) h2).trans c1, (k.cell (p := ⟨b, off + j * 4 + 2, none⟩) h2).trans c2, (k.cell (p := ⟨b, off + j * 4 + 3, none⟩) h2).trans c3, r.low k (Nat.le_refl _)⟩
/-- The lists are not too long for a machine. -/
def GdT (T : List Pt) : Prop := T.length ≤ 140737488355328 ∧ ∀ j, j < T.length → (pt T j).kids.length ≤ 140737488355328
/-- A row of numbers of one's own. -/
abbrev OwnI (w : World) (base : Nat) (v : Value) (zs : List Int) : Prop := w.ownsRow base 3 1 v zs.length (zs.map (Value.int .i64))
theorem info3 : (Tryz.prog.info? 3).map (fun i => (i.zero, i.size, i.bytes)) = some (some (.int .i64 0), 1, 8) := by kernel_rfl
theorem own_form {w : World} {base : Nat} {v : Value} {zs : List Int} (h : OwnI w base v zs) : ∃ a cap, v = .slice a zs.length cap := by
  rcases h.2 with ⟨e, n0⟩ | ⟨g, cap, cur, e, _⟩
  · exact ⟨none, 0, by rw [e, n0]⟩
  · exact ⟨_, _, e⟩
theorem own_low {w w' : World} {base : Nat} {v : Value} {zs : List Int} (h : OwnI w base v zs) (hk : Below w.heap.size w w') : OwnI w' base v zs :=
  World.ownsRow.kept (row := none) h ⟨hk.os, hk.tape, hk.output, hk.size, fun k hkl _ => hk.block k hkl⟩ (by cases v.ownBlock <;> simp)
theorem own_block {w : World} {base : Nat} {v : Value} {zs : List Int} (h : OwnI w base v zs) : ∀ k, v.ownBlock = some k → base ≤ k ∧ k < w.heap.size := by
  intro k hk
  rcases h.2 with ⟨e, n0⟩ | ⟨g, cap, cur, e, hb, hg, _⟩
  · rw [e] at hk; cases hk
  · rw [e] at hk
    simp [Value.ownBlock] at hk
    subst hk
    exact ⟨hb, lt_blk hg⟩
/-- An own row, read from any place on. -/
theorem own_rd {w : World} {base : Nat} {a : Option Addr} {n cap : Nat} {zs : List Int} (h : OwnI w base (.slice a n cap) zs) (k : Nat) (hk : k ≤ zs.length) : n = zs.length ∧ (zs.length = 0 ∨ ∃ g, a = some ⟨g, 0, none⟩ ∧ base ≤ g ∧ g < w.heap.size ∧ zs.length ≤ cap ∧ (∀ j, j < zs.length → w.cell? ⟨g, j, none⟩ = some (.int .i64 (zs.getD j 0))) ∧ RdI w (some ⟨g, k, none⟩) (zs.drop k)) := by
  rcases h.2 with ⟨e, n0⟩ | ⟨g, cap', cur, e, hb, hg, h3, h4, h5, h6⟩
  · injection e with e1 e2 e3
    exact ⟨by omega, .inl n0⟩
  · injection e with e1 e2 e3
    subst e1 e2 e3
    refine ⟨rfl, .inr ⟨g, rfl, hb, lt_blk hg, h3, ?_⟩⟩
    have key : ∀ j, j < zs.length → w.cell? ⟨g, j, none⟩ = some (.int .i64 (zs.getD j 0)) := by
      intro j hj
      rw [cell_of_row w g j _ _ _ hg]
      have := congrArg (fun l => l[j]?) h6
      simp only [List.getElem?_take_of_lt (show j < zs.length * 1 by omega), List.getElem?_map] at this
      rw [Array.getElem?_toList] at this
      rw [this, List.getElem?_eq_getElem hj, List.getD_eq_getElem?_getD, List.getElem?_eq_getElem hj]
      rfl
    refine ⟨key, .inr ⟨g, k, rfl, lt_blk hg, fun j hj => ?_⟩⟩
    rw [List.length_drop] at hj
    rw [key (k + j) (by omega), List.getD_eq_getElem?_getD, List.getD_eq_getElem?_getD, List.getElem?_drop]
/-- The first k of an own row are an own row. -/
theorem own_take {w : World} {base : Nat} {a : Option Addr} {cap : Nat} {zs : List Int} (h : OwnI w base (.slice a zs.length cap) zs) (k : Nat) (hk : k ≤ zs.length) : OwnI w base (.slice a k cap) (zs.take k) := by
  have hl : (zs.take k).length = k := by simp; omega
  unfold OwnI
  rw [hl]
  refine ⟨by simp; omega, ?_⟩
  rcases h.2 with ⟨e, n0⟩ | ⟨g, cap', cur, e, hb, hg, h3, h4, h5, h6⟩
  · injection e with e1 e2 e3
    subst e1 e3
    have : k = 0 := by omega
    subst this
    exact .inl ⟨rfl, rfl⟩
  · injection e with e1 e2 e3
    subst e1 e3
    refine .inr ⟨g, cap, cur, rfl, hb, hg, by omega, h4, h5, ?_⟩
    rw [List.map_take, ← h6, List.take_take]
    congr 1
    omega
set_option maxHeartbeats 4000000 in
set_option maxRecDepth 100000 in
/-- slices.Equal of two lists of numbers. -/
theorem equal_any (a b : Option Addr) (A B : List Int) (ca cb : Nat) (w : World) (ha : RdI w a A) (hb : RdI w b B) (hA : A.length ≤ 140737488355328) :
    Calls Tryz.prog 66 #[.slice a A.length ca, .slice b B.length cb] w fun e w' => e = .returned (.bool (decide (A = B))) ∧ ∃ m, w' = w.drewN m := by
  by_cases hl : A.length = B.length
  · have HAB : A = B ↔ ∀ j, j < A.length → A.getD j 0 = B.getD j 0 := by
      constructor
      · intro h j _
        rw [h]
      · intro h
        refine List.ext_getElem hl fun j h1 h2 => ?_
        have := h j h1
        rw [List.getD_eq_getElem?_getD, List.getD_eq_getElem?_getD, List.getElem?_eq_getElem h1, List.getElem?_eq_getElem h2] at this
        exact this
    have hbl : B.length = A.length := hl.symm
    rw [hbl]
    obtain ⟨L, hL⟩ : ∃ L, L = A.length := ⟨_, rfl⟩
    rw [← hL] at hA HAB hbl ⊢
    have HEQ := hid HAB
    have RA := hid ha
    have RB := hid hb
    have HLA := hid hL
    have HLB := hid hbl
    clear HAB ha hb hL hbl hl
    go_enter Tryz.func66, Tryz.ntmps66
    go_wp2
    go_loopw [13] (fun i wr => ∃ k : Nat, k ≤ L ∧ i = .int .i64 k ∧ Hid (∃ m, wr = w.drewN m) ∧ Hid (∀ j, j < k → A.getD j 0 = B.getD j 0)) (fun i _ => L - (intOf i).toNat)
    case atStart => exact ⟨0, Nat.zero_le _, rfl, hid ⟨0, rfl⟩, hid (fun j hj => by omega)⟩
    case round =>
      obtain ⟨k, hk, rfl, HB, HE⟩ := hrel
      by_cases hlt : k < L
      · obtain ⟨m0, hm0⟩ := HB.out
        have r1 : RdI wr a A := by rw [hm0]; exact RA.out
        have r2 : RdI wr b B := by rw [hm0]; exact RB.out
        have HM := hid hm0
        clear hm0
        rcases r1 with h0 | ⟨b1, o1, rfl, hb1, hc1⟩
        · have := HLA.out; omega
        rcases r2 with h0 | ⟨b2, o2, rfl, hb2, hc2⟩
        · have := HLB.out; omega
        have p0 := hc1 k (by rw [← HLA.out]; exact hlt)
        have q0 := hc2 k (by rw [HLB.out]; exact hlt)
        obtain ⟨x, hx⟩ : ∃ x, x = A.getD k 0 := ⟨_, rfl⟩
        obtain ⟨y, hy⟩ : ∃ y, y = B.getD k 0 := ⟨_, rfl⟩
        rw [← hx] at p0
        rw [← hy] at q0
        have HX := hid hx
        have HY := hid hy
        clear hc1 hc2 hx hy
        have g1 : (k : Int) < (L : Int) := by omega
        have g2 : (0 : Int) ≤ (k : Int) := by omega
        by_cases exy : x = y
        · have HXY := hid exy
          have e1 : (x != y) = false := by simp [exy]
          clear exy
          go_wp2_with fail
          go_quiet (fail)
          go_wp2_with fail
          refine ⟨⟨k + 1, by omega, by go_num, hid ⟨m0 + nq, by rw [HM.out, World.drewN_drewN]⟩, hid (fun j hj => ?_)⟩, by simp [intOf]; omega⟩
          by_cases e : j = k
          · rw [e, ← HX.out, ← HY.out, HXY.out]
          · exact HE.out j (by omega)
        · have e1 : (x != y) = true := by simp [exy]
          go_wp2_with fail
          go_quiet (fail)
          go_wp2_with fail
          go_ret
          refine ⟨ret_bool ?_, m0 + nq, by rw [HM.out, World.drewN_drewN]⟩
          have hne : ¬ A = B := fun h => exy (by rw [HX.out, HY.out, h])
          simp [hne]
      · have hkl : k = L := by omega
        subst hkl
        go_wp2_with fail
        go_ret
        refine ⟨ret_bool ?_, HB.out⟩
        have he := HEQ.out.2 HE.out
        simp [he]
  · have hne : ¬ A = B := fun h => hl (by rw [h])
    have h1 : ((A.length : Int) != (B.length : Int)) = true := by simp; omega
    go_enter Tryz.func66, Tryz.ntmps66
    go_wp2
    go_ret
    exact ⟨ret_bool (by simp [hne]), 0, rfl⟩
end Go.Proofs.YtiddnjjaidiohaaGreatDoor.L
