import Derived.Test.YtkbjjbgmnfngjaaGreatDoorLw2
import Derived.Test.YtkbjjbgmnfngjaaGreatDoorOwn2
namespace Go.Proofs.YtkbjjbgmnfngjaaGreatDoor.L
open Go.RowKit
set_option linter.unusedVariables false
/-- Two cells behind one another written over. -/
def put2 (W : World) (g o : Nat) (a b : Value) : World := (W.setCell ⟨g, o, none⟩ a).setCell ⟨g, o + 1, none⟩ b
theorem set_block {W : World} {g o : Nat} {cur : Array Value} {t : TypeId} {fr : Nat × Nat} (v : Value) (h : W.heap[g]? = some (.cells cur t fr)) : (W.setCell ⟨g, o, none⟩ v).heap[g]? = some (.cells (cur.setIfInBounds o v) t fr) := by
  rw [Go.Sort.setCell_eq]
  show (W.heap.modify g _)[g]? = _
  rw [Array.getElem?_modify, if_pos rfl, h]
  rfl
theorem set_other (W : World) {g o k : Nat} (v : Value) (h : k ≠ g) : (W.setCell ⟨g, o, none⟩ v).heap[k]? = W.heap[k]? := by
  rw [Go.Sort.setCell_eq]
  show (W.heap.modify g _)[k]? = _
  rw [Array.getElem?_modify, if_neg (fun e => h e.symm)]
theorem set_size (W : World) (g o : Nat) (v : Value) : (W.setCell ⟨g, o, none⟩ v).heap.size = W.heap.size := by
  rw [Go.Sort.setCell_eq]
  show (W.heap.modify g _).size = _
  simp
theorem put2_other (W : World) {g o k : Nat} (a b : Value) (h : k ≠ g) : (put2 W g o a b).heap[k]? = W.heap[k]? := by
  unfold put2
  rw [set_other _ _ h, set_other _ _ h]
theorem put2_size (W : World) (g o : Nat) (a b : Value) : (put2 W g o a b).heap.size = W.heap.size := by
  unfold put2
  rw [set_size, set_size]
theorem put2_block {W : World} {g o : Nat} {cur : Array Value} {t : TypeId} {fr : Nat × Nat} (a b : Value) (h : W.heap[g]? = some (.cells cur t fr)) : (put2 W g o a b).heap[g]? = some (.cells ((cur.setIfInBounds o a).setIfInBounds (o + 1) b) t fr) :=
  set_block b (set_block a h)
/-- A row of one's own with one of its elements written over. -/
theorem own_put2 {W : World} {base g cp N : Nat} {l : List Lb} {k : Nat} (x y : ByteArray) (h : Own W base (.slice (some ⟨g, 0, none⟩) N cp) l) (hk : k < l.length) : Own (put2 W g (k * 2) (.string x) (.string y)) base (.slice (some ⟨g, 0, none⟩) N cp) (l.set k (x, y)) := by
  rcases h.2 with ⟨e, _⟩ | ⟨g', cap', cur, e, hb, hg, hnc, hcm, hcs, htake⟩
  · cases e
  injection e with e1 e2 e3
  injection e1 with e1
  injection e1 with e1 _ _
  subst e1 e3
  refine ⟨cellsF_len _, Or.inr ⟨g, cp, _, by rw [List.length_set, e2], hb, put2_block _ _ hg, by rw [List.length_set]; exact hnc, hcm, by simpa using hcs, ?_⟩⟩
  apply List.ext_getElem?
  intro j
  rw [List.getElem?_take]
  by_cases hj : j < (l.set k (x, y)).length * 2
  · rw [if_pos hj]
    rw [List.length_set] at hj
    have hd : j / 2 < l.length := by omega
    have hsz : j < cur.size := by rw [hcs]; omega
    have a' := cellsF_at l (j / 2) hd
    have a := cellsF_at (l.set k (x, y)) (j / 2) (by rw [List.length_set]; exact hd)
    rw [← htake, List.getElem?_take, List.getElem?_take, if_pos (by omega), if_pos (by omega)] at a'
    have hky : ky (l.set k (x, y)) (j / 2) = if k = j / 2 then x else ky l (j / 2) := by
      unfold ky
      rw [List.getD_eq_getElem?_getD, List.getElem?_set]
      by_cases e : k = j / 2
      · simp [e, hd]
      · simp [e]
    have hvl : vl (l.set k (x, y)) (j / 2) = if k = j / 2 then y else vl l (j / 2) := by
      unfold vl
      rw [List.getD_eq_getElem?_getD, List.getElem?_set]
      by_cases e : k = j / 2
      · simp [e, hd]
      · simp [e]
    rw [hky, hvl] at a
    rw [Array.getElem?_toList, Array.getElem?_setIfInBounds, Array.getElem?_setIfInBounds]
    simp only [Array.size_setIfInBounds]
    by_cases e2 : j % 2 = 0
    · rw [show j / 2 * 2 = j by omega] at a a'
      rw [a.1]
      by_cases e : k = j / 2
      · rw [if_neg (by omega), if_pos (by omega), if_pos (by omega), if_pos e]
      · rw [if_neg (by omega), if_neg (by omega), if_neg e]
        simpa using a'.1
    · rw [show j / 2 * 2 + 1 = j by omega] at a a'
      rw [a.2]
      by_cases e : k = j / 2
      · rw [if_pos (by omega), if_pos (by omega), if_pos e]
      · rw [if_neg (by omega), if_neg (by omega), if_neg e]
        simpa using a'.2
  · rw [if_neg hj, List.getElem?_eq_none (by rw [cellsF_len]; omega)]
theorem gby_refl (w : World) (r : Option Nat) : w.grownBy w r := ⟨rfl, rfl, rfl, Nat.le_refl _, fun _ _ _ => rfl⟩
theorem gby_step {w wr w3 : World} {r row : Option Nat} (h : w.grownBy wr r) (h3 : wr.grownBy w3 row) (hrow : row = r ∨ ∀ b, row = some b → w.heap.size ≤ b) : w.grownBy w3 r :=
  ⟨h3.os.trans h.os, h3.tape.trans h.tape, h3.output.trans h.output, Nat.le_trans h.size h3.size, fun k hk hn => (h3.block k (Nat.lt_of_lt_of_le hk h.size) (by
    rcases hrow with e | e
    · rw [e]; exact hn
    · intro e'
      have := e k e'.symm
      omega)).trans (h.block k hk hn)⟩
theorem gby_alloc {w wr : World} {r : Option Nat} (h : w.grownBy wr r) (o : Obj) : w.grownBy (wr.alloc o) r :=
  gby_step h (row := none) ⟨rfl, rfl, rfl, by simp, fun k hk _ => heap_alloc_old wr _ hk⟩ (Or.inr (by intro b e; cases e))
theorem gby_put2 {w wr : World} {r : Option Nat} {g : Nat} (h : w.grownBy wr r) (hg : some g = r ∨ w.heap.size ≤ g) (o : Nat) (a b : Value) : w.grownBy (put2 wr g o a b) r := by
  refine gby_step h (row := some g) ⟨rfl, rfl, rfl, by rw [put2_size]; exact Nat.le_refl _, fun k hk hn => put2_other _ _ _ (fun e => hn (by rw [e]))⟩ ?_
  rcases hg with e | e
  · exact Or.inl e
  · exact Or.inr (fun b' e' => by injection e' with e'; omega)
theorem own_form {w : World} {base : Nat} {v : Value} {l : List Lb} (h : Own w base v l) : ∃ a cap, v = .slice a l.length cap := by
  obtain ⟨a, c, e, _⟩ := own_items h
  exact ⟨a, c, e⟩
theorem own_real {w : World} {base n : Nat} {v : Value} {l : List Lb} (h : Own w base v l) (hn : l.length = n) (h0 : 0 < n) : ∃ g cap cur, v = .slice (some ⟨g, 0, none⟩) n cap ∧ base ≤ g ∧ w.heap[g]? = some (.cells cur 36 (0, 0)) ∧ n ≤ cap ∧ cur.size = cap * 2 := by
  subst hn
  rcases h.2 with ⟨_, e⟩ | ⟨g, cap, cur, e, hb, hg, hnc, hcm, hcs, htake⟩
  · omega
  · exact ⟨g, cap, cur, e, hb, hg, hnc, hcs⟩
theorem cell_of {w : World} {g o : Nat} {cur : Array Value} {t : TypeId} (h : w.heap[g]? = some (.cells cur t (0, 0))) (ho : o < cur.size) : ∃ u, w.cell? ⟨g, o, none⟩ = some u ∧ w.frozen? ⟨g, o, none⟩ = false := by
  refine ⟨cur[o], ?_, ?_⟩
  · simp [World.cell?, h, ho]
  · simp [World.frozen?, h]
theorem own_cells {w : World} {base g n cap : Nat} {l : List Lb} (h : Own w base (.slice (some ⟨g, 0, none⟩) n cap) l) : ∀ j u, (cellsF l)[j]? = some u → w.cell? ((⟨g, 0, none⟩ : Addr).add j) = some u := by
  obtain ⟨a, c, e⟩ := own_form h
  injection e with _ e2 _
  subst e2
  exact World.ownsRow.cells h rfl
set_option maxHeartbeats 4000000 in
set_option maxRecDepth 100000 in
/-- spoil: only the list's own block may change of what stood. -/
theorem spoil_any (v : Value) (l : List Lb) (m : ByteArray) (w : World) (base : Nat) (h : Own w base v l) (hb : base ≤ w.heap.size) (hl : l.length ≤ maxLen ∧ l.length * 32 ≤ 140737488351232) :
    Calls Tryz.prog 13 #[v, .string m] w fun e w' => e = .returned (.tuple #[]) ∧ w.grownBy w' v.ownBlock := by
  obtain ⟨i0, hi, hz0, hz1, hz2⟩ := info_prts infoL
  obtain ⟨av, cv, hv⟩ := own_form h
  obtain ⟨L, hL⟩ : ∃ L, L = l.length := ⟨_, rfl⟩
  obtain ⟨hl1, hl2⟩ := hl
  rw [← hL] at hl1 hl2 hv
  subst hv
  have H0 := hid (show ∃ l1 : List Lb, l1.length = L ∧ Own w base (.slice av L cv) l1 from ⟨l, hL.symm, h⟩)
  have HBS := hid hb
  obtain ⟨r, hr⟩ : ∃ r, r = (Value.slice av L cv).ownBlock := ⟨_, rfl⟩
  have HR := hid hr
  rw [← hr]
  clear h hL hb hr
  go_enter Tryz.func13, Tryz.ntmps13
  go_wp2_with fail
  go_loopw [4] (fun i wr => ∃ k : Nat, k ≤ L ∧ i = .int .i64 k ∧ Hid (∃ l1 : List Lb, l1.length = L ∧ Own wr base (.slice av L cv) l1) ∧ Hid (w.grownBy wr r)) (fun i _ => L - (intOf i).toNat)
  case atStart => exact ⟨0, Nat.zero_le _, rfl, H0, hid (gby_refl _ _)⟩
  case round =>
    obtain ⟨k, hk, rfl, HO, HG⟩ := hrel
    by_cases hlt : k < L
    · have g1 : (k : Int) < (L : Int) := by omega
      have g0 : (0 : Int) ≤ (k : Int) := by omega
      obtain ⟨l1, e1, o1⟩ := HO.out
      obtain ⟨g, cap, cur, ev, hbg, hcur, hnc, hcs⟩ := own_real o1 e1 (by omega)
      injection ev with ea _ ec
      subst ea ec
      obtain ⟨u0, k0, f0⟩ := cell_of hcur (show k * 2 < cur.size by rw [hcs]; omega)
      obtain ⟨u1, k1, f1⟩ := cell_of hcur (show k * 2 + 1 < cur.size by rw [hcs]; omega)
      have N1 := hid (show ∃ l1 : List Lb, l1.length = L ∧ Own (put2 wr g (k * 2) (.string ⟨#[63]⟩) (.string m)) base (.slice (some ⟨g, 0, none⟩) L cv) l1 from ⟨_, by rw [List.length_set]; exact e1, own_put2 (k := k) ⟨#[63]⟩ m o1 (by omega)⟩)
      have N2 := hid (gby_put2 HG.out (g := g) (Or.inl HR.out.symm) (k * 2) (.string ⟨#[63]⟩) (.string m))
      unfold put2 at N1 N2
      clear o1 e1 hcur hcs hnc hbg HO
      go_wp2_with fail
      exact ⟨⟨k + 1, by omega, by go_num, N1, N2⟩, by simp [intOf]; omega⟩
    · obtain rfl : k = L := by omega
      have g1 : ¬ (k : Int) < (k : Int) := by omega
      go_wp2_with fail
      go_loopw [5, 6] (fun q i wr => ∃ j : Nat, j ≤ 16 ∧ i = .int .i64 j ∧ Hid (∃ l1 : List Lb, l1.length = k ∧ Own wr base (.slice av k cv) l1) ∧ Hid (w.grownBy wr r) ∧ Hid (∃ l2 : List Lb, l2.length = k + j ∧ Own wr base q l2 ∧ (q.ownBlock = r ∨ ∀ b, q.ownBlock = some b → w.heap.size ≤ b))) (fun _ i _ => 16 - (intOf i).toNat)
      case atStart => exact ⟨0, by omega, rfl, HO, HG, hid (by obtain ⟨l1, e1, o1⟩ := HO.out; exact ⟨l1, e1, o1, Or.inl HR.out.symm⟩)⟩
      case round =>
        obtain ⟨j, hj, rfl, HO2, HG2, HQ⟩ := hrel
        by_cases hlt2 : j < 16
        · have g1 : (j : Int) < 16 := by omega
          obtain ⟨l1, e1, o1⟩ := HO2.out
          obtain ⟨l2, e2, o2, b2⟩ := HQ.out
          have O1 := hid o1
          have E1 := hid e1
          have O2 := hid o2
          have E2 := hid e2
          have B2 := hid b2
          have hsz := HG2.out.size
          have A1 := hid (gby_alloc HG2.out (.cells #[.string ⟨#[63, 63]⟩, .string m] 36))
          clear o1 e1 o2 e2 b2 HO2 HQ HG2
          go_wp2_with (first
            | (at_builtin; refine wpList_append_stays _ rfl _ _ 22 rfl base 36 i0 (.agg #[.string ByteArray.empty, .string ByteArray.empty]) 2 32 Tryz.underlying22 hi hz0 hz1 hz2 rfl (by decide) _ _ _ rfl (World.ownsRow.alloc O2.out _) ⟨wr.heap.size, 0, none⟩ 1 1 [.string ⟨#[63, 63]⟩, .string m] rfl rfl (cell_two_at _ _ _ _ _ rfl) (fun x hx => by simp at hx; rcases hx with rfl | rfl <;> rfl) (by have := E2.out; unfold maxLen; omega) (by have := E2.out; omega) (by have := HBS.out; simp; omega) (by decide) ?_; intro v3 w3 o3 g3 s3 b3)
            | go_in)
          have N1 := hid (show ∃ l1 : List Lb, l1.length = k ∧ Own w3 base (.slice av k cv) l1 from ⟨l1, E1.out, s3 _ _ _ _ (World.ownsRow.alloc O1.out _) (Or.inl (by rw [E1.out, E2.out]; omega))⟩)
          have N2 := hid (gby_step A1.out g3 B2.out)
          have N3 := hid (show ∃ l2 : List Lb, l2.length = k + (j + 1) ∧ Own w3 base v3 l2 ∧ (v3.ownBlock = r ∨ ∀ b, v3.ownBlock = some b → w.heap.size ≤ b) from ⟨l2 ++ [(⟨#[63, 63]⟩, m)], by rw [List.length_append, E2.out]; rfl, own_snoc o3, by
            rcases b3 with e | e
            · rw [e]; exact B2.out
            · exact Or.inr (fun b e' => by rw [e] at e'; injection e' with e'; have := A1.out.size; omega)⟩)
          clear o3 g3 s3 b3 O1 O2 A1 B2
          go_wp2_with fail
          exact ⟨⟨j + 1, by omega, by go_num, N1, N2, N3⟩, by simp [intOf]; omega⟩
        · obtain rfl : j = 16 := by omega
          have g1 : ¬ ((16 : Nat) : Int) < 16 := by omega
          have HX := hid (show k = 0 ∨ ∃ g, (Value.slice av k cv).ownBlock = some g ∧ g < wr.heap.size by
            obtain ⟨l1, e1, o1⟩ := HO2.out
            by_cases h0 : k = 0
            · exact Or.inl h0
            · obtain ⟨g, cap, cur, ev, hbg, hcur, _⟩ := own_real o1 e1 (by omega)
              refine Or.inr ⟨g, by rw [ev]; rfl, ?_⟩
              apply Classical.byContradiction
              intro n
              rw [Array.getElem?_eq_none (by omega)] at hcur
              cases hcur)
          have HS := hid HG2.out.size
          clear HQ
          generalize hW : wr.heap.size = S at *
          have HW := hid hW
          clear hW
          go_wp2_with fail
          go_loopw [7, 8] (fun q i wr => ∃ j : Nat, j ≤ 80 ∧ i = .int .i64 j ∧ Hid (∃ l1 : List Lb, l1.length = k ∧ Own wr base (.slice av k cv) l1) ∧ Hid (w.grownBy wr r) ∧ Hid (∃ l2 : List Lb, l2.length = j ∧ Own wr S q l2) ∧ Hid (S ≤ wr.heap.size)) (fun _ i _ => 80 - (intOf i).toNat)
          case atStart => exact ⟨0, by omega, rfl, HO2, HG2, hid ⟨[], rfl, World.ownsRow_nil _ _ _ _⟩, hid (Nat.le_of_eq HW.out.symm)⟩
          case round =>
            obtain ⟨j, hj, rfl, HO3, HG3, HQ, HZ⟩ := hrel
            by_cases hlt3 : j < 80
            · have g1 : (j : Int) < 80 := by omega
              obtain ⟨l1, e1, o1⟩ := HO3.out
              obtain ⟨l2, e2, o2⟩ := HQ.out
              have O1 := hid o1
              have E1 := hid e1
              have O2 := hid o2
              have E2 := hid e2
              have A1 := hid (gby_alloc HG3.out (.cells #[.string ⟨#[63, 63, 63]⟩, .string m] 36))
              clear o1 e1 o2 e2 HO3 HQ HG3
              go_wp2_with (first
                | (at_builtin; refine wpList_append_stays _ rfl _ _ 22 rfl S 36 i0 (.agg #[.string ByteArray.empty, .string ByteArray.empty]) 2 32 Tryz.underlying22 hi hz0 hz1 hz2 rfl (by decide) _ _ _ rfl (World.ownsRow.alloc O2.out _) ⟨wr.heap.size, 0, none⟩ 1 1 [.string ⟨#[63, 63, 63]⟩, .string m] rfl rfl (cell_two_at _ _ _ _ _ rfl) (fun x hx => by simp at hx; rcases hx with rfl | rfl <;> rfl) (by have := E2.out; unfold maxLen; omega) (by have := E2.out; omega) (by have := HZ.out; simp; omega) (by decide) ?_; intro v3 w3 o3 g3 s3 b3)
                | go_in)
              have N1 := hid (show ∃ l1 : List Lb, l1.length = k ∧ Own w3 base (.slice av k cv) l1 from ⟨l1, E1.out, s3 _ _ _ _ (World.ownsRow.alloc O1.out _) (by
                rcases HX.out with e | ⟨g, e, hg⟩
                · exact Or.inl (by rw [E1.out, e]; exact Nat.zero_le _)
                · exact Or.inr (fun e' => by rw [e] at e'; have := own_base O2.out g e'.symm; omega))⟩)
              have N2 := hid (gby_step A1.out g3 (Or.inr (fun b e => by have := own_base O2.out b e; have := HS.out; omega)))
              have N3 := hid (show ∃ l2 : List Lb, l2.length = j + 1 ∧ Own w3 S v3 l2 from ⟨l2 ++ [(⟨#[63, 63, 63]⟩, m)], by rw [List.length_append, E2.out]; rfl, own_snoc o3⟩)
              have N4 := hid (show S ≤ w3.heap.size by have := g3.size; have := HZ.out; simp at *; omega)
              clear o3 g3 s3 b3 O1 O2 A1 HZ
              go_wp2_with fail
              exact ⟨⟨j + 1, by omega, by go_num, N1, N2, N3, N4⟩, by simp [intOf]; omega⟩
            · obtain rfl : j = 80 := by omega
              have g1 : ¬ ((80 : Nat) : Int) < 80 := by omega
              obtain ⟨l1, e1, o1⟩ := HO3.out
              obtain ⟨l2, e2, o2⟩ := HQ.out
              obtain ⟨gm, cm, curm, ev, _⟩ := own_real o2 e2 (by omega)
              subst ev
              have O1 := hid o1
              have E1 := hid e1
              have CM := hid (own_cells o2)
              have E2 := hid e2
              have HSZ := hid (show base ≤ wr.heap.size by have := HBS.out; have := HG3.out.size; omega)
              clear o1 e1 o2 e2 HO3 HQ
              go_wp2_with (first
                | (at_builtin; refine wpList_append_stays _ rfl _ _ 22 rfl base 36 i0 (.agg #[.string ByteArray.empty, .string ByteArray.empty]) 2 32 Tryz.underlying22 hi hz0 hz1 hz2 rfl (by decide) (.slice av k cv) _ _ rfl O1.out ⟨gm, 0, none⟩ 80 cm (cellsF l2) rfl (by rw [cellsF_len, E2.out]) CM.out (cellsF_one l2) (by have := E1.out; unfold maxLen at *; omega) (by have := E1.out; omega) HSZ.out (by decide) ?_; intro v3 w3 o3 g3 s3 b3)
                | go_in)
              have o4 : Own w3 base v3 (l1 ++ l2) := by unfold Own; rw [cellsF_app, List.length_append, E2.out]; exact o3
              obtain ⟨N, hN⟩ : ∃ N, N = k + 80 := ⟨_, rfl⟩
              obtain ⟨g', cap', cur', ev, hbg, hcur, hnc, hcs⟩ := own_real o4 (show (l1 ++ l2).length = N by rw [List.length_append, E1.out, E2.out, hN]) (by omega)
              have R0 := hid (gby_step HG3.out g3 (Or.inl HR.out.symm))
              have R1 := hid (show some g' = r ∨ w.heap.size ≤ g' by
                rcases b3 with e | e
                · rw [ev, ← HR.out] at e
                  exact Or.inl e
                · rw [ev] at e
                  injection e with e
                  have := HG3.out.size
                  exact Or.inr (by show w.heap.size ≤ g'; simp at e; omega))
              subst ev
              obtain ⟨u0, k0, f0⟩ := cell_of hcur (show 0 < cur'.size by rw [hcs]; omega)
              obtain ⟨u1, k1, f1⟩ := cell_of hcur (show 1 < cur'.size by rw [hcs]; omega)
              have g9 : (0 : Int) < (N : Int) := by omega
              have g8 : N ≤ 4398046512000 := by omega
              have g7 : N ≤ maxLen := by unfold maxLen; omega
              have g6 : ¬ (N : Int) ≤ 0 := by omega
              clear hN
              have R2 := hid (gby_put2 R0.out R1.out 0 (.string ⟨#[63]⟩) (.string m))
              unfold put2 at R2
              clear o3 g3 s3 b3 o4 hcur hcs hbg O1 CM
              go_wp2_with fail
              refine bodyPost_end (v := .tuple #[]) (by simp [results, Tryz.results13]) rfl ?_
              exact ⟨rfl, R2.out⟩
end Go.Proofs.YtkbjjbgmnfngjaaGreatDoor.L
