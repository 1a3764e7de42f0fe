import Derived.Test.YtnlohjcjboelgaaRCheck
import Derived.Test.YtnlohjcjboelgaaAdd
namespace Go.Proofs.Ytnlohjcjboelgaa.L
open Go.RowKit
set_option linter.unusedVariables false
/-- The names of b that a has not, with 0. -/
def restB (a b : List It) : List It := (b.filter fun y => decide (placeN a y.1 < 0)).map fun y => (y.1, 0)
def zeros (a : List It) : List It := a.map fun x => (x.1, 0)
theorem zeros_take (l : List It) (k : Nat) (h : k < l.length) : zeros (l.take (k + 1)) = zeros (l.take k) ++ [(nm l k, 0)] := by
  unfold zeros nm
  rw [List.take_succ_eq_append_getElem h, List.map_append, show l.getD k (ByteArray.empty, 0) = l[k] by simp [h]]
  rfl
theorem restB_yes (a l : List It) (k : Nat) (h : k < l.length) (c : placeN a (nm l k) < 0) : restB a (l.take (k + 1)) = restB a (l.take k) ++ [(nm l k, 0)] := by
  unfold restB
  unfold nm at *
  rw [show l.getD k (ByteArray.empty, 0) = l[k] by simp [h]] at *
  rw [List.take_succ_eq_append_getElem h, List.filter_append, List.map_append]
  congr 1
  rw [List.filter_cons_of_pos (by simpa using c)]
  rfl
theorem restB_no (a l : List It) (k : Nat) (h : k < l.length) (c : ¬ placeN a (nm l k) < 0) : restB a (l.take (k + 1)) = restB a (l.take k) := by
  unfold restB
  unfold nm at *
  rw [show l.getD k (ByteArray.empty, 0) = l[k] by simp [h]] at *
  rw [List.take_succ_eq_append_getElem h, List.filter_append, List.filter_cons_of_neg (by simpa using c)]
  simp
set_option maxHeartbeats 8000000 in
set_option maxRecDepth 100000 in
theorem both_any (v1 v2 : Value) (l c : List It) (w : World) (i1 : Items w v1 l) (i2 : Items w v2 c) (g1 : Good l) (g2 : Good c) (h1 : l.length ≤ 16) (h2 : c.length ≤ 16) :
    Calls Try.prog 23 #[v1, v2] w fun e w' => ∃ v, e = .returned v ∧ w'.ownsRow w.heap.size 41 2 v (zeros l ++ restB l c).length (cellsF (zeros l ++ restB l c)) ∧ Below w.heap.size w w' := by
  obtain ⟨i0, hi, hz0, hz1, hz2⟩ := info_parts info31
  have I1 := hid i1
  have I2 := hid i2
  have G1 := hid g1
  have G2 := hid g2
  clear g1 g2
  obtain ⟨a1, c1, rfl, x1⟩ := i1
  obtain ⟨a2, c2, rfl, x2⟩ := i2
  obtain ⟨n1, hn1⟩ : ∃ n, n = l.length := ⟨_, rfl⟩
  obtain ⟨n2, hn2⟩ : ∃ n, n = c.length := ⟨_, rfl⟩
  have N1 := hid hn1
  have N2 := hid hn2
  rw [← hn1] at h1 x1 I1 ⊢
  rw [← hn2] at h2 x2 I2 ⊢
  clear hn1 hn2
  go_enter Try.func23, Try.ntmps23
  go_wp2
  go_loopw [5, 6] (fun o i wr => ∃ k : Nat, k ≤ n1 ∧ i = .int .i64 k ∧ Hid (Below w.heap.size w wr) ∧ Hid (wr.ownsRow w.heap.size 41 2 o (zeros (l.take k)).length (cellsF (zeros (l.take k))))) (fun _ i _ => n1 - (intOf i).toNat)
  case atStart => exact ⟨0, Nat.zero_le _, rfl, hid ((Below.refl _ _).alloc (Nat.le_refl _) _), hid (World.ownsRow_made w #[] 0 (Nat.le_refl _) (Nat.zero_le _) rfl)⟩
  case round =>
    obtain ⟨k, hk, rfl, BE, OW⟩ := hrel
    have hws : w.heap.size ≤ wr.heap.size := BE.out.size
    by_cases hlt : k < n1
    · rcases x1 with h0 | ⟨b, off, rfl, hbl, hc⟩
      · omega
      obtain ⟨p0, p1⟩ := hc k hlt
      rw [← BE.out.cell (p := ⟨b, off + k * 2, none⟩) hbl] at p0
      have hsz : b < wr.heap.size := Nat.lt_of_lt_of_le hbl BE.out.size
      have HT := hid (zeros_take l k (by rw [← N1.out]; exact hlt))
      have sk : (zeros (l.take k)).length ≤ 16 := by unfold zeros; rw [List.length_map, List.length_take]; omega
      generalize zeros (l.take k) = S at *
      generalize nm l k = s at *
      clear hc p1
      go_wp2_with (first
        | (at_builtin; refine wpList_append_own _ rfl _ _ 24 rfl w.heap.size 41 i0 (.agg #[.string ByteArray.empty, .int .i64 0]) 2 24 Try.underlying24 hi hz0 hz1 hz2 rfl (by decide) _ _ _ rfl (OW.out.alloc _) ⟨wr.heap.size, 0, none⟩ 1 1 [.string s, .int .i64 0] rfl rfl (cell_two_at _ _ _ _ _ (by simp)) (fun x hx => by simp at hx; rcases hx with rfl | rfl <;> rfl) (by unfold maxLen; omega) (by omega) (by simp; omega) ?_; intro v' w3 hown' hgrow3 hnil3)
        | go_in)
      clear hnil3
      have BE3 : Below w.heap.size w w3 := (BE.out.alloc hws _).grown hgrow3 (by simp; omega) (fun j hj => own_base OW.out j hj)
      exact ⟨⟨k + 1, by omega, by go_num, hid BE3, hid (by rw [HT.out]; exact ownF_snoc hown')⟩, by simp [intOf]; omega⟩
    · obtain rfl : k = n1 := by omega
      have OW0 := hid (show wr.ownsRow w.heap.size 41 2 _ (zeros l).length (cellsF (zeros l)) from by have o := OW.out; rw [N1.out, List.take_length] at o; exact o)
      have zl : (zeros l).length ≤ 16 := by unfold zeros; rw [List.length_map, ← N1.out]; exact h1
      clear OW
      go_wp2
      go_loopw [5, 7] (fun o i wr => ∃ j : Nat, j ≤ n2 ∧ i = .int .i64 j ∧ Hid (Below w.heap.size w wr) ∧ Hid (wr.ownsRow w.heap.size 41 2 o (zeros l ++ restB l (c.take j)).length (cellsF (zeros l ++ restB l (c.take j))))) (fun _ i _ => n2 - (intOf i).toNat)
      case atStart => exact ⟨0, Nat.zero_le _, rfl, BE, hid (by simpa [restB] using OW0.out)⟩
      case round =>
        rename_i wr0
        obtain ⟨j, hj, rfl, BE, OW⟩ := hrel
        have hws : w.heap.size ≤ wr.heap.size := BE.out.size
        by_cases hlt : j < n2
        · rcases x2 with h0 | ⟨b, off, rfl, hbl, hc⟩
          · omega
          obtain ⟨p0, p1⟩ := hc j hlt
          rw [← BE.out.cell (p := ⟨b, off + j * 2, none⟩) hbl] at p0
          have hsz : b < wr.heap.size := Nat.lt_of_lt_of_le hbl BE.out.size
          have hjc : j < c.length := by rw [← N2.out]; exact hlt
          have hn := (G2.out.2 j hjc).1
          have PL := hid (fun W (hB : Below w.heap.size w W) => place_any _ l (nm c j) W (I1.out.low hB) G1.out hn)
          have HBp := hid BE.out
          have sk : (zeros l ++ restB l (c.take j)).length ≤ 32 := by
            rw [List.length_append]
            have : (restB l (c.take j)).length ≤ j := by
              unfold restB
              rw [List.length_map]
              exact Nat.le_trans (List.length_filter_le _ _) (by rw [List.length_take]; omega)
            omega
          by_cases pl : placeN l (nm c j) < 0
          · have HT := hid (show zeros l ++ restB l (c.take (j + 1)) = (zeros l ++ restB l (c.take j)) ++ [(nm c j, 0)] by rw [restB_yes l c j hjc pl, List.append_assoc])
            generalize zeros l ++ restB l (c.take j) = S at *
            generalize placeN l (nm c j) = pp at *
            generalize nm c j = s at *
            clear hc p1 hn
            go_wp2_with (first
              | (go_at_call 30; refine (PL.out _ HBp.out).mono ?_; rintro e w1 ⟨rfl, m, hww⟩; subst hww)
              | (at_builtin; refine wpList_append_own _ rfl _ _ 24 rfl w.heap.size 41 i0 (.agg #[.string ByteArray.empty, .int .i64 0]) 2 24 Try.underlying24 hi hz0 hz1 hz2 rfl (by decide) _ _ _ rfl ((own_low OW.out (below_drewN (Below.refl _ _) _) hws).alloc _) ⟨wr.heap.size, 0, none⟩ 1 1 [.string s, .int .i64 0] rfl rfl (cell_two_at _ _ _ _ _ (by simp)) (fun x hx => by simp at hx; rcases hx with rfl | rfl <;> rfl) (by unfold maxLen; omega) (by omega) (by simp; omega) ?_; intro v' w3 hown' hgrow3 hnil3)
              | go_in)
            clear hnil3
            have BE3 : Below w.heap.size w w3 := ((below_drewN BE.out _).alloc hws _).grown hgrow3 (by simp; omega) (fun j hj => own_base OW.out j hj)
            exact ⟨⟨j + 1, by omega, by go_num, hid BE3, hid (by rw [HT.out]; exact ownF_snoc hown')⟩, by simp [intOf]; omega⟩
          · have HT := hid (show zeros l ++ restB l (c.take (j + 1)) = zeros l ++ restB l (c.take j) by rw [restB_no l c j hjc pl])
            generalize placeN l (nm c j) = pp at *
            generalize nm c j = s at *
            clear hc p1 hn sk
            go_wp2_with (go_at_call 30; refine (PL.out _ HBp.out).mono ?_; rintro e w1 ⟨rfl, m, hww⟩; subst hww)
            exact ⟨⟨j + 1, by omega, by go_num, hid (below_drewN BE.out _), hid (by rw [HT.out]; exact own_low OW.out (below_drewN (Below.refl _ _) _) hws)⟩, by simp [intOf]; omega⟩
        · obtain rfl : j = n2 := by omega
          have o := OW.out
          rw [N2.out, List.take_length] at o
          have O := hid o
          clear o
          go_wp2
          go_ret
          exact ⟨_, rfl, O.out, BE.out⟩
end Go.Proofs.Ytnlohjcjboelgaa.L
