import Derived.Test.YtkbjjbgmnfngjaaGreatDoorMgAC
namespace Go.Proofs.YtkbjjbgmnfngjaaGreatDoor.L
open Go.RowKit
set_option linter.unusedVariables false
def kept (L : List Df) (l : List Lb) : List Lb := l.filter fun x => !hit L x.1
def newly (L : List Df) : List Lb := (L.filter fun d => d.has).map fun d => (d.k, d.n)
theorem ItemsD.low {W W' : World} {v : Value} {L : List Df} (h : ItemsD W v L) (hb : Below W.heap.size W W') : ItemsD W' v L := by
  obtain ⟨a, cap, rfl, h⟩ := h
  refine ⟨a, cap, rfl, ?_⟩
  rcases h with h | ⟨b, off, rfl, hl, hc⟩
  · exact Or.inl h
  · refine Or.inr ⟨b, off, rfl, Nat.lt_of_lt_of_le hl hb.size, fun j hj => ?_⟩
    obtain ⟨d0, d1, d2, d3, d4⟩ := hc j hj
    exact ⟨(hb.cell (p := ⟨b, off + j * 5, none⟩) hl).trans d0, (hb.cell (p := ⟨b, off + j * 5 + 1, none⟩) hl).trans d1, (hb.cell (p := ⟨b, off + j * 5 + 2, none⟩) hl).trans d2, (hb.cell (p := ⟨b, off + j * 5 + 3, none⟩) hl).trans d3, (hb.cell (p := ⟨b, off + j * 5 + 4, none⟩) hl).trans d4⟩
theorem kept_take (L : List Df) (l : List Lb) (k : Nat) (h : k < l.length) : kept L (l.take (k + 1)) = kept L (l.take k) ++ (if hit L (ky l k) = true then [] else [(ky l k, vl l k)]) := by
  unfold kept
  rw [List.take_succ_eq_append_getElem h, List.filter_append, kv_get l k h]
  cases e : hit L (ky l k) <;> simp [e]
theorem newly_take (L : List Df) (k : Nat) (h : k < L.length) : newly (L.take (k + 1)) = newly (L.take k) ++ (if L[k].has = true then [(L[k].k, L[k].n)] else []) := by
  unfold newly
  rw [List.take_succ_eq_append_getElem h, List.filter_append, List.map_append]
  congr 1
  cases e : L[k].has <;> simp [e]
theorem newly_len (L : List Df) (k : Nat) : (newly (L.take k)).length ≤ k := by
  unfold newly
  rw [List.length_map]
  exact Nat.le_trans (List.length_filter_le _ _) (by rw [List.length_take]; exact Nat.min_le_left _ _)
theorem kept_len (L : List Df) (l : List Lb) (k : Nat) : (kept L (l.take k)).length ≤ k := by
  unfold kept
  exact Nat.le_trans (List.length_filter_le _ _) (by rw [List.length_take]; exact Nat.min_le_left _ _)
set_option maxHeartbeats 4000000 in
set_option maxRecDepth 100000 in
theorem patched_any (v v2 : Value) (l : List Lb) (L : List Df) (w : World) (hi : Items w v l) (h2 : ItemsD w v2 L) (hl : l.length ≤ 64) (hL : L.length ≤ 2600000000000) : Calls Tryz.prog 40 #[v, v2] w fun e w' => ∃ v', e = .returned v' ∧ Own w' w.heap.size v' (kept L l ++ newly L) ∧ Below w.heap.size w w' := by
  obtain ⟨i0, hi0, hz0, hz1, hz2⟩ := info_parts infoL
  obtain ⟨a, c, rfl, h⟩ := hi
  have H2 := hid h2
  obtain ⟨a2, c2, rfl, h2⟩ := h2
  go_enter Tryz.func40, Tryz.ntmps40
  go_wp2
  obtain ⟨len, hlen⟩ : ∃ n, n = l.length := ⟨_, rfl⟩
  have HLEN := hid hlen
  rw [← hlen] at h hl ⊢
  clear hlen
  go_loopw [5, 12] (fun tv i wr => ∃ k : Nat, k ≤ len ∧ i = .int .i64 k ∧ Hid (Below w.heap.size w wr) ∧ Hid (Own wr w.heap.size tv (kept L (l.take k)))) (fun _ i _ => len - (intOf i).toNat)
  case atStart => exact ⟨0, Nat.zero_le _, rfl, hid (Below.refl _ _), hid (World.ownsRow_nil _ _ _ _)⟩
  case round =>
    obtain ⟨k, hk, rfl, HB, OW⟩ := hrel
    by_cases hlt : k < len
    · rcases h with h0 | ⟨b, off, rfl, hbl, hc⟩
      · omega
      obtain ⟨c0, c1⟩ := hc k hlt
      rw [← HB.out.cell (p := ⟨b, off + k * 2, none⟩) hbl] at c0
      rw [← HB.out.cell (p := ⟨b, off + k * 2 + 1, none⟩) hbl] at c1
      have hsz : b < wr.heap.size := Nat.lt_of_lt_of_le hbl HB.out.size
      have hbs : w.heap.size ≤ wr.heap.size := HB.out.size
      have HT := hid (kept_take L l k (by rw [← HLEN.out]; exact hlt))
      have HKL := kept_len L l k
      generalize ky l k = s1 at *
      generalize vl l k = s2 at *
      generalize kept L (l.take k) = KT at *
      have A0 := belowA wr (.cells #[.string s1, .string s2] 36)
      have CF := hid (containsfn_any (.slice a2 L.length c2) L wr.heap.size s1 _ ((H2.out.low HB.out).low A0) hL (by simp) (show (wr.alloc (.cells #[.string s1, .string s2] 36)).cell? ⟨wr.heap.size, 0, none⟩ = some (.string s1) by simp [go_sem]))
      have X0 : (wr.alloc (.cells #[.string s1, .string s2] 36)).cell? ⟨wr.heap.size, 1, none⟩ = some (.string s2) := by simp [go_sem]
      have X1 : (wr.alloc (.cells #[.string s1, .string s2] 36)).cell? ⟨wr.heap.size, 0, none⟩ = some (.string s1) := by simp [go_sem]
      have HX0 := hid X0
      have HX1 := hid X1
      have HA := hid A0
      have g1 : (k : Int) < (len : Int) := by omega
      have g2 : (0 : Int) ≤ (k : Int) := by omega
      clear hc X0 X1 A0
      go_wp2_with fail
      refine CF.out.mono ?_
      rintro e w2 ⟨rfl, hb⟩
      have R2 := hid (HA.out.trans (hb.mono HA.out.size))
      have B2 := hid (HB.out.trans (R2.out.mono HB.out.size))
      have q0 := (hb.cell (p := ⟨wr.heap.size, 0, none⟩) (by simp)).trans HX1.out
      have q1 := (hb.cell (p := ⟨wr.heap.size, 1, none⟩) (by simp)).trans HX0.out
      have OW2 := hid (own_low OW.out R2.out)
      have hws : w.heap.size ≤ w2.heap.size := B2.out.size
      clear hb CF c0 c1
      cases eh : hit L s1
      · rw [eh, if_neg (by decide)] at HT
        clear eh
        go_wp2_with (first
          | (at_builtin; refine wpList_append_own _ rfl _ _ 22 rfl w.heap.size 36 i0 (.agg #[.string ByteArray.empty, .string ByteArray.empty]) 2 32 Tryz.underlying22 hi0 hz0 hz1 hz2 rfl (by decide) _ _ _ rfl (World.ownsRow.alloc OW2.out _) ⟨w2.heap.size, 0, none⟩ 1 1 [.string s1, .string s2] rfl rfl (cell_two_at _ _ _ _ _ (by simp)) (fun x hx => by simp at hx; rcases hx with rfl | rfl <;> rfl) (by unfold maxLen; omega) (by omega) (by simp; omega) ?_; intro v' w9 hown' hgrow9 hnil9)
          | go_in)
        clear hnil9
        have B9 : Below w.heap.size w w9 := (B2.out.alloc hws _).grown hgrow9 (by simp; omega) (fun j hj => own_base OW2.out j hj)
        exact ⟨⟨k + 1, by omega, by go_num, hid B9, hid (by rw [HT.out]; exact own_snoc (x := (s1, s2)) hown')⟩, by simp [intOf]; omega⟩
      · rw [eh, if_pos rfl, List.append_nil] at HT
        clear eh
        go_wp2_with fail
        exact ⟨⟨k + 1, by omega, by go_num, B2, hid (by rw [HT.out]; exact OW2.out)⟩, by simp [intOf]; omega⟩
    · obtain rfl : k = len := by omega
      have o := OW.out
      rw [HLEN.out, List.take_length] at o
      have HO := hid o
      clear o OW
      have HKL : (kept L l).length ≤ 64 := by
        have := kept_len L l l.length
        rw [List.take_length] at this
        have := HLEN.out
        omega
      have HB0 := HB
      obtain ⟨lenD, hlenD⟩ : ∃ n, n = L.length := ⟨_, rfl⟩
      have HLD := hid hlenD
      have h2' := h2
      rw [← hlenD] at hL ⊢
      clear hlenD h
      go_wp2
      go_loopw [5, 27] (fun tv i wq => ∃ j : Nat, j ≤ lenD ∧ i = .int .i64 j ∧ Hid (Below w.heap.size w wq) ∧ Hid (Own wq w.heap.size tv (kept L l ++ newly (L.take j)))) (fun _ i _ => lenD - (intOf i).toNat)
      case atStart => exact ⟨0, Nat.zero_le _, rfl, HB0, hid (by rw [List.take_zero]; show Own _ _ _ (kept L l ++ []); rw [List.append_nil]; exact HO.out)⟩
      case round =>
        obtain ⟨j, hj, rfl, HQ, OQ⟩ := hrel
        by_cases hlt2 : j < lenD
        · rcases h2' with h0 | ⟨b, off, rfl, hbl, hc⟩
          · have := HLD.out
            omega
          obtain ⟨d0, d1, d2, d3, d4⟩ := hc j (by rw [← HLD.out]; exact hlt2)
          rw [← HQ.out.cell (p := ⟨b, off + j * 5, none⟩) hbl] at d0
          rw [← HQ.out.cell (p := ⟨b, off + j * 5 + 1, none⟩) hbl] at d1
          rw [← HQ.out.cell (p := ⟨b, off + j * 5 + 2, none⟩) hbl] at d2
          rw [← HQ.out.cell (p := ⟨b, off + j * 5 + 3, none⟩) hbl] at d3
          rw [← HQ.out.cell (p := ⟨b, off + j * 5 + 4, none⟩) hbl] at d4
          have hsz : b < wr.heap.size := Nat.lt_of_lt_of_le hbl HQ.out.size
          have hbs : w.heap.size ≤ wr.heap.size := HQ.out.size
          have HT := hid (newly_take L j (by rw [← HLD.out]; exact hlt2))
          have HNL := newly_len L j
          have g1 : (j : Int) < (lenD : Int) := by omega
          have g2 : (0 : Int) ≤ (j : Int) := by omega
          generalize L[j]'(by rw [← HLD.out]; exact hlt2) = d at *
          obtain ⟨dk, dO, dn, dh, ds⟩ := d
          simp only at d0 d1 d2 d3 d4 HT
          have HKN : (kept L l ++ newly (L.take j)).length ≤ 2600000000064 := by rw [List.length_append]; omega
          generalize hKT : kept L l ++ newly (L.take j) = KT at *
          have HKT := hid hKT
          clear hc hKT
          cases ds with
          | true =>
            rw [if_pos rfl] at HT
            go_wp2_with (first
              | (at_builtin; refine wpList_append_own _ rfl _ _ 22 rfl w.heap.size 36 i0 (.agg #[.string ByteArray.empty, .string ByteArray.empty]) 2 32 Tryz.underlying22 hi0 hz0 hz1 hz2 rfl (by decide) _ _ _ rfl (World.ownsRow.alloc (World.ownsRow.alloc OQ.out _) _) ⟨wr.heap.size + 1, 0, none⟩ 1 1 [.string dk, .string dn] rfl rfl (cell_two_at _ _ _ _ _ (by simp)) (fun x hx => by simp at hx; rcases hx with rfl | rfl <;> rfl) (by unfold maxLen; omega) (by omega) (by simp; omega) ?_; intro v' w9 hown' hgrow9 hnil9)
              | go_in)
            clear hnil9
            have B9 : Below w.heap.size w w9 := ((HQ.out.alloc hbs _).alloc (by simp; omega) _).grown hgrow9 (by simp; omega) (fun j hj => own_base OQ.out j hj)
            exact ⟨⟨j + 1, by omega, by go_num, hid B9, hid (by rw [HT.out, ← List.append_assoc, HKT.out]; exact own_snoc (x := (dk, dn)) hown')⟩, by simp [intOf]; omega⟩
          | false =>
            rw [if_neg (by decide), List.append_nil] at HT
            go_wp2_with fail
            exact ⟨⟨j + 1, by omega, by go_num, hid (HQ.out.alloc hbs _), hid (by rw [HT.out, HKT.out]; exact World.ownsRow.alloc OQ.out _)⟩, by simp [intOf]; omega⟩
        · obtain rfl : j = lenD := by omega
          have o2 := OQ.out
          rw [HLD.out, List.take_length] at o2
          have HO2 := hid o2
          clear o2 OQ
          go_wp2
          go_ret
          exact ⟨_, rfl, HO2.out, HQ.out⟩
end Go.Proofs.YtkbjjbgmnfngjaaGreatDoor.L
