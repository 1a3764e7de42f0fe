import Derived.Test.YtnldagpbmphdhabDoorDme
namespace Go.Proofs.YtnldagpbmphdhabDoor.L
open Go.RowKit
set_option linter.unusedVariables false
theorem cell_five_at (w : World) (B : Nat) (a b c d e : Value) (t : TypeId) (hB : B = w.heap.size) : ∀ (j : Nat) (u : Value), [a, b, c, d, e][j]? = some u → (w.alloc (.cells #[a, b, c, d, e] t)).cell? ((⟨B, 0, none⟩ : Addr).add j) = some u := by
  subst hB
  exact cell_five_new w a b c d e t
def bk (d : Df) : Df := ⟨d.k, d.n, d.o, d.has, d.had⟩
theorem bk_take (L : List Df) (k : Nat) (h : k < L.length) : (L.take (k + 1)).map bk = (L.take k).map bk ++ [bk L[k]] := by
  rw [List.take_succ_eq_append_getElem h, List.map_append]
  rfl
set_option maxHeartbeats 4000000 in
set_option maxRecDepth 100000 in
theorem back_any (v : Value) (L : List Df) (w : World) (hi : ItemsD w v L) (hl : L.length ≤ 64) : Calls Tryd.prog 20 #[v] w fun e w' => ∃ v', e = .returned v' ∧ w'.ownsRow w.heap.size 47 5 v' L.length (cellsD (L.map bk)) ∧ Below w.heap.size w w' := by
  obtain ⟨i0, hi0, hz0, hz1, hz2⟩ := info_parts infoD
  obtain ⟨a, cap, rfl, h⟩ := hi
  obtain ⟨len, hlen⟩ : ∃ n, n = L.length := ⟨_, rfl⟩
  have HLEN := hid hlen
  rw [← hlen] at hl ⊢
  clear hlen
  go_enter Tryd.func20, Tryd.ntmps20
  go_wp2
  go_loopw [3, 4] (fun tv i wr => ∃ k : Nat, k ≤ len ∧ i = .int .i64 k ∧ Hid (Below w.heap.size w wr) ∧ Hid (wr.ownsRow w.heap.size 47 5 tv k (cellsD ((L.take k).map bk)))) (fun _ i _ => len - (intOf i).toNat)
  case atStart => exact ⟨0, Nat.zero_le _, rfl, hid (Below.refl _ _), hid (World.ownsRow_nil _ _ _ _)⟩
  case round =>
    obtain ⟨k, hk, rfl, HB, OW⟩ := hrel
    by_cases hlt : k < len
    · rcases h with h0 | ⟨b, off, rfl, hbl, hc⟩
      · have := HLEN.out
        omega
      obtain ⟨d0, d1, d2, d3, d4⟩ := hc k (by rw [← HLEN.out]; exact hlt)
      rw [← HB.out.cell (p := ⟨b, off + k * 5, none⟩) hbl] at d0
      rw [← HB.out.cell (p := ⟨b, off + k * 5 + 1, none⟩) hbl] at d1
      rw [← HB.out.cell (p := ⟨b, off + k * 5 + 2, none⟩) hbl] at d2
      rw [← HB.out.cell (p := ⟨b, off + k * 5 + 3, none⟩) hbl] at d3
      rw [← HB.out.cell (p := ⟨b, off + k * 5 + 4, none⟩) hbl] at d4
      have hsz : b < wr.heap.size := Nat.lt_of_lt_of_le hbl HB.out.size
      have hbs : w.heap.size ≤ wr.heap.size := HB.out.size
      have HT := hid (bk_take L k (by rw [← HLEN.out]; exact hlt))
      have g1 : (k : Int) < (len : Int) := by omega
      have g2 : (0 : Int) ≤ (k : Int) := by omega
      generalize L[k]'(by rw [← HLEN.out]; exact hlt) = d at *
      obtain ⟨dk, dO, dn, dh, ds⟩ := d
      simp only [bk] at d0 d1 d2 d3 d4 HT
      clear hc
      go_wp2_with (first
        | (at_builtin; refine wpList_append_own _ rfl _ _ 44 rfl w.heap.size 47 i0 (.agg #[.string ByteArray.empty, .string ByteArray.empty, .string ByteArray.empty, .bool false, .bool false]) 5 56 Tryd.underlying44 hi0 hz0 hz1 hz2 rfl (by decide) _ _ _ rfl (World.ownsRow.alloc (World.ownsRow.alloc OW.out _) _) ⟨wr.heap.size + 1, 0, none⟩ 1 1 [.string dk, .string dn, .string dO, .bool ds, .bool dh] rfl rfl (cell_five_at _ _ _ _ _ _ _ _ (by simp)) (fun x hx => by simp at hx; rcases hx with rfl | rfl | rfl | rfl | rfl <;> rfl) (by unfold maxLen; omega) (by omega) (by simp; omega) ?_; intro v' w9 hown' hgrow9 hnil9)
        | go_in)
      clear hnil9
      have B9 : Below w.heap.size w w9 := ((HB.out.alloc hbs _).alloc (by simp; omega) _).grown hgrow9 (by simp; omega) (fun j hj => own_base OW.out j hj)
      exact ⟨⟨k + 1, by omega, by go_num, hid B9, hid (by rw [HT.out, cellsD_snoc]; exact hown')⟩, by simp [intOf]; omega⟩
    · obtain rfl : k = len := by omega
      have o := OW.out
      rw [HLEN.out, List.take_length, ← HLEN.out] at o
      have HO := hid o
      clear o
      go_wp2
      go_ret
      exact ⟨_, rfl, HO.out, HB.out⟩
end Go.Proofs.YtnldagpbmphdhabDoor.L
