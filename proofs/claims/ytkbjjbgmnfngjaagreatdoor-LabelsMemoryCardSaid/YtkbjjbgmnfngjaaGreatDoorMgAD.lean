import Derived.Test.YtkbjjbgmnfngjaaGreatDoorMgAC
namespace Go.Proofs.YtkbjjbgmnfngjaaGreatDoor.L
open Go.RowKit
set_option linter.unusedVariables false
/-- A difference that says something. -/
structure Fine (d : Df) : Prop where
  noOld : d.had = false → d.o = ByteArray.empty
  noNew : d.has = false → d.n = ByteArray.empty
  differ : d.had = d.has → d.o ≠ d.n
set_option maxHeartbeats 4000000 in
set_option maxRecDepth 100000 in
theorem something_any (d : Df) (w : World) (hf : Fine d) : Calls Tryz.prog 60 #[dv d] w fun e w' => e = .returned (.bool true) ∧ Below w.heap.size w w' := by
  obtain ⟨k, o, n, had, has⟩ := d
  obtain ⟨h1, h2, h3⟩ := hf
  simp only at h1 h2 h3
  unfold dv
  simp only
  cases had with
  | false =>
    obtain rfl := h1 rfl
    cases has with
    | false =>
      obtain rfl := h2 rfl
      exact absurd rfl (h3 rfl)
    | true =>
      clear h1 h2 h3
      go_enter Tryz.func60, Tryz.ntmps60
      go_wp2
      go_ret
      exact ⟨rfl, belowA _ _⟩
  | true =>
    cases has with
    | false =>
      obtain rfl := h2 rfl
      clear h1 h2 h3
      go_enter Tryz.func60, Tryz.ntmps60
      go_wp2
      go_ret
      exact ⟨rfl, belowA _ _⟩
    | true =>
      have n2 : (o.toList == n.toList) = false := by simp; exact fun h => h3 rfl (bytes_ext h)
      clear h1 h2 h3
      go_enter Tryz.func60, Tryz.ntmps60
      go_wp2
      go_ret
      exact ⟨rfl, belowA _ _⟩
end Go.Proofs.YtkbjjbgmnfngjaaGreatDoor.L
namespace Go.Proofs.YtkbjjbgmnfngjaaGreatDoor.L
open Go.RowKit
set_option linter.unusedVariables false
set_option maxHeartbeats 4000000 in
set_option maxRecDepth 100000 in
theorem index_has (v : Value) (l : List Lb) (x : Lb) (w : World) (hi : Items w v l) (hl : l.length ≤ 64) (hx : x ∈ l) : Calls Tryz.prog 103 #[v, .agg #[.string x.1, .string x.2]] w fun e w' => (∃ j : Nat, e = .returned (.int .i64 j)) ∧ Below w.heap.size w w' := by
  obtain ⟨a, c, rfl, h⟩ := hi
  obtain ⟨len, hlen⟩ : ∃ n, n = l.length := ⟨_, rfl⟩
  have HX := hid hx
  have HLEN := hid hlen
  rw [← hlen] at h hl ⊢
  clear hlen hx
  obtain ⟨xk, xv⟩ := x
  go_enter Tryz.func103, Tryz.ntmps103
  go_wp2
  go_loopw [8] (fun i wr => ∃ k : Nat, k ≤ len ∧ i = .int .i64 k ∧ Hid (Below (w.heap.size + 1) (w.alloc (.cells #[.string xk, .string xv] 36)) wr) ∧ Hid (∀ j, j < k → (ky l j, vl l j) ≠ (xk, xv))) (fun i _ => len - (intOf i).toNat)
  case atStart => exact ⟨0, Nat.zero_le _, rfl, hid (Below.refl _ _), hid (fun j hj => by omega)⟩
  case round =>
    obtain ⟨k, hk, rfl, HB, HN⟩ := hrel
    by_cases hlt : k < len
    · rcases h with h0 | ⟨b, off, rfl, hbl, hc⟩
      · omega
      obtain ⟨c0, c1⟩ := hc k hlt
      have A0 := belowA w (.cells #[.string xk, .string xv] 36)
      rw [← A0.cell (p := ⟨b, off + k * 2, none⟩) hbl, ← HB.out.cell (p := ⟨b, off + k * 2, none⟩) (Nat.lt_succ_of_lt hbl)] at c0
      rw [← A0.cell (p := ⟨b, off + k * 2 + 1, none⟩) hbl, ← HB.out.cell (p := ⟨b, off + k * 2 + 1, none⟩) (Nat.lt_succ_of_lt hbl)] at c1
      have m0 : wr.cell? ⟨w.heap.size, 0, none⟩ = some (.string xk) := (HB.out.cell (p := ⟨w.heap.size, 0, none⟩) (Nat.lt_succ_self _)).trans (by simp [go_sem])
      have m1 : wr.cell? ⟨w.heap.size, 1, none⟩ = some (.string xv) := (HB.out.cell (p := ⟨w.heap.size, 1, none⟩) (Nat.lt_succ_self _)).trans (by simp [go_sem])
      have HBW := hid (fun m => A0.trans ((below_drewN HB.out m).mono (Nat.le_succ _)))
      have g1 : (k : Int) < (len : Int) := by omega
      have g2 : (0 : Int) ≤ (k : Int) := by omega
      clear A0
      have HN2 := hid (show (ky l k, vl l k) ≠ (xk, xv) → ∀ j, j < k + 1 → (ky l j, vl l j) ≠ (xk, xv) from fun hne j hj => by
        rcases Nat.lt_succ_iff_lt_or_eq.1 hj with h | rfl
        · exact HN.out j h
        · exact hne)
      generalize ky l k = s' at *
      generalize vl l k = n at *
      clear hc
      by_cases e1 : s' = xk
      · subst e1
        by_cases e2 : n = xv
        · subst e2
          clear HN2
          go_wp2_with fail
          go_quiet (fail)
          go_wp2
          go_ret
          exact ⟨⟨k, rfl⟩, HBW.out _⟩
        · have n2 : (xv.toList == n.toList) = false := by simp; exact fun h => e2 (bytes_ext h).symm
          have HN3 := hid (HN2.out (fun e => e2 (Prod.mk.inj e).2))
          clear HN2 e2
          go_wp2_with fail
          go_quiet (fail)
          go_wp2
          exact ⟨⟨k + 1, by omega, by go_num, hid (below_drewN HB.out nq), HN3⟩, by simp [intOf]; omega⟩
      · have n2 : (xk.toList == s'.toList) = false := by simp; exact fun h => e1 (bytes_ext h).symm
        have HN3 := hid (HN2.out (fun e => e1 (Prod.mk.inj e).1))
        clear HN2 e1
        go_wp2_with fail
        go_quiet (fail)
        go_wp2
        exact ⟨⟨k + 1, by omega, by go_num, hid (below_drewN HB.out nq), HN3⟩, by simp [intOf]; omega⟩
    · obtain rfl : k = len := by omega
      exfalso
      obtain ⟨j, hj, e⟩ := List.getElem_of_mem HX.out
      rw [kv_get l j hj] at e
      exact HN.out j (by rw [HLEN.out]; exact hj) e
end Go.Proofs.YtkbjjbgmnfngjaaGreatDoor.L
