import Derived.Test.YtfbagkajbnomoaaQ1
namespace Go.Proofs.Ytfbagkajbnomoaa.L
open Go.RowKit Rg Qu
set_option linter.unusedVariables false
set_option linter.unusedSimpArgs false
theorem num_any (n : Int) (w : World) : Calls Try.prog 20 #[.int .i64 n] w fun e w' => e = .returned (.int .i64 n) ∧ w' = w := by
  go_enter Try.func20, Try.ntmps20
  go_wp2
  go_ret
  exact ⟨by first | rfl | simp, rfl⟩
theorem istime_any (n : Int) (w : World) : Calls Try.prog 32 #[.int .i64 n] w fun e w' => e = .returned (.bool (decide (0 ≤ n ∧ n ≤ 1099511627776))) ∧ w' = w := by
  by_cases h1 : 0 ≤ n
  · by_cases h2 : n ≤ 1099511627776
    · rw [show decide (0 ≤ n ∧ n ≤ 1099511627776) = true by simp [h1, h2]]
      go_enter Try.func32, Try.ntmps32
      go_wp2
      go_ret
      exact ⟨by first | rfl | simp [h1, h2], rfl⟩
    · rw [show decide (0 ≤ n ∧ n ≤ 1099511627776) = false by simp [h1, h2]]
      go_enter Try.func32, Try.ntmps32
      go_wp2
      go_ret
      exact ⟨by first | rfl | simp [h1, h2], rfl⟩
  · rw [show decide (0 ≤ n ∧ n ≤ 1099511627776) = false by simp [h1]]
    go_enter Try.func32, Try.ntmps32
    go_wp2
    go_ret
    exact ⟨by first | rfl | simp [h1], rfl⟩
theorem new_any (w : World) : Calls Try.prog 10 #[] w fun e w' => e = .returned (.pointer (some ⟨w.heap.size, 0, none⟩)) ∧ Qm w' w.heap.size w.heap.size (.slice none 0 0) [] 0 ∧ Below w.heap.size w w' := by
  have hb := belowA w (.cells #[.slice none 0 0, .int .i64 0] 61)
  have hx := heap_alloc_new w (.cells #[.slice none 0 0, .int .i64 0] 61)
  have HB := hid hb
  have HX := hid hx
  clear hb hx
  go_enter Try.func10, Try.ntmps10
  go_wp2
  go_ret
  exact ⟨by first | rfl | simp, ⟨HX.out, World.ownsRow_nil _ _ _ _, Nat.le_refl _⟩, HB.out⟩
theorem len_any {w : World} {B qb : Nat} {v : Value} {l : List Wt} {nx : Int} (h : Qm w B qb v l nx) (hl : l.length ≤ 2048) : Calls Try.prog 15 #[.pointer (some ⟨qb, 0, none⟩)] w fun e w' => e = .returned (.int .i64 (l.length : Int)) ∧ w' = w := by
  obtain ⟨a, q, c, rfl⟩ := row_form h.row
  obtain ⟨rfl, _⟩ : q = l.length ∧ True := by
    obtain ⟨_, a', ca, e, _⟩ := own_w h.row
    injection e with _ e _
    exact ⟨e, trivial⟩
  have x0 : w.cell? ⟨qb, 0, none⟩ = some (.slice a l.length c) := cell_of_row _ _ 0 _ _ _ h.box
  have HH := hid h
  clear h
  go_enter Try.func15, Try.ntmps15
  go_wp2
  go_ret
  exact ⟨by first | rfl | simp, rfl⟩
theorem len_nil (w : World) : Calls Try.prog 15 #[.pointer none] w fun e w' => e = .returned (.int .i64 0) ∧ w' = w := by
  go_enter Try.func15, Try.ntmps15
  go_wp2
  go_ret
  exact ⟨by first | rfl | simp, rfl⟩
theorem next_any {w : World} {B qb : Nat} {v : Value} {l : List Wt} {nx : Int} (h : Qm w B qb v l nx) : Calls Try.prog 16 #[.pointer (some ⟨qb, 0, none⟩)] w fun e w' => e = .returned (.int .i64 nx) ∧ w' = w := by
  have x0 : w.cell? ⟨qb, 1, none⟩ = some (.int .i64 nx) := cell_of_row _ _ 1 _ _ _ h.box
  have HH := hid h
  clear h
  go_enter Try.func16, Try.ntmps16
  go_wp2
  go_ret
  exact ⟨by first | rfl | simp, rfl⟩
theorem next_nil (w : World) : Calls Try.prog 16 #[.pointer none] w fun e w' => e = .returned (.int .i64 0) ∧ w' = w := by
  go_enter Try.func16, Try.ntmps16
  go_wp2
  go_ret
  exact ⟨by first | rfl | simp, rfl⟩
theorem wts_fin : ∀ k : Fin 63, wts ((k.val : Int) + 1) = if 64 < wrap64 ((2 : Int) ^ k.val) then 64 else wrap64 ((2 : Int) ^ k.val) := by decide +kernel
theorem wts_min {t : Int} (h0 : 1 ≤ t) (h : t - 1 ≤ 62) : wts t = if 64 < wrap64 ((2 : Int) ^ (t.toNat - 1)) then 64 else wrap64 ((2 : Int) ^ (t.toNat - 1)) := by
  have e := wts_fin ⟨t.toNat - 1, by omega⟩
  have e2 : (((t.toNat - 1 : Nat) : Int) + 1) = t := by omega
  dsimp only at e
  rw [e2] at e
  exact e
/-- The wait, as the program reckons it. -/
theorem wait_any (t : Int) (h0 : 1 ≤ t) (h1 : t ≤ 1099511627776) (w : World) : Calls Try.prog 50 #[.int .i64 t] w fun e w' => e = .returned (.int .i64 (wts t)) ∧ w' = w := by
  go_enter Try.func50, Try.ntmps50
  go_wp2
  all_goals
    rename_i hx
    go_ret
    refine ⟨?_, rfl⟩
    by_cases hb : 62 < t - 1
    · have hbig : wts t = 64 := by unfold wts; rw [if_neg (by omega), if_pos (by omega)]
      rw [hbig]
      simp only [hb, if_true] at hx
      first | rfl | (exfalso; omega) | (exfalso; exact absurd hx (by decide +kernel))
    · have e := wts_min h0 (show t - 1 ≤ 62 by omega)
      have en : (t - 1).toNat = t.toNat - 1 := by omega
      simp only [hb, if_false, en] at hx
      first
        | (exfalso; omega)
        | (rw [e, if_pos hx]; rfl)
        | (rw [e, if_neg (by omega)]; rfl)
theorem ahead_any (a b : Wt) (w : World) : Calls Try.prog 48 #[.agg (wtV a), .agg (wtV b)] w fun e w' => e = .returned (.bool (decide (ahd a b))) ∧ Below w.heap.size w w' := by
  unfold wtV
  have HB1 := hid (belowA w (.cells #[.string a.name, .int .i64 a.pr, .int .i64 a.seq, .int .i64 a.tries, .int .i64 a.til, .bool a.asl] 63))
  have HX1 := hid (heap_alloc_new w (.cells #[.string a.name, .int .i64 a.pr, .int .i64 a.seq, .int .i64 a.tries, .int .i64 a.til, .bool a.asl] 63))
  have HB2 := hid (belowA (w.alloc (.cells #[.string a.name, .int .i64 a.pr, .int .i64 a.seq, .int .i64 a.tries, .int .i64 a.til, .bool a.asl] 63)) (.cells #[.string b.name, .int .i64 b.pr, .int .i64 b.seq, .int .i64 b.tries, .int .i64 b.til, .bool b.asl] 63))
  by_cases h1 : a.pr = b.pr
  · rw [show decide (ahd a b) = decide (a.seq < b.seq) by unfold ahd; simp [h1]]
    go_enter Try.func48, Try.ntmps48
    go_wp2
    go_ret
    exact ⟨by first | rfl | simp, bch (belowA _ _) (belowA _ _)⟩
  · rw [show decide (ahd a b) = decide (b.pr < a.pr) by unfold ahd; simp [h1]]
    go_enter Try.func48, Try.ntmps48
    go_wp2
    go_ret
    exact ⟨by first | rfl | simp, bch (belowA _ _) (belowA _ _)⟩
theorem ready_any (a : Wt) (now : Int) (w : World) : Calls Try.prog 33 #[.agg (wtV a), .int .i64 now] w fun e w' => e = .returned (.bool (rdyB now a)) ∧ Below w.heap.size w w' := by
  unfold wtV rdyB
  have HB1 := hid (belowA w (.cells #[.string a.name, .int .i64 a.pr, .int .i64 a.seq, .int .i64 a.tries, .int .i64 a.til, .bool a.asl] 63))
  cases h1 : a.asl with
  | true =>
    rw [h1] at HB1
    go_enter Try.func33, Try.ntmps33
    go_wp2
    go_ret
    exact ⟨by first | rfl | simp, HB1.out⟩
  | false =>
    rw [h1] at HB1
    go_enter Try.func33, Try.ntmps33
    go_wp2
    go_ret
    exact ⟨by first | rfl | simp, HB1.out⟩
end Go.Proofs.Ytfbagkajbnomoaa.L
