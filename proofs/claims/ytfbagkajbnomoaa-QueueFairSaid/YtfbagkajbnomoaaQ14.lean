import Derived.Test.YtfbagkajbnomoaaQ13
namespace Go.Proofs.Ytfbagkajbnomoaa.L
open Go.RowKit Rg Qu
set_option linter.unusedVariables false
set_option linter.unusedSimpArgs false
theorem list_nil (w : World) : Calls Try.prog 14 #[.pointer none] w fun e w' => ∃ a c, e = .returned (.slice a 0 c) ∧ Below w.heap.size w w' := by
  obtain ⟨i4, hi, hz0, hz1, hz2⟩ := info_parts infoW
  have hmk := run_make (P := Try.prog) w 27 40 i4 _ Try.underlying27 hi hz0 .i64 .i64 (0 : Int) (0 : Int) (by omega) (Int.le_refl _) (by rw [hz2]; omega) (by omega)
  rw [hz1, show (0 : Int).toNat = 0 from rfl] at hmk
  have HB1 := hid (belowA w (.cells (madeCells (Value.agg #[.string ⟨#[]⟩, .int .i64 0, .int .i64 0, .int .i64 0, .int .i64 0, .bool false]).cells (0 * 6)) 40))
  generalize w.alloc (.cells (madeCells (Value.agg #[.string ⟨#[]⟩, .int .i64 0, .int .i64 0, .int .i64 0, .int .i64 0, .bool false]).cells (0 * 6)) 40) = W1 at *
  clear hi hz0 hz1 hz2
  go_enter Try.func14, Try.ntmps14
  go_wp2_with fail
  refine (len_nil w).mono ?_
  rintro e w2 ⟨rfl, rfl⟩
  go_wp2_with fail
  clear hmk
  go_loopw [4, 10] (fun _ s8 wr => s8 = .int .i64 0 ∧ Hid (Below w2.heap.size w2 wr)) (fun _ i _ => 0)
  case atStart => exact ⟨rfl, HB1⟩
  case round =>
    obtain ⟨rfl, HS⟩ := hrel
    go_wp2_with fail
    go_ret
    exact ⟨_, _, by first | rfl | simp, HS.out⟩
def rdyN (l : List Wt) (now : Int) : ByteArray := match rdy l now with | some x => x.name | none => ⟨#[]⟩
def rdyK (l : List Wt) (now : Int) : Bool := (rdy l now).isSome
theorem ready_nil (w : World) (now : Int) : Calls Try.prog 18 #[.pointer none, .int .i64 now] w fun e w' => e = .returned (.tuple #[.string ⟨#[]⟩, .bool false]) ∧ w' = w := by
  go_enter Try.func18, Try.ntmps18
  go_wp2
  go_ret2
  exact ⟨by first | rfl | simp, rfl⟩
set_option maxHeartbeats 4000000 in
set_option maxRecDepth 100000 in
theorem readyq_any {w : World} {B qb : Nat} {v : Value} {l : List Wt} {nx : Int} (h : Qm w B qb v l nx) (hl : l.length ≤ 2048) (now : Int) :
    Calls Try.prog 18 #[.pointer (some ⟨qb, 0, none⟩), .int .i64 now] w fun e w' => e = .returned (.tuple #[.string (rdyN l now), .bool (rdyK l now)]) ∧ Below w.heap.size w w' := by
  have HT := hid (istime_any now)
  by_cases h2 : 0 ≤ now ∧ now ≤ 1099511627776
  · rw [show decide (0 ≤ now ∧ now ≤ 1099511627776) = true by simpa using h2] at HT
    have H2 := hid h2
    obtain ⟨_, a, c, rfl, hr⟩ := own_w h.row
    have HQ := hid h
    have HR := hid hr
    obtain ⟨n, hn⟩ : ∃ n, n = l.length := ⟨_, rfl⟩
    have HN := hid hn
    rw [← hn] at HQ hl
    have hmax : n ≤ 9223372036854775807 := by omega
    have y0 : w.cell? ⟨qb, 0, none⟩ = some (.slice a n c) := cell_of_row w _ 0 _ _ _ HQ.out.box
    clear h hr hn h2
    go_enter Try.func18, Try.ntmps18
    go_wp2_with fail
    refine (HT.out _).mono ?_
    rintro e w3 ⟨rfl, rfl⟩
    go_wp2_with fail
    clear y0
    go_loopw [7, 20] (fun _ s8 wr => ∃ k : Nat, k ≤ n ∧ s8 = .int .i64 (k : Int) ∧ Hid (Below w3.heap.size w3 wr) ∧ Hid (∀ (j : Nat) (h : j < l.length), j < k → rdyB now l[j] = false)) (fun _ i _ => n - (intOf i).toNat)
    case atStart => exact ⟨0, Nat.zero_le _, rfl, hid (Below.refl _ _), hid (fun j h hj => absurd hj (Nat.not_lt_zero j))⟩
    case round =>
      obtain ⟨k, hk, rfl, HB, HA⟩ := hrel
      by_cases hlt : k < n
      · have g1 : (k : Int) < (n : Int) := by omega
        have g2 : (0 : Int) ≤ (k : Int) := by omega
        have hlt' : k < l.length := by rw [← HN.out]; exact hlt
        obtain ⟨b, off, hae, hbb, c0, c1, c2, c3, c4, c5⟩ := cell_w (HR.out.low HB.out) hlt'
        subst hae
        obtain ⟨y, hy⟩ : ∃ y, y = l[k]'hlt' := ⟨_, rfl⟩
        rw [← hy] at c0 c1 c2 c3 c4 c5
        have HC := hid (ready_any y now)
        unfold wtV at HC
        have HBX := hid (belowA wr (.cells #[.string y.name, .int .i64 y.pr, .int .i64 y.seq, .int .i64 y.tries, .int .i64 y.til, .bool y.asl] 63))
        have HXX := hid (heap_alloc_new wr (.cells #[.string y.name, .int .i64 y.pr, .int .i64 y.seq, .int .i64 y.tries, .int .i64 y.til, .bool y.asl] 63))
        cases hq : rdyB now y with
        | true =>
          have HF := hid (show rdyN l now = y.name ∧ rdyK l now = true from by
            have e := rdy_at H2.out.1 H2.out.2 hlt' (by rw [← hy]; exact hq) (fun j hj => HA.out j (by omega) hj)
            unfold rdyN rdyK
            rw [e, hy]
            exact ⟨rfl, rfl⟩)
          rw [hq] at HC
          clear hbb hy hq
          go_upto_region 6 with fail
          generalize wr.alloc (.cells #[.string y.name, .int .i64 y.pr, .int .i64 y.seq, .int .i64 y.tries, .int .i64 y.til, .bool y.asl] 63) = V at *
          obtain ⟨pb, hpb⟩ : ∃ b, b = wr.heap.size := ⟨_, rfl⟩
          rw [← hpb] at HXX ⊢
          clear hpb c0 c1 c2 c3 c4 c5
          have c0 : V.cell? ⟨pb, 0, none⟩ = some (.string y.name) := cell_of_row V _ 0 _ _ _ HXX.out
          have c1 : V.cell? ⟨pb, 1, none⟩ = some (.int .i64 y.pr) := cell_of_row V _ 1 _ _ _ HXX.out
          have c2 : V.cell? ⟨pb, 2, none⟩ = some (.int .i64 y.seq) := cell_of_row V _ 2 _ _ _ HXX.out
          have c3 : V.cell? ⟨pb, 3, none⟩ = some (.int .i64 y.tries) := cell_of_row V _ 3 _ _ _ HXX.out
          have c4 : V.cell? ⟨pb, 4, none⟩ = some (.int .i64 y.til) := cell_of_row V _ 4 _ _ _ HXX.out
          have c5 : V.cell? ⟨pb, 5, none⟩ = some (.bool y.asl) := cell_of_row V _ 5 _ _ _ HXX.out
          go_wp2_with fail
          refine (HC.out V).mono ?_
          rintro e w4 ⟨rfl, hb4⟩
          have d0 : w4.cell? ⟨pb, 0, none⟩ = some (.string y.name) := (hb4.cell (p := ⟨pb, 0, none⟩) (lt_blk HXX.out)).trans c0
          have HB4 := hid (bch HB.out (bch HBX.out hb4))
          clear hb4 HC c0 c1 c2 c3 c4 c5
          go_wp2_with fail
          go_ret2
          exact ⟨by rw [HF.out.1, HF.out.2]; rfl, HB4.out⟩
        | false =>
          have HQF := hid (show ∀ (j : Nat) (h : j < l.length), j < k + 1 → rdyB now l[j] = false from fun j h hj => by
            by_cases e : j = k
            · subst e; rw [← hy]; exact hq
            · exact HA.out j h (by omega))
          rw [hq] at HC
          clear hbb hy hq
          go_upto_region 6 with fail
          generalize wr.alloc (.cells #[.string y.name, .int .i64 y.pr, .int .i64 y.seq, .int .i64 y.tries, .int .i64 y.til, .bool y.asl] 63) = V at *
          obtain ⟨pb, hpb⟩ : ∃ b, b = wr.heap.size := ⟨_, rfl⟩
          rw [← hpb] at HXX ⊢
          clear hpb c0 c1 c2 c3 c4 c5
          have c0 : V.cell? ⟨pb, 0, none⟩ = some (.string y.name) := cell_of_row V _ 0 _ _ _ HXX.out
          have c1 : V.cell? ⟨pb, 1, none⟩ = some (.int .i64 y.pr) := cell_of_row V _ 1 _ _ _ HXX.out
          have c2 : V.cell? ⟨pb, 2, none⟩ = some (.int .i64 y.seq) := cell_of_row V _ 2 _ _ _ HXX.out
          have c3 : V.cell? ⟨pb, 3, none⟩ = some (.int .i64 y.tries) := cell_of_row V _ 3 _ _ _ HXX.out
          have c4 : V.cell? ⟨pb, 4, none⟩ = some (.int .i64 y.til) := cell_of_row V _ 4 _ _ _ HXX.out
          have c5 : V.cell? ⟨pb, 5, none⟩ = some (.bool y.asl) := cell_of_row V _ 5 _ _ _ HXX.out
          go_wp2_with fail
          refine (HC.out V).mono ?_
          rintro e w4 ⟨rfl, hb4⟩
          have HB4 := hid (bch HB.out (bch HBX.out hb4))
          clear hb4 HC c0 c1 c2 c3 c4 c5
          go_wp2_with fail
          exact ⟨⟨k + 1, by omega, by go_num, hid HB4.out, hid HQF.out⟩, by simp [intOf]; omega⟩
      · have g1 : ¬ (k : Int) < (n : Int) := by omega
        have HF := hid (show rdyN l now = ⟨#[]⟩ ∧ rdyK l now = false from by
          have e := rdy_none (l := l) (now := now) (fun j h => HA.out j h (by have := HN.out; omega))
          unfold rdyN rdyK
          rw [e]
          exact ⟨rfl, rfl⟩)
        go_wp2_with fail
        go_ret2
        exact ⟨by rw [HF.out.1, HF.out.2]; rfl, HB.out⟩
  · rw [show decide (0 ≤ now ∧ now ≤ 1099511627776) = false by simpa using h2] at HT
    have HF := hid (show rdyN l now = ⟨#[]⟩ ∧ rdyK l now = false from by
      have e := rdy_out (l := l) (now := now) (by omega)
      unfold rdyN rdyK
      rw [e]
      exact ⟨rfl, rfl⟩)
    clear h h2
    go_enter Try.func18, Try.ntmps18
    go_wp2_with fail
    refine (HT.out _).mono ?_
    rintro e w3 ⟨rfl, rfl⟩
    go_wp2_with fail
    go_ret2
    exact ⟨by rw [HF.out.1, HF.out.2]; rfl, Below.refl _ _⟩
end Go.Proofs.Ytfbagkajbnomoaa.L
