import Derived.Test.YtfbagkajbnomoaaQ24
namespace Go.Proofs.Ytfbagkajbnomoaa.L
open Go.RowKit Rg Qu
set_option linter.unusedVariables false
set_option linter.unusedSimpArgs false
theorem infoQ2 : (Try.prog.info? 29).map (·.size) = some 2 := by kernel_rfl
theorem res_q {fn : Func} {p u : Tmp} (h : fn.results = #[.cell p 29, .tmp u]) (tmps : Array Value) (w : World) (g : Nat) (cs : Array Value) (hp : tmps.getD p undef = .pointer (some ⟨g, 0, none⟩)) (hg : w.heap[g]? = some (.cells cs 29 (0, 0))) (hs : cs.size = 2) : (results fn tmps).run Try.prog w = .ok (.tuple #[.agg cs, tmps.getD u undef]) w := by
  rw [results_cell_tmp h, hp]
  simp only [asAddr, Sem.run_pure, Result.andThen_ok, run_loadVar_row (P := Try.prog) w g 29 29 cs (0, 0) _ hg Try.underlying29 rfl (by rw [hs]; exact infoQ2)]
/-- A new row that grows changes nothing below it. -/
theorem below_row {w0 W W' : World} {B : Nat} {e : TypeId} {s n : Nat} {v : Value} {xs : List Value} (hb : Below w0.heap.size w0 W) (hB : w0.heap.size ≤ B) (h : W.ownsRow B e s v n xs) (k : W.grownBy W' v.ownBlock) : Below w0.heap.size w0 W' :=
  ⟨k.os.trans hb.os, k.tape.trans hb.tape, k.output.trans hb.output, Nat.le_trans hb.size k.size, fun j hj => (k.block j (Nat.lt_of_lt_of_le hj hb.size) (fun e => by have := (row_at h e.symm).1; omega)).trans (hb.block j hj)⟩
set_option maxHeartbeats 4000000 in
set_option maxRecDepth 100000 in
theorem dready_any (l : List Wt) (a : Option Addr) (c : Nat) (nx now : Int) (w : World) (h : RdG wtV 6 w a l) (hl : l.length ≤ 140737488355328) :
    Calls Try.prog 30 #[.agg #[.slice a l.length c, .int .i64 nx], .int .i64 now] w fun e w' => e = .returned (.tuple #[.string (rdyN l now), .bool (rdyK l now)]) ∧ Below w.heap.size w w' := by
  obtain ⟨n, hn⟩ : ∃ n, n = l.length := ⟨_, rfl⟩
  have HN := hid hn
  rw [← hn] at hl ⊢
  have hmax : n ≤ 9223372036854775807 := by omega
  have HB1 := hid (belowA w (.cells #[.slice a n c, .int .i64 nx] 29))
  have HX1 := hid (heap_alloc_new w (.cells #[.slice a n c, .int .i64 nx] 29))
  have HR := hid (h.low HB1.out)
  clear h hn
  by_cases hnow : 0 ≤ now ∧ now ≤ 1099511627776
  · have n1 : ¬ now < 0 := by omega
    have n2 : ¬ 1099511627776 < now := by omega
    have H2 := hid hnow
    clear hnow
    go_enter Try.func30, Try.ntmps30
    go_upto_region 1 with fail
    generalize w.alloc (.cells #[.slice a n c, .int .i64 nx] 29) = W1 at *
    obtain ⟨pb, hpb⟩ : ∃ b, b = w.heap.size := ⟨_, rfl⟩
    rw [← hpb] at HX1 ⊢
    clear hpb
    have x0 : W1.cell? ⟨pb, 0, none⟩ = some (.slice a n c) := cell_of_row W1 _ 0 _ _ _ HX1.out
    go_wp2_with fail
    go_loopw [6] (fun s8 wr => ∃ k : Nat, k ≤ n ∧ s8 = .int .i64 (k : Int) ∧ Hid (wr = W1) ∧ Hid (∀ (j : Nat) (h : j < l.length), j < k → rdyB now l[j] = false)) (fun i _ => n - (intOf i).toNat)
    case atStart => exact ⟨0, Nat.zero_le _, rfl, hid (by first | rfl | trivial), hid (fun j h hj => absurd hj (Nat.not_lt_zero j))⟩
    case round =>
      obtain ⟨k, hk, rfl, HW, HA⟩ := hrel
      have hW := HW.out.symm
      subst hW
      clear HW
      by_cases hlt : k < n
      · have g1 : (k : Int) < (n : Int) := by omega
        have g2 : (0 : Int) ≤ (k : Int) := by omega
        have hlt' : k < l.length := by rw [← HN.out]; exact hlt
        obtain ⟨b, off, hae, hbb, c0, c1, c2, c3, c4, c5⟩ := cell_w HR.out hlt'
        subst hae
        obtain ⟨y, hy⟩ : ∃ y, y = l[k]'hlt' := ⟨_, rfl⟩
        rw [← hy] at c0 c1 c2 c3 c4 c5
        have HY := hid hy
        have HNO := hid (show rdyB now y = false → ∀ (j : Nat) (h : j < l.length), j < k + 1 → rdyB now l[j] = false from fun hq j h hj => by
          by_cases e : j = k
          · subst e; rw [← HY.out]; exact hq
          · exact HA.out j h (by omega))
        clear hbb hy
        cases ha : y.asl with
        | true =>
          have HN2 := hid (HNO.out (by unfold rdyB; rw [ha]; rfl))
          rw [ha] at c5
          go_wp2_with fail
          exact ⟨⟨k + 1, by omega, by go_num, hid (by first | rfl | trivial), HN2⟩, by simp [intOf]; omega⟩
        | false =>
          rw [ha] at c5
          by_cases ht : y.til ≤ now
          · have HF := hid (show rdyN l now = y.name ∧ rdyK l now = true from by
              have e := rdy_at H2.out.1 H2.out.2 hlt' (by rw [← HY.out]; unfold rdyB; rw [ha]; simpa using ht) (fun j hj => HA.out j (by omega) hj)
              unfold rdyN rdyK
              rw [e, HY.out]
              exact ⟨rfl, rfl⟩)
            go_wp2_with fail
            go_ret2
            exact ⟨by rw [HF.out.1, HF.out.2]; rfl, HB1.out⟩
          · have HN2 := hid (HNO.out (by unfold rdyB; rw [ha]; simpa using ht))
            have ht2 : now < y.til := by omega
            go_wp2_with fail
            exact ⟨⟨k + 1, by omega, by go_num, hid (by first | rfl | trivial), HN2⟩, by simp [intOf]; omega⟩
      · have g1 : ¬ (k : Int) < (n : Int) := by omega
        have HF := hid (show rdyN l now = ⟨#[]⟩ ∧ rdyK l now = false from by
          have e := rdy_none (l := l) (now := now) (fun j h => HA.out j h (by have := HN.out; omega))
          unfold rdyN rdyK
          rw [e]
          exact ⟨rfl, rfl⟩)
        go_wp2_with fail
        go_ret2
        exact ⟨by rw [HF.out.1, HF.out.2]; rfl, HB1.out⟩
  · have HF := hid (show rdyN l now = ⟨#[]⟩ ∧ rdyK l now = false from by
      have e := rdy_out (l := l) (now := now) (by omega)
      unfold rdyN rdyK
      rw [e]
      exact ⟨rfl, rfl⟩)
    have hcn : now < 0 ∨ 1099511627776 < now := by omega
    clear hnow
    rcases hcn with hcn | hcn
    all_goals
      go_enter Try.func30, Try.ntmps30
      go_wp2_with fail
      go_ret2
      exact ⟨by rw [HF.out.1, HF.out.2]; rfl, HB1.out⟩
end Go.Proofs.Ytfbagkajbnomoaa.L
