import Derived.Test.YtlhlpamciafocaaGreatDoorSwHE
import Derived.Laws.Tables
import Derived.Deep.WholeRow
import Derived.Laws.Rows
import Derived.Laws.StructEq
namespace Go.Proofs.YtlhlpamciafocaaGreatDoor.L.Sw
open Go.RowKit Go.Shelf
set_option linter.unusedVariables false
set_option linter.unusedSimpArgs false
set_option maxHeartbeats 4000000 in
set_option maxRecDepth 100000 in
theorem read_yes (N c : Nat) (a : Int) (w : World) (h : Flt w N c a) (h0 : c ≠ 0) : Calls Tryz.prog 16 #[fv N] w fun e w' => e = .returned (.agg #[.int .i64 (c : Int), .int .i64 a, .string ⟨#[]⟩, .int .i64 0, .int .i64 0, .int .i64 0, .string ⟨#[]⟩, .int .i64 0, .int .i64 0, .int .i64 0, .string ⟨#[]⟩, .int .i64 0, .int .i64 0, .int .i64 0, .string ⟨#[]⟩, .int .i64 0, .int .i64 0, .int .i64 0, .string ⟨#[]⟩]) ∧ Below w.heap.size w w' := by
  unfold fv
  have ra := run_assert
  obtain ⟨cs, hcs⟩ : ∃ cs : Array Value, cs = #[.int .i64 (c : Int), .int .i64 a, .string ⟨#[]⟩, .int .i64 0, .int .i64 0, .int .i64 0, .string ⟨#[]⟩, .int .i64 0, .int .i64 0, .int .i64 0, .string ⟨#[]⟩, .int .i64 0, .int .i64 0, .int .i64 0, .string ⟨#[]⟩, .int .i64 0, .int .i64 0, .int .i64 0, .string ⟨#[]⟩] := ⟨_, rfl⟩
  have HCS := hid hcs
  have hz9 : cs.size = 19 := by rw [hcs]; rfl
  clear hcs
  obtain ⟨c0, c1, c2, c3⟩ := cells4 h
  have h0' : ((c : Int) == 0) = false := by simpa using h0
  have hl := lt_blk h
  have hne : N ≠ w.heap.size := by omega
  go_enter Tryz.func16, Tryz.ntmps16
  go_upto_region 6 with (fail)
  have hb := belowA w (.cells #[.int .i64 0, .int .i64 0, .string ⟨#[]⟩, .int .i64 0, .int .i64 0, .int .i64 0, .string ⟨#[]⟩, .int .i64 0, .int .i64 0, .int .i64 0, .string ⟨#[]⟩, .int .i64 0, .int .i64 0, .int .i64 0, .string ⟨#[]⟩, .int .i64 0, .int .i64 0, .int .i64 0, .string ⟨#[]⟩] 45)
  have hx := heap_alloc_new w (.cells #[.int .i64 0, .int .i64 0, .string ⟨#[]⟩, .int .i64 0, .int .i64 0, .int .i64 0, .string ⟨#[]⟩, .int .i64 0, .int .i64 0, .int .i64 0, .string ⟨#[]⟩, .int .i64 0, .int .i64 0, .int .i64 0, .string ⟨#[]⟩, .int .i64 0, .int .i64 0, .int .i64 0, .string ⟨#[]⟩] 45)
  have HZ := hid (show (w.alloc (.cells #[.int .i64 0, .int .i64 0, .string ⟨#[]⟩, .int .i64 0, .int .i64 0, .int .i64 0, .string ⟨#[]⟩, .int .i64 0, .int .i64 0, .int .i64 0, .string ⟨#[]⟩, .int .i64 0, .int .i64 0, .int .i64 0, .string ⟨#[]⟩, .int .i64 0, .int .i64 0, .int .i64 0, .string ⟨#[]⟩] 45)).heap.size = w.heap.size + 1 by simp)
  replace c0 := (hb.cell (p := ⟨N, 0, none⟩) hl).trans c0
  replace c1 := (hb.cell (p := ⟨N, 1, none⟩) hl).trans c1
  replace c2 := (hb.cell (p := ⟨N, 2, none⟩) hl).trans c2
  replace c3 := (hb.cell (p := ⟨N, 3, none⟩) hl).trans c3
  have HB := hid hb
  have HX := hid hx
  clear hb hx h
  generalize w.alloc (.cells #[.int .i64 0, .int .i64 0, .string ⟨#[]⟩, .int .i64 0, .int .i64 0, .int .i64 0, .string ⟨#[]⟩, .int .i64 0, .int .i64 0, .int .i64 0, .string ⟨#[]⟩, .int .i64 0, .int .i64 0, .int .i64 0, .string ⟨#[]⟩, .int .i64 0, .int .i64 0, .int .i64 0, .string ⟨#[]⟩] 45) = W1 at *
  generalize hbz : w.heap.size = bz at *
  have hN1 : N < W1.heap.size := by have := HZ.out; omega
  refine wp_region_held_drew (S := (fun Y => Y.cell? ⟨N, 0, none⟩ = some (.int .i64 (c : Int)) ∧ Y.cell? ⟨N, 1, none⟩ = some (.int .i64 a) ∧ Y.cell? ⟨N, 2, none⟩ = some (.string ⟨#[]⟩))) (by kernel_rfl) ?_ (fun hHeld => ?_)
  · exact ⟨c0, c1, c2⟩
  refine wpAnyH_take (i := 0) (oi := _) (v := ?_) rfl (by kernel_rfl) (by kernel_rfl) (by kernel_rfl) (fun _ _ _ h => h) (Or.inl ⟨by rfl, ?_⟩) (by assumption) ?_
  rotate_left
  · intro w hSw
    try dsimp only at hSw
    go_simp
    try with_reducible rfl
  try simp only [Act.put, List.setIfInBounds_toArray, List.set_cons_zero, List.set_cons_succ]
  refine wpAnyH_take (i := 1) (oi := _) (v := ?_) rfl (by kernel_rfl) (by kernel_rfl) (by kernel_rfl) (fun _ _ _ h => h) (Or.inl ⟨by rfl, ?_⟩) (by assumption) ?_
  rotate_left
  · intro w hSw
    try dsimp only at hSw
    go_simp
    try with_reducible rfl
  try simp only [Act.put, List.setIfInBounds_toArray, List.set_cons_zero, List.set_cons_succ]
  refine wpAnyH_take (i := 2) (oi := _) (v := ?_) rfl (by kernel_rfl) (by kernel_rfl) (by kernel_rfl) (fun _ _ _ h => h) (Or.inl ⟨by rfl, ?_⟩) (by assumption) ?_
  rotate_left
  · intro w hSw
    try dsimp only at hSw
    go_simp
    try with_reducible rfl
  try simp only [Act.put, List.setIfInBounds_toArray, List.set_cons_zero, List.set_cons_succ]
  refine wpAnyH_take (i := 3) (oi := _) (v := ?_) rfl (by kernel_rfl) (by kernel_rfl) (by kernel_rfl) (fun _ _ _ h => h) (Or.inl ⟨by rfl, ?_⟩) (by assumption) ?_
  rotate_left
  · intro w hSw
    try dsimp only at hSw
    go_simp
    try with_reducible rfl
  try simp only [Act.put, List.setIfInBounds_toArray, List.set_cons_zero, List.set_cons_succ]
  refine wpAnyH_take (i := 4) (oi := _) (v := ?_) rfl (by kernel_rfl) (by kernel_rfl) (by kernel_rfl) (fun _ _ _ h => h) (Or.inl ⟨by rfl, ?_⟩) (by assumption) ?_
  rotate_left
  · intro w hSw
    try dsimp only at hSw
    go_simp
    try with_reducible rfl
  try simp only [Act.put, List.setIfInBounds_toArray, List.set_cons_zero, List.set_cons_succ]
  refine wpAnyH_take (i := 5) (oi := _) (v := ?_) rfl (by kernel_rfl) (by kernel_rfl) (by kernel_rfl) (fun _ _ _ h => h) (Or.inl ⟨by rfl, ?_⟩) (by assumption) ?_
  rotate_left
  · intro w hSw
    try dsimp only at hSw
    go_simp
    try with_reducible rfl
  try simp only [Act.put, List.setIfInBounds_toArray, List.set_cons_zero, List.set_cons_succ]
  refine wpAnyH_take (i := 6) (oi := _) (v := ?_) rfl (by kernel_rfl) (by kernel_rfl) (by kernel_rfl) (fun _ _ _ h => h) (Or.inl ⟨by rfl, ?_⟩) (by assumption) ?_
  rotate_left
  · intro w hSw
    try dsimp only at hSw
    go_simp
    try with_reducible rfl
  try simp only [Act.put, List.setIfInBounds_toArray, List.set_cons_zero, List.set_cons_succ]
  refine wpAnyH_take (i := 7) (oi := _) (v := ?_) rfl (by kernel_rfl) (by kernel_rfl) (by kernel_rfl) (fun _ _ _ h => h) (Or.inl ⟨by rfl, ?_⟩) (by assumption) ?_
  rotate_left
  · intro w hSw
    try dsimp only at hSw
    go_simp
    try with_reducible rfl
  try simp only [Act.put, List.setIfInBounds_toArray, List.set_cons_zero, List.set_cons_succ]
  refine wpAnyH_take (i := 8) (oi := _) (v := ?_) rfl (by kernel_rfl) (by kernel_rfl) (by kernel_rfl) (fun _ _ _ h => h) (Or.inl ⟨by rfl, ?_⟩) (by assumption) ?_
  rotate_left
  · intro w hSw
    try dsimp only at hSw
    go_simp
    try with_reducible rfl
  try simp only [Act.put, List.setIfInBounds_toArray, List.set_cons_zero, List.set_cons_succ]
  refine wpAnyH_take (i := 9) (oi := _) (v := ?_) rfl (by kernel_rfl) (by kernel_rfl) (by kernel_rfl) (fun _ _ _ h => h) (Or.inl ⟨by rfl, ?_⟩) (by assumption) ?_
  rotate_left
  · intro w hSw
    try dsimp only at hSw
    go_simp
    try with_reducible rfl
  try simp only [Act.put, List.setIfInBounds_toArray, List.set_cons_zero, List.set_cons_succ]
  refine wpAnyH_take (i := 10) (oi := _) (v := ?_) rfl (by kernel_rfl) (by kernel_rfl) (by kernel_rfl) (fun _ _ _ h => h) (Or.inl ⟨by rfl, ?_⟩) (by assumption) ?_
  rotate_left
  · intro w hSw
    try dsimp only at hSw
    go_simp
    try with_reducible rfl
  try simp only [Act.put, List.setIfInBounds_toArray, List.set_cons_zero, List.set_cons_succ]
  refine wpAnyH_take (i := 11) (oi := _) (v := ?_) rfl (by kernel_rfl) (by kernel_rfl) (by kernel_rfl) (fun _ _ _ h => h) (Or.inl ⟨by rfl, ?_⟩) (by assumption) ?_
  rotate_left
  · intro w hSw
    try dsimp only at hSw
    go_simp
    try with_reducible rfl
  try simp only [Act.put, List.setIfInBounds_toArray, List.set_cons_zero, List.set_cons_succ]
  refine wpAnyH_take (i := 12) (oi := _) (v := .agg cs) rfl (by kernel_rfl) (by kernel_rfl) (by kernel_rfl) (fun _ _ _ h => h) (Or.inl ⟨by rfl, ?_⟩) (by assumption) ?_
  · intro w hSw
    clear hSw
    go_simp
    exact HCS.out.symm
  try simp only [Act.put, List.setIfInBounds_toArray, List.set_cons_zero, List.set_cons_succ]
  refine wpAnyH_ready (rs := [13]) (by kernel_rfl) (by simp) ?_
  refine AllReadyH.cons (o := _) rfl (fun K hK => ?_) AllReadyH.nil
  go_simp
  refine hK.out _ _ ?_ (fun hHeld => ?_)
  · exact ⟨(World.cell?_alloc_some W1 _ _ (by rw [c0]; rfl)).trans c0, (World.cell?_alloc_some W1 _ _ (by rw [c1]; rfl)).trans c1, (World.cell?_alloc_some W1 _ _ (by rw [c2]; rfl)).trans c2⟩
  clear hK K
  try simp only [Act.put, List.setIfInBounds_toArray, List.set_cons_zero, List.set_cons_succ]
  refine wpAnyH_ready (rs := [14]) (by kernel_rfl) (by simp) ?_
  refine AllReadyH.cons (o := _) rfl (fun K hK => ?_) AllReadyH.nil
  rw [if_pos (by rfl)]
  refine wp_store_row 45 _ _ rfl W1.heap.size cs rfl rfl 45 _ (heap_alloc_new W1 _) (by rw [hz9]; exact info53) (by rw [hz9]; rfl) (by rw [HCS.out]; kernel_rfl) ?_
  refine hK.out _ _ ?_ (fun hHeld => ?_)
  · exact ⟨((cell_setRow_other _ _ _ _ (Nat.ne_of_lt hN1)).trans (World.cell?_alloc_some W1 _ _ (by rw [c0]; rfl))).trans c0, ((cell_setRow_other _ _ _ _ (Nat.ne_of_lt hN1)).trans (World.cell?_alloc_some W1 _ _ (by rw [c1]; rfl))).trans c1, ((cell_setRow_other _ _ _ _ (Nat.ne_of_lt hN1)).trans (World.cell?_alloc_some W1 _ _ (by rw [c2]; rfl))).trans c2⟩
  clear hK K hHeld
  try simp only [Act.put, List.setIfInBounds_toArray, List.set_cons_zero, List.set_cons_succ]
  refine wpAnyH_done (by kernel_rfl) ?_ _
  generalize hZC : (#[.int .i64 0, .int .i64 0, .string ⟨#[]⟩, .int .i64 0, .int .i64 0, .int .i64 0, .string ⟨#[]⟩, .int .i64 0, .int .i64 0, .int .i64 0, .string ⟨#[]⟩, .int .i64 0, .int .i64 0, .int .i64 0, .string ⟨#[]⟩, .int .i64 0, .int .i64 0, .int .i64 0, .string ⟨#[]⟩] : Array Value) = ZC at *
  have hza : (W1.alloc (.cells ZC 45)).drew.heap.size = W1.heap.size + 1 := by simp
  have hb2 : Below W1.heap.size W1 ((W1.alloc (.cells ZC 45)).drew.setRow W1.heap.size cs) := ⟨rfl, rfl, rfl, by rw [setRow_size, hza]; omega, fun k hk => (setRow_other _ _ _ _ (Nat.ne_of_lt hk)).trans ((belowA W1 _).block _ hk)⟩
  have hx2 : ((W1.alloc (.cells ZC 45)).drew.setRow W1.heap.size cs).heap[W1.heap.size]? = some (.cells cs 45 (0, 0)) := setRow_heap _ _ ZC _ _ _ (heap_alloc_new W1 _)
  have hz19 : ZC.size = 19 := by rw [← hZC]; rfl
  have HZC := hid hZC
  clear hZC hza
  replace c3 := (hb2.cell (p := ⟨N, 3, none⟩) hN1).trans c3
  have HB2 := hid hb2
  have HX2 := hid hx2
  clear hb2 hx2 c0 c1 c2
  generalize (W1.alloc (.cells ZC 45)).drew.setRow W1.heap.size cs = W2 at *
  have HX1 := hid (show W2.heap[bz]? = some (.cells ZC 45 (0, 0)) from (HB2.out.block _ (lt_blk HX.out)).trans HX.out)
  have HZ9 := hid hz9
  have HZ19 := hid hz19
  clear hz9 hz19
  generalize W1.heap.size = b1 at *
  go_wp2_with fail
  refine wp_loop_rounds 1 ?_
  rw [rounds_succ]
  go_upto_region 26 with (fail)
  refine wp_region_lit ?_
  refine wpList_load_row rfl 45 _ rfl b1 rfl 45 cs (0, 0) _ HX2.out Tryz.underlying45 rfl (by rw [HZ9.out]; exact info53) ?_
  try simp only [Act.put, List.setIfInBounds_toArray, List.set_cons_zero, List.set_cons_succ]
  refine wpList_store_row rfl 45 _ _ rfl bz cs rfl rfl 45 ZC HX1.out (by rw [HZ9.out]; exact info53) (by rw [HZ9.out, HZ19.out]) (by rw [HCS.out]; kernel_rfl) ?_
  try simp only [Act.put, List.setIfInBounds_toArray, List.set_cons_zero, List.set_cons_succ]
  have hb3 : Below bz w (W2.setRow bz cs) := by
    have h1 := HB.out
    have h2 := HB2.out
    have h3 := HZ.out
    exact ⟨h2.os.trans h1.os, h2.tape.trans h1.tape, h2.output.trans h1.output, by rw [setRow_size]; exact Nat.le_trans h1.size h2.size, fun k hk => ((setRow_other _ _ _ _ (Nat.ne_of_lt hk)).trans (h2.block k (by omega))).trans (h1.block k hk)⟩
  have hx3 := setRow_heap W2 bz ZC cs _ _ HX1.out
  have HX3 := hid hx3
  clear hx3
  have HB3 := hid hb3
  clear hb3 c3
  generalize W2.setRow bz cs = W3 at *
  go_wp2_with fail
  refine ⟨rfl, .agg cs, results_cell_row Tryz.results16 _ W3 bz 45 cs (0, 0) _ rfl HX3.out Tryz.underlying45 rfl (by rw [HZ9.out]; exact info53), ?_, ?_⟩
  · rw [HCS.out]
  · rw [hbz]
    exact HB3.out
end Go.Proofs.YtlhlpamciafocaaGreatDoor.L.Sw
namespace Go.Proofs.YtlhlpamciafocaaGreatDoor.L.Sw
open Go.RowKit Go.Shelf
set_option linter.unusedVariables false
set_option linter.unusedSimpArgs false
set_option maxHeartbeats 4000000 in
set_option maxRecDepth 100000 in
theorem refusal_yes (N c : Nat) (a : Int) (w : World) (h : Flt w N c a) (h0 : c ≠ 0) : Calls Tryz.prog 11 #[fv N, .int .i64 (c : Int), .int .i64 a] w fun e w' => e = .returned (.bool true) ∧ Below w.heap.size w w' := by
  have HR := hid (read_yes N c a w h h0)
  have h0' : ((c : Int) == 0) = false := by simpa using h0
  clear h
  go_enter Tryz.func11, Tryz.ntmps11
  have g53 := guard53
  have q53 := run_eq53 (c : Int) a
  go_wp2_with (go_at_call 16; refine HR.out.mono ?_; rintro e w1 ⟨rfl, l1⟩; have L1 := hid l1; clear l1)
  exact bodyPost_ret (v := .bool true) (by simp [results, Tryz.results11]) rfl ⟨rfl, L1.out⟩
end Go.Proofs.YtlhlpamciafocaaGreatDoor.L.Sw
namespace Go.Proofs.YtlhlpamciafocaaGreatDoor.L.Sw
open Go.RowKit Go.Shelf
set_option linter.unusedVariables false
/-- The parts and the kids of the first k parts. -/
def sumK (T : List Pt) : Nat → Nat
  | 0 => T.length
  | k + 1 => sumK T k + (pt T k).kids.length
theorem sumK_mono (T : List Pt) : ∀ {i j : Nat}, i ≤ j → sumK T i ≤ sumK T j := by
  intro i j h
  induction h with
  | refl => exact Nat.le_refl _
  | step _ ih => exact Nat.le_trans ih (Nat.le_add_right _ _)
theorem sumK_kid (T : List Pt) {j k : Nat} (h : j < k) : (pt T j).kids.length ≤ sumK T k :=
  Nat.le_trans (Nat.le_add_left _ _) (sumK_mono T (i := j + 1) h)
set_option maxHeartbeats 4000000 in
set_option maxRecDepth 100000 in
theorem large_any (a : Option Addr) (T : List Pt) (cap : Nat) (w : World) (hT : PL w a T) (hG : GdT T) :
    Calls Tryz.prog 19 #[.agg #[.slice a T.length cap]] w fun e w' => (e = .returned (.bool false) ∧ sumK T T.length ≤ 100000 ∧ Below w.heap.size w w') ∨ (e = .returned (.bool true) ∧ Below w.heap.size w w') := by
  obtain ⟨L, hLe⟩ : ∃ L, L = T.length := ⟨_, rfl⟩
  have HT := hid hT
  have HL := hid hLe
  have HG := hid hG
  have hL : L ≤ 140737488355328 := by rw [hLe]; exact hG.1
  rw [← hLe]
  have HX0 := hid (Boxed.new w 24 (.slice a L cap))
  have HB0 := hid (belowA w (.cells #[.slice a L cap] 24))
  clear hT hLe hG
  go_enter Tryz.func19, Tryz.ntmps19
  go_upto_region 1 with (fail)
  have HTX := hid (HT.out.low HB0.out)
  generalize hXe : w.alloc (.cells #[.slice a L cap] 24) = X at *
  clear hXe
  have xt := HX0.out.cell
  go_wp2_with fail
  go_loopw [3, 4] (fun n i wr => ∃ (k s : Nat), k ≤ L ∧ i = .int .i64 (k : Int) ∧ n = .int .i64 (s : Int) ∧ s ≤ 281474976710656 ∧ Hid (s = sumK T k) ∧ wr = X) (fun _ i _ => L - (intOf i).toNat)
  case atStart => exact ⟨0, L, Nat.zero_le _, rfl, rfl, by omega, hid HL.out, rfl⟩
  case round =>
    obtain ⟨k, s, hk, rfl, rfl, hs, HS, rfl⟩ := hrel
    by_cases hkl : k < L
    · by_cases hs1 : s ≤ 100000
      · have hki : (k : Int) < (L : Int) := by omega
        have hsi : (s : Int) ≤ 100000 := by omega
        rcases HTX.out with h0 | ⟨b2, o2, rfl, hb2, hc2⟩
        · have := HL.out; omega
        obtain ⟨ka, kc, q0, _, _, q3, rk⟩ := hc2 k (by rw [← HL.out]; omega)
        have hkl2 := HG.out.2 k (by rw [← HL.out]; omega)
        obtain ⟨m, hm⟩ : ∃ m, m = (pt T k).kids.length := ⟨_, rfl⟩
        rw [← hm] at hkl2 q3
        have HM := hid hm
        clear hm rk hc2 q0
        have hk4 : ((k : Int) * 4).toNat = k * 4 := by omega
        go_wp2_with fail
        refine ⟨⟨k + 1, s + m, by omega, by simp, by simp, by omega, hid (by rw [HS.out, HM.out]; rfl), trivial⟩, ?_⟩
        show L - ((k : Int) + 1).toNat < L - ((k : Int)).toNat
        omega
      · have hki : (k : Int) < (L : Int) := by omega
        have hsi : ¬ ((s : Int) ≤ 100000) := by omega
        have hsj : (100000 : Int) < (s : Int) := by omega
        go_wp2_with fail
        go_ret
        exact Or.inr ⟨rfl, HB0.out⟩
    · have hki : ¬ ((k : Int) < (L : Int)) := by omega
      by_cases hs1 : s ≤ 100000
      · have hsi : ¬ ((100000 : Int) < (s : Int)) := by omega
        go_wp2_with fail
        go_ret
        refine Or.inl ⟨rfl, ?_, HB0.out⟩
        have : L = k := by omega
        rw [this, ← HS.out]
        exact hs1
      · have hsi : (100000 : Int) < (s : Int) := by omega
        go_wp2_with fail
        go_ret
        exact Or.inr ⟨rfl, HB0.out⟩
end Go.Proofs.YtlhlpamciafocaaGreatDoor.L.Sw
namespace Go.Proofs.YtlhlpamciafocaaGreatDoor.L.Sw
open Go.RowKit Go.Shelf
set_option linter.unusedVariables false
theorem _root_.Go.Proofs.YtlhlpamciafocaaGreatDoor.L.OwnP.set_low {W : World} {base : Nat} {v : Value} {T : List Pt} {ks : Nat → Value} {k : Nat} (h : OwnP W base v T ks k) {p : Addr} (hp : p.block < base) (u : Value) : OwnP (W.setCell p u) base v T ks k :=
  ⟨ownsRow_setCell_below h.row hp u, fun j hj => ownsRow_setCell_below (h.kids j hj) hp u⟩
set_option maxHeartbeats 4000000 in
set_option maxRecDepth 100000 in
theorem copy_any (a : Option Addr) (T : List Pt) (cap : Nat) (w : World) (hT : PLs w a T) (hG : GdT T) :
    Calls Tryz.prog 9 #[.agg #[.slice a T.length cap]] w fun e w' => ∃ a' cap', e = .returned (.agg #[.slice a' T.length cap']) ∧ PLs w' a' T ∧ Below w.heap.size w w' := by
  obtain ⟨L, hLe⟩ : ∃ L, L = T.length := ⟨_, rfl⟩
  have HT := hid hT
  have HL := hid hLe
  have HG := hid hG
  have hL : L ≤ 140737488355328 := by rw [hLe]; exact hG.1
  have HLG := hid (fun W (h : PL W a T) => large_any a T cap W h hG)
  rw [← hLe] at HLG ⊢
  have hb0 := belowA w (.cells #[.slice a L cap] 24)
  have hb1 := hb0.alloc (by simp) (.cells #[.slice none 0 0] 24)
  have HB1 := hid hb1
  have HX0 := hid (show Boxed ((w.alloc (.cells #[.slice a L cap] 24)).alloc (.cells #[.slice none 0 0] 24)) w.heap.size 24 (.slice a L cap) from (Boxed.new w _ _).alloc _)
  have HX1 := hid (show Boxed ((w.alloc (.cells #[.slice a L cap] 24)).alloc (.cells #[.slice none 0 0] 24)) (w.heap.size + 1) 24 (.slice none 0 0) by
    have := Boxed.new (w.alloc (.cells #[.slice a L cap] 24)) 24 (.slice none 0 0)
    rwa [World.size_alloc] at this)
  have HXS := hid (show ((w.alloc (.cells #[.slice a L cap] 24)).alloc (.cells #[.slice none 0 0] 24)).heap.size = w.heap.size + 1 + 1 by simp)
  clear hT hLe hG hb0 hb1
  go_enter Tryz.func9, Tryz.ntmps9
  go_upto_region 1 with (fail)
  have HTX := hid (HT.out.low HB1.out)
  generalize (w.alloc (.cells #[.slice a L cap] 24)).alloc (.cells #[.slice none 0 0] 24) = X at *
  have xt := HX0.out.cell
  go_upto_region 2 with (go_at_call 19; refine (HLG.out X HTX.out.pl).mono ?_; rintro e w1 (⟨rfl, hs, l1⟩ | ⟨rfl, l1⟩))
  · have hL5 : L ≤ 100000 := by
      have h0 := sumK_mono T (Nat.zero_le L)
      have h1 : sumK T 0 = L := HL.out.symm
      omega
    have HS := hid hs
    have HW1 := hid (show Below w.heap.size w w1 from HB1.out.trans (l1.mono (by rw [HXS.out]; omega)))
    have HY0 := hid (boxed_low HX0.out l1)
    have HY1 := hid (boxed_low HX1.out l1)
    have HWS := hid (show w.heap.size + 1 < w1.heap.size from HY1.out.lt)
    have HLT := hid (Nat.lt_of_succ_lt HWS.out)
    clear hs l1 xt
    go_wp2_with fail
    go_loopw [4, 5] (fun v i wr => ∃ (k : Nat) (ks : Nat → Value), k ≤ L ∧ i = .int .i64 (k : Int) ∧ Hid (Below w1.heap.size w1 wr) ∧ Hid (OwnP wr w1.heap.size v T ks k)) (fun _ i _ => L - (intOf i).toNat)
    case atStart => exact ⟨0, fun _ => undef, Nat.zero_le _, rfl, hid (Below.refl _ _), hid ⟨⟨rfl, .inl ⟨rfl, rfl⟩⟩, fun j hj => absurd hj (Nat.not_lt_zero j)⟩⟩
    case round =>
      obtain ⟨k, ks, hk, rfl, HB, HO⟩ := hrel
      have xt := (show Boxed wr w.heap.size 24 (.slice a L cap) from boxed_low HY0.out HB.out).cell
      by_cases hkl : k < L
      · have hki : (k : Int) < (L : Int) := by omega
        have hk0 : (0 : Int) ≤ (k : Int) := by omega
        have hts := HT.out.low (HW1.out.trans (HB.out.mono (Nat.le_of_lt HLT.out)))
        have hgk := sumK_kid T hkl
        rcases hts with h0 | ⟨b2, o2, rfl, hb2, hc2⟩
        · have := HL.out; omega
        obtain ⟨ka, kc, q0, q1, q2, q3, rk, hno⟩ := hc2 k (by rw [← HL.out]; exact hkl)
        have hgl := Nat.le_trans hgk HS.out
        obtain ⟨p, hp⟩ : ∃ p, p = pt T k := ⟨_, rfl⟩
        rw [← hp] at q0 q1 q2 q3 rk hgl
        have HPT := hid hp
        obtain ⟨kd, tx, nu, zs⟩ := p
        simp only at q0 q1 q2 q3 rk hgl
        obtain ⟨n, hn⟩ : ∃ n, n = zs.length := ⟨_, rfl⟩
        rw [← hn] at q3 hgl
        have HN := hid hn
        have RK := hid rk
        have HNO := hid hno
        have hk4 : ((k : Int) * 4).toNat = k * 4 := by omega
        have hvb := belowA wr (.cells #[.int .i64 kd, .string tx, .int .i64 nu, .slice ka n kc] 50)
        have HVB := hid hvb
        have HVP := hid (heap_alloc_new wr (.cells #[.int .i64 kd, .string tx, .int .i64 nu, .slice ka n kc] 50))
        have HVS := hid (show (wr.alloc (.cells #[.int .i64 kd, .string tx, .int .i64 nu, .slice ka n kc] 50)).heap.size = wr.heap.size + 1 by simp)
        clear hc2 rk hno hp hn hvb hgk
        go_upto_region 9 with (fail)
        have RV := hid (RK.out.low HVB.out (Nat.le_refl _))
        have HP9 := hid (show Below wr.heap.size wr (wr.alloc (.cells #[.int .i64 kd, .string tx, .int .i64 nu, .slice ka n kc] 50)) from HVB.out)
        clear q0 q1 q2 q3 hb2 xt
        generalize wr.alloc (.cells #[.int .i64 kd, .string tx, .int .i64 nu, .slice ka n kc] 50) = V at *
        have HWB := hid (show w1.heap.size ≤ wr.heap.size from HB.out.size)
        generalize hPe : wr.heap.size = P at *
        have HPE := hid hPe
        clear hPe
        have x3 := (cells4 HVP.out).2.2.2
        have N0 := hid (own_new0 V V.heap.size (Nat.le_refl _))
        have HVA := hid (belowA V (.cells #[] 3))
        have RVA := hid (RV.out.low HVA.out (Nat.le_refl _))
        have HPV := hid (show P < V.heap.size by rw [HVS.out]; exact Nat.lt_succ_self _)
        have HBD := hid (show ([] : List Int).length + zs.length ≤ 17592186044000 by rw [List.length_nil, ← HN.out]; omega)
        have HSZ := hid (show V.heap.size ≤ (V.alloc (.cells #[] 3)).heap.size from HVA.out.size)
        have x3a := (HVA.out.cell (p := ⟨P, 3, none⟩) HPV.out).trans x3
        have hPne : P ≠ V.heap.size := Nat.ne_of_lt HPV.out
        go_wp2_with (at_builtin; refine append_src rfl _ _ rfl V.heap.size _ [] rfl N0.out ka n kc zs HN.out rfl HNO.out RVA.out HBD.out HSZ.out ?_)
        intro v1 w3 o1 g1
        obtain ⟨ka1, kc1, rfl⟩ := own_form o1
        have hk3 : w3.heap[P]? = V.heap[P]? := (g1.block P (Nat.lt_of_lt_of_le HPV.out HVA.out.size) (by simp [Value.ownBlock]; exact hPne)).trans (HVA.out.block P HPV.out)
        have e3 : w3.heap[P]? = some (.cells #[.int .i64 kd, .string tx, .int .i64 nu, .slice ka n kc] 50 (0, 0)) := hk3.trans HVP.out
        have f3 : w3.frozen? ⟨P, 3, none⟩ = false := by simp [World.frozen?, e3]
        obtain ⟨d0, d1, d2, d3⟩ := cells4 e3
        have HE3 := hid e3
        have O1 := hid o1
        have G1 := hid g1
        clear o1 g1 hk3 e3 x3 x3a
        go_upto_region 10 with (fail)
        have e4 : (w3.setCell ⟨P, 3, none⟩ (.slice ka1 zs.length kc1)).heap[P]? = some (.cells #[.int .i64 kd, .string tx, .int .i64 nu, .slice ka1 zs.length kc1] 50 (0, 0)) := by
          rw [setCell_eq_setRow _ _ _ _ _ _ _ HE3.out, setRow_heap _ _ _ _ _ _ HE3.out]
          rfl
        have b3 : Below V.heap.size V w3 := ((belowA V (.cells #[] 3)).grown G1.out HVA.out.size (fun k hk => by simp [Value.ownBlock] at hk; omega))
        have b4 : Below P wr (w3.setCell ⟨P, 3, none⟩ (.slice ka1 zs.length kc1)) := (HP9.out.trans (b3.mono (Nat.le_of_lt HPV.out))).setCell (p := ⟨P, 3, none⟩) (Nat.le_refl _) _
        have HB4 := hid b4
        have HO4 := hid (HO.out.low (show Below wr.heap.size wr _ by rw [HPE.out]; exact b4))
        have OK4 := hid (show OwnI (w3.setCell ⟨P, 3, none⟩ (.slice ka1 zs.length kc1)) w1.heap.size (.slice ka1 zs.length kc1) zs from own_mono (ownsRow_setCell_below O1.out (a := ⟨P, 3, none⟩) HPV.out _) (by have := HWB.out; have := HPV.out; omega))
        have ⟨x0, x1, x2, x3⟩ := cells4 e4
        have HW4 := hid (show w1.heap.size ≤ (w3.setCell ⟨P, 3, none⟩ (.slice ka1 zs.length kc1)).heap.size by have h1 := b4.size; have h2 := HWB.out; rw [HPE.out] at h1; omega)
        clear e4 b3 b4 d0 d1 d2 d3 f3
        generalize w3.setCell ⟨P, 3, none⟩ (.slice ka1 zs.length kc1) = W4 at *
        obtain ⟨i0, hi, hz0, hz1, hz2⟩ := info_parts infoP
        have HRW := hid (HO4.out.row.alloc (.cells #[.int .i64 kd, .string tx, .int .i64 nu, .slice ka1 zs.length kc1] 50))
        have HFN := hid (cell_four_new W4 (.int .i64 kd) (.string tx) (.int .i64 nu) (.slice ka1 zs.length kc1) 50)
        have HA4 := hid (belowA W4 (.cells #[.int .i64 kd, .string tx, .int .i64 nu, .slice ka1 zs.length kc1] 50))
        have HO5 := hid (HO4.out.low HA4.out)
        have OK5 := hid (own_low OK4.out HA4.out)
        go_wp2_with (at_builtin; refine wpList_append_own _ rfl _ _ 22 rfl w1.heap.size 50 i0 (.agg #[.int .i64 0, .string ByteArray.empty, .int .i64 0, .slice none 0 0]) 4 56 Tryz.underlying22 hi hz0 hz1 hz2 rfl (by decide) _ _ _ rfl HRW.out ⟨W4.heap.size, 0, none⟩ 1 1 [.int .i64 kd, .string tx, .int .i64 nu, .slice ka1 zs.length kc1] rfl rfl HFN.out (fun x hx => by simp at hx; rcases hx with rfl | rfl | rfl | rfl <;> rfl) (by unfold maxLen; omega) (by omega) (Nat.le_trans HW4.out HA4.out.size) ?_)
        intro v5 w5 hr5 hg5 hn5
        have HM := hid (OwnP.more HO5.out (show OwnI _ w1.heap.size (.slice ka1 zs.length kc1) (pt T k).kids by rw [← HPT.out]; exact OK5.out) (by rw [← HPT.out]; exact hr5) hg5)
        have HB5 := hid (show Below w1.heap.size w1 w5 by
          have h1 : Below w1.heap.size w1 W4 := HB.out.trans (HB4.out.mono HWB.out)
          refine (h1.trans (HA4.out.mono HW4.out)).grown hg5 (Nat.le_trans HW4.out HA4.out.size) (fun k hk => ?_)
          exact (HO5.out.row.lt k hk).1)
        clear hr5 hg5 hn5 hi hz0 hz1 hz2 x0 x1 x2 x3
        go_wp2_with fail
        refine ⟨⟨k + 1, _, by omega, by simp, HB5, HM⟩, ?_⟩
        show L - ((k : Int) + 1).toNat < L - ((k : Int)).toNat
        omega
      · have hki : ¬ ((k : Int) < (L : Int)) := by omega
        have ekL : k = L := by omega
        subst ekL
        have hy1 := boxed_low HY1.out HB.out
        have xc := hy1.cell
        have xf := hy1.frozen
        have HXC := hid hy1
        clear hy1
        have HO2 := hid (HO.out.set_low (p := ⟨w.heap.size + 1, 0, none⟩) HWS.out u4)
        rw [HL.out] at HO2
        obtain ⟨a', cap', hv, hp⟩ := HO2.out.pl
        rw [← HL.out] at hv
        have HP := hid hp
        clear hp
        subst hv
        have HW3 := hid ((HW1.out.trans (HB.out.mono (Nat.le_of_lt HLT.out))).setCell (p := ⟨w.heap.size + 1, 0, none⟩) (Nat.le_succ _) (.slice a' k cap'))
        go_wp2_with fail
        exact ⟨rfl, .agg #[.slice a' k cap'], results_cell_row Tryz.results9 _ _ (w.heap.size + 1) 24 #[.slice a' k cap'] (0, 0) _ rfl (HXC.out.set _) Tryz.underlying24 rfl (by kernel_rfl), a', ⟨cap', rfl⟩, HP.out, HW3.out⟩
  · have HW1 := hid (show Below w.heap.size w w1 from HB1.out.trans (l1.mono (by rw [HXS.out]; omega)))
    have HY0 := boxed_low HX0.out l1
    have HY1 := boxed_low HX1.out l1
    have y0 := HY0.cell
    have y1 := HY1.cell
    have y2 := HY1.frozen
    have HP := hid (HT.out.low (HW1.out.setCell (p := ⟨w.heap.size + 1, 0, none⟩) (Nat.le_succ _) (.slice a L cap)))
    have HW2 := hid (HW1.out.setCell (p := ⟨w.heap.size + 1, 0, none⟩) (Nat.le_succ _) (.slice a L cap))
    have HYX := hid HY1
    clear l1 xt HY0 HY1
    go_wp2_with fail
    exact ⟨rfl, .agg #[.slice a L cap], results_cell_row Tryz.results9 _ _ (w.heap.size + 1) 24 #[.slice a L cap] (0, 0) _ rfl (HYX.out.set _) Tryz.underlying24 rfl (by kernel_rfl), a, cap, rfl, HP.out, HW2.out⟩
end Go.Proofs.YtlhlpamciafocaaGreatDoor.L.Sw
