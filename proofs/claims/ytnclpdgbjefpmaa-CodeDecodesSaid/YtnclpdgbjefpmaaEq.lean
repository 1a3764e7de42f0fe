import Derived.Test.YtnclpdgbjefpmaaEp
import Derived.Deep.RegionHeld3
namespace Go.Proofs.Ytnclpdgbjefpmaa.L
open Go.RowKit
set_option linter.unusedVariables false
set_option linter.unusedSimpArgs false
/-- The operands' bytes, the first ones. -/
def opk (q0 q1 q2 : Bool) (x y z : Int) (k : Nat) : List UInt8 := (if 0 < k ∧ q0 = true then cnt x.toNat else []) ++ ((if 1 < k ∧ q1 = true then cnt y.toNat else []) ++ (if 2 < k ∧ q2 = true then cnt z.toNat else []))
theorem cnt_small (n : Nat) (h : n ≤ 65535) : (cnt n).length ≤ 3 := by
  rw [cnt]
  split
  · rw [cnt]
    split
    · rw [cnt, if_neg (by omega)]
      simp
    · simp
  · simp
theorem opk_len {q0 q1 q2 : Bool} {x y z : Int} (k : Nat) (hk : k ≤ 3) (hx : q0 = true → 0 ≤ x ∧ x ≤ 65535) (hy : q1 = true → 0 ≤ y ∧ y ≤ 65535) (hz : q2 = true → 0 ≤ z ∧ z ≤ 65535) : (opk q0 q1 q2 x y z k).length ≤ 9 := by
  unfold opk
  simp only [List.length_append]
  have a : (if 0 < k ∧ q0 = true then cnt x.toNat else []).length ≤ 3 := by
    split
    · rename_i h
      exact cnt_small _ (by have := hx h.2; omega)
    · simp
  have b : (if 1 < k ∧ q1 = true then cnt y.toNat else []).length ≤ 3 := by
    split
    · rename_i h
      exact cnt_small _ (by have := hy h.2; omega)
    · simp
  have d : (if 2 < k ∧ q2 = true then cnt z.toNat else []).length ≤ 3 := by
    split
    · rename_i h
      exact cnt_small _ (by have := hz h.2; omega)
    · simp
  omega
theorem kp_of_below {B g : Nat} {w W : World} (h : Below w.heap.size w W) (hB : B ≤ w.heap.size) : Kp B g w W := (Kp.refl B g w).below h hB
theorem fit_in {u : Bool} {x : Int} (h : fitB u x = true) (hu : u = true) : 0 ≤ x ∧ x ≤ 65535 := by
  unfold fitB inR at h
  rw [if_pos hu] at h
  exact of_decide_eq_true h
theorem optC_W (u : Bool) (x : Int) : (optC u).W x = if u = true then cnt x.toNat else [] := by
  unfold optC
  cases u <;> rfl
theorem insC_W (o x y z : Int) (ho : 1 ≤ o ∧ o ≤ 36) : insC.W ⟨o, x, y, z⟩ = [UInt8.ofNat o.toNat] ++ opk (us o).1 (us o).2.1 (us o).2.2 x y z 3 := by
  have e : (((UInt8.ofNat o.toNat).toNat : Nat) : Int) = o := by rw [u8_nat (by omega)]; omega
  show [UInt8.ofNat o.toNat] ++ ((optC (us ((UInt8.ofNat o.toNat).toNat : Nat)).1).W x ++ ((optC (us ((UInt8.ofNat o.toNat).toNat : Nat)).2.1).W y ++ (optC (us ((UInt8.ofNat o.toNat).toNat : Nat)).2.2).W z)) = _
  rw [e, optC_W, optC_W, optC_W]
  unfold opk
  simp
set_option maxHeartbeats 8000000 in
set_option maxRecDepth 100000 in
theorem instr_any (B g : Nat) (i : Ins) (l : List UInt8) (v : Value) (w : World) (hi : insB i = true) (h : Wv B g v l w) (hl : l.length ≤ 70368744170000) :
    Calls Try.prog 64 #[.pointer (some ⟨g, 0, none⟩), .agg (insV i)] w (Wrs B g l (insC.W i) w) := by
  obtain ⟨o, x, y, z⟩ := i
  unfold insV
  simp only
  have HIB := hid hi
  have ho : 1 ≤ o ∧ o ≤ 36 := by
    unfold insB inR at hi
    simp only [Bool.and_eq_true, decide_eq_true_eq] at hi
    exact hi.1
  have hfit : fitB (us o).1 x = true ∧ fitB (us o).2.1 y = true ∧ fitB (us o).2.2 z = true := by
    unfold insB opsB at hi
    simp only [Bool.and_eq_true] at hi
    exact hi.2
  have hwi := insC_W o x y z ho
  obtain ⟨q0, hq0⟩ : ∃ q, q = (us o).1 := ⟨_, rfl⟩
  obtain ⟨q1, hq1⟩ : ∃ q, q = (us o).2.1 := ⟨_, rfl⟩
  obtain ⟨q2, hq2⟩ : ∃ q, q = (us o).2.2 := ⟨_, rfl⟩
  rw [← hq0, ← hq1, ← hq2] at hwi hfit
  have HU0 := hid hq0
  have HU1 := hid hq1
  have HU2 := hid hq2
  have HFIT0 := hid (fun h => fit_in hfit.1 h)
  have HFIT1 := hid (fun h => fit_in hfit.2.1 h)
  have HFIT2 := hid (fun h => fit_in hfit.2.2 h)
  have HFX := HFIT0
  have HFY := HFIT1
  have HFZ := HFIT2
  have HUS := hid (fun W => uses_any o W)
  clear hq0 hq1 hq2 hfit
  obtain ⟨i0, hi, hz0, hz1, hz2⟩ := info_parts infoB
  obtain ⟨c, hc⟩ : ∃ c, c = UInt8.ofNat o.toNat := ⟨_, rfl⟩
  have HD := hid (show o = iv c from by unfold iv; rw [hc, u8_nat (by omega)]; omega)
  rw [← hc] at hwi
  have HWI := hid hwi
  clear hc hwi
  have hw8 : IntKind.u8.wrap o = o := by unfold IntKind.wrap; simp [IntKind.bits, IntKind.signed]; omega
  have HLL := hid hl
  have HB1 := hid (belowA w (.cells #[.int .i64 o, .int .i64 x, .int .i64 y, .int .i64 z] 68))
  have HI1 := hid (heap_alloc_new w (.cells #[.int .i64 o, .int .i64 x, .int .i64 y, .int .i64 z] 68))
  have HV1 := hid (h.low HB1.out)
  have hgw := lt_blk h.box
  have HBL := hid h.le
  clear h hl
  go_enter Try.func64, Try.ntmps64
  go_upto_region 1 with fail
  generalize w.alloc (.cells #[.int .i64 o, .int .i64 x, .int .i64 y, .int .i64 z] 68) = W1 at *
  obtain ⟨b, hb⟩ : ∃ b, b = w.heap.size := ⟨_, rfl⟩
  rw [← hb] at HI1 hgw ⊢
  have HNE := hid (show b ≠ g from by omega)
  have HBW := hid hb
  clear hb hgw
  obtain ⟨va, n1, vc, rfl⟩ : ∃ va n1 vc, v = .slice va n1 vc := by obtain ⟨x, y, e⟩ := ownb_form HV1.out.own; exact ⟨_, _, _, e⟩
  have MS := hid (show ∀ Y, Below W1.heap.size W1 Y → (fun Y => Y.cell? ⟨b, 0, none⟩ = some (.int .i64 o)) Y from fun Y hY => (hY.cell (p := ⟨b, 0, none⟩) (lt_blk HI1.out)).trans (cell_of_row _ _ 0 _ _ _ HI1.out))
  have HDZ := hid (show Below W1.heap.size W1 W1.drew from ⟨rfl, rfl, rfl, Nat.le_refl _, fun _ _ => rfl⟩)
  refine wp_region_held_drew (S := (fun Y => Y.cell? ⟨b, 0, none⟩ = some (.int .i64 o))) (by kernel_rfl) ?_ (fun hHeld => ?_)
  · exact MS.out _ HDZ.out
  have HVZ := hid (HV1.out.low HDZ.out)
  have HIZ := hid ((HDZ.out.block _ (lt_blk HI1.out)).trans HI1.out)
  have HBZ := hid (bch HB1.out HDZ.out)
  have MS := hid (show ∀ Y, Below W1.drew.heap.size W1.drew Y → (fun Y => Y.cell? ⟨b, 0, none⟩ = some (.int .i64 o)) Y from fun Y hY => MS.out Y (bch HDZ.out hY))
  generalize W1.drew = Z at *
  refine wpAnyH_take (i := 0) (v := ?_) rfl (by kernel_rfl) (by kernel_rfl) (by kernel_rfl) (fun _ _ _ h => h) (Or.inl ⟨by rfl, ?_⟩) (by assumption) ?_
  rotate_left
  · (intro w hSw; (try dsimp only at hSw); go_simp; try with_reducible rfl)
  try simp only [Act.put, List.setIfInBounds_toArray, List.set_cons_zero, List.set_cons_succ]
  refine wpAnyH_take (i := 1) (v := ?_) rfl (by kernel_rfl) (by kernel_rfl) (by kernel_rfl) (fun _ _ _ h => h) (Or.inl ⟨by rfl, ?_⟩) (by assumption) ?_
  rotate_left
  · (intro w hSw; (try dsimp only at hSw); go_simp; try with_reducible rfl)
  try simp only [Act.put, List.setIfInBounds_toArray, List.set_cons_zero, List.set_cons_succ]
  refine wpAnyH_take (i := 2) (v := ?_) rfl (by kernel_rfl) (by kernel_rfl) (by kernel_rfl) (fun _ _ _ h => h) (Or.inl ⟨by rfl, ?_⟩) (by assumption) ?_
  rotate_left
  · (intro w hSw; (try dsimp only at hSw); go_simp; try with_reducible rfl)
  try simp only [Act.put, List.setIfInBounds_toArray, List.set_cons_zero, List.set_cons_succ]
  refine wpAnyH_take (i := 3) (v := ?_) rfl (by kernel_rfl) (by kernel_rfl) (by kernel_rfl) (fun _ _ _ h => h) (Or.inl ⟨by rfl, ?_⟩) (by assumption) ?_
  rotate_left
  · (intro w hSw; (try dsimp only at hSw); go_simp; try with_reducible rfl)
  try simp only [Act.put, List.setIfInBounds_toArray, List.set_cons_zero, List.set_cons_succ]
  refine wpAnyH_take (i := 5) (v := ?_) rfl (by kernel_rfl) (by kernel_rfl) (by kernel_rfl) (fun _ _ _ h => h) (Or.inl ⟨by rfl, ?_⟩) (by assumption) ?_
  rotate_left
  · (intro w hSw; (try dsimp only at hSw); go_simp; try with_reducible rfl)
  try simp only [Act.put, List.setIfInBounds_toArray, List.set_cons_zero, List.set_cons_succ]
  refine wpAnyH_take (i := 6) (v := ?_) rfl (by kernel_rfl) (by kernel_rfl) (by kernel_rfl) (fun _ _ _ h => h) (Or.inl ⟨by rfl, ?_⟩) (by assumption) ?_
  rotate_left
  · (intro w hSw; (try dsimp only at hSw); go_simp; try with_reducible rfl)
  try simp only [Act.put, List.setIfInBounds_toArray, List.set_cons_zero, List.set_cons_succ]
  refine wpAnyH_take (i := 7) (v := ?_) rfl (by kernel_rfl) (by kernel_rfl) (by kernel_rfl) (fun _ _ _ h => h) (Or.inl ⟨by rfl, ?_⟩) (by assumption) ?_
  rotate_left
  · (intro w hSw; (try dsimp only at hSw); go_simp; try with_reducible rfl)
  try simp only [Act.put, List.setIfInBounds_toArray, List.set_cons_zero, List.set_cons_succ]
  refine wpAnyH_ready (rs := [4, 8]) (by kernel_rfl) (by simp) ?_
  refine AllReadyH.cons rfl (fun K hK => ?_) ?_
  · have wc : Z.cell? ⟨g, 0, none⟩ = some (.slice va n1 vc) := cell_of_row _ _ 0 _ _ _ (HVZ.out.low (Below.refl _ _)).box
    go_simp
    clear wc
    refine hK.out _ _ ?_ (fun hHeld => ?_)
    · exact MS.out _ (Below.refl _ _)
    clear hK K hHeld
    try simp only [Act.put, List.setIfInBounds_toArray, List.set_cons_zero, List.set_cons_succ]
    have hHeld := MS.out _ (Below.refl _ _)
    refine wpAnyH_ready (rs := [8]) (by kernel_rfl) (by simp) ?_
    refine AllReadyH.cons rfl (fun K hK => ?_) AllReadyH.nil
    go_simp
    refine hK.out _ _ ?_ (fun hHeld => ?_)
    · exact MS.out _ (belowA Z (.cells #[.int .u8 o] 5))
    clear hK K hHeld
    try simp only [Act.put, List.setIfInBounds_toArray, List.set_cons_zero, List.set_cons_succ]
    have hHeld := MS.out _ (belowA Z (.cells #[.int .u8 o] 5))
    refine wpAnyH_ready (rs := [9]) (by kernel_rfl) (by simp) ?_
    refine AllReadyH.cons rfl (fun K hK => ?_) AllReadyH.nil
    rw [if_pos (by rfl)]
    refine wp_append_own _ _ _ 32 rfl B 5 i0 (.int .u8 0) 1 1 Try.underlying32 hi hz0 hz1 hz2 rfl (by decide) (.slice va n1 vc) l.length _ rfl (World.ownsRow.alloc HVZ.out.own (.cells #[.int .u8 o] 5)) ⟨Z.heap.size, 0, none⟩ 1 1 [.int .u8 o] rfl rfl (cell_one_new Z _ _) (fun u hu => by simp at hu; subst hu; rfl) (by have := HLL.out; unfold maxLen; omega) (by have := HLL.out; omega) (by have := HVZ.out.le; simp; omega) ?_
    intro v' w1 ho1 hg1 _
    have hg' := grow_alloc hg1
    have ho' : OwnB w1 B v' (l ++ [c]) := by
        unfold OwnB
        rw [List.length_append, byteCells_eq, List.map_append]
        rw [byteCells_eq, HD.out] at ho1
        exact ho1
    obtain ⟨va', n', vc', rfl⟩ : ∃ va' n' vc', v' = .slice va' n' vc' := by obtain ⟨x, y, e⟩ := ownb_form ho'; exact ⟨_, _, _, e⟩
    have HP := hid (wv_put HVZ.out hg' ho')
    have HBX := hid (show w1.heap[g]? = some (.cells #[.slice va n1 vc] 62 (0, 0)) from (hg'.block g (lt_blk HVZ.out.box) (fun e => by have := (row_at HVZ.out.own e.symm).1; have := HVZ.out.lt; omega)).trans HVZ.out.box)
    have HBY := hid (show w1.heap[b]? = some (.cells #[.int .i64 o, .int .i64 x, .int .i64 y, .int .i64 z] 68 (0, 0)) from (hg'.block b (lt_blk HIZ.out) (fun e => by obtain ⟨cs, hcs⟩ := (row_at HVZ.out.own e.symm).2; rw [HIZ.out] at hcs; injection hcs with hcs; injection hcs with _ h2 _; cases h2)).trans HIZ.out)
    clear ho1 hg1 hg' ho'
    refine hK.out _ _ ?_ (fun hHeld => ?_)
    · exact cell_of_row _ _ 0 _ _ _ HBY.out
    clear hK K hHeld
    try simp only [Act.put, List.setIfInBounds_toArray, List.set_cons_zero, List.set_cons_succ]
    have hHeld : (fun Y => Y.cell? ⟨b, 0, none⟩ = some (.int .i64 o)) w1 := cell_of_row _ _ 0 _ _ _ HBY.out
    refine wpAnyH_take (i := 10) (v := ?_) rfl (by kernel_rfl) (by kernel_rfl) (by kernel_rfl) (fun _ _ _ h => h) (Or.inl ⟨by rfl, ?_⟩) (by assumption) ?_
    rotate_left
    · (intro w hSw; (try dsimp only at hSw); go_simp; try with_reducible rfl)
    try simp only [Act.put, List.setIfInBounds_toArray, List.set_cons_zero, List.set_cons_succ]
    refine wpAnyH_take (i := 11) (v := ?_) rfl (by kernel_rfl) (by kernel_rfl) (by kernel_rfl) (fun _ _ _ h => h) (Or.inl ⟨by rfl, ?_⟩) (by assumption) ?_
    rotate_left
    · (intro w hSw; (try dsimp only at hSw); go_simp; try with_reducible rfl)
    try simp only [Act.put, List.setIfInBounds_toArray, List.set_cons_zero, List.set_cons_succ]
    refine wpAnyH_ready (rs := [12]) (by kernel_rfl) (by simp) ?_
    refine AllReadyH.cons rfl (fun K hK => ?_) AllReadyH.nil
    have wc : w1.cell? ⟨g, 0, none⟩ = some (.slice va n1 vc) := cell_of_row _ _ 0 _ _ _ HBX.out
    have wf : w1.frozen? ⟨g, 0, none⟩ = false := frz_row HBX.out 0
    go_simp
    have HI3 := hid (show (w1.setCell ⟨g, 0, none⟩ (.slice va' n' vc')).heap[b]? = some (.cells #[.int .i64 o, .int .i64 x, .int .i64 y, .int .i64 z] 68 (0, 0)) from by rw [setCell_eq_setRow _ _ _ _ _ _ _ HBX.out, setRow_other _ _ _ _ HNE.out]; exact HBY.out)
    refine hK.out _ _ ?_ (fun hHeld => ?_)
    · exact cell_of_row _ _ 0 _ _ _ HI3.out
    clear hK K hHeld wc wf
    try simp only [Act.put, List.setIfInBounds_toArray, List.set_cons_zero, List.set_cons_succ]
    refine wpAnyH_done (by kernel_rfl) ?_ _
    clear hHeld
    have HV2 := hid HP.out.1
    have HK2 := hid (show Kp B g w (w1.setCell ⟨g, 0, none⟩ (.slice va' n' vc')) from (kp_of_below HBZ.out HBL.out).trans HP.out.2)
    clear HP
    generalize w1.setCell ⟨g, 0, none⟩ (.slice va' n' vc') = U at *
    skip
    have d0 : U.cell? ⟨b, 0, none⟩ = some (.int .i64 o) := cell_of_row _ _ 0 _ _ _ HI3.out
    have d1 : U.cell? ⟨b, 1, none⟩ = some (.int .i64 x) := cell_of_row _ _ 1 _ _ _ HI3.out
    have d2 : U.cell? ⟨b, 2, none⟩ = some (.int .i64 y) := cell_of_row _ _ 2 _ _ _ HI3.out
    have d3 : U.cell? ⟨b, 3, none⟩ = some (.int .i64 z) := cell_of_row _ _ 3 _ _ _ HI3.out
    go_upto_region 3 with fail
    have HA3 := hid (belowA U (.cells #[.int .i64 x, .int .i64 y, .int .i64 z] 123))
    have HO3 := hid (heap_alloc_new U (.cells #[.int .i64 x, .int .i64 y, .int .i64 z] 123))
    have HI4 := hid ((HA3.out.block _ (lt_blk HI3.out)).trans HI3.out)
    have HV3 := hid (HV2.out.low HA3.out)
    have HK3 := hid (HK2.out.below HA3.out HBL.out)
    have HOBB := hid (show B ≤ U.heap.size from HV2.out.le)
    generalize U.alloc (.cells #[.int .i64 x, .int .i64 y, .int .i64 z] 123) = U3 at *
    generalize U.heap.size = ob at *
    clear d0 d1 d2 d3 HV2 HK2 HA3 HI3
    have d0 : U3.cell? ⟨b, 0, none⟩ = some (.int .i64 o) := cell_of_row _ _ 0 _ _ _ HI4.out
    go_wp2_with fail
    refine (HUS.out U3).mono ?_
    rintro e U4 ⟨rfl, l4⟩
    unfold usV
    have HV4 := hid (HV3.out.low l4)
    have HK4 := hid (HK3.out.below l4 HBL.out)
    have HO4 := hid ((l4.block _ (lt_blk HO3.out)).trans HO3.out)
    clear l4 d0 HV3 HK3 HO3 HI4
    rw [← HU0.out, ← HU1.out, ← HU2.out]
    go_wp2_with fail
    go_loopw [29] (fun i wr => ∃ (k : Nat) (v5 : Value), k ≤ 3 ∧ i = .int .i64 k ∧ Hid (Wv B g v5 (l ++ ([c] ++ opk q0 q1 q2 x y z k)) wr) ∧ Hid (Kp B g w wr) ∧ Hid (wr.heap[ob]? = some (.cells #[.int .i64 x, .int .i64 y, .int .i64 z] 123 (0, 0)))) (fun i _ => 3 - (intOf i).toNat)
    case atStart => exact ⟨0, _, Nat.zero_le _, rfl, hid (by simpa [opk] using HV4.out), HK4, HO4⟩
    case round =>
      obtain ⟨k, v5, hk, rfl, HV, HK, HO⟩ := hrel
      have hk4 : k = 0 ∨ k = 1 ∨ k = 2 ∨ k = 3 := by omega
      rcases hk4 with rfl | rfl | rfl | rfl
      · have hix := run_ix0
        have y9 : wr.cell? ⟨ob, 0, none⟩ = some (.int .i64 x) := cell_of_row _ _ 0 _ _ _ HO.out
        have HF0 := HFIT0
        cases q0 with
        | false =>
          go_wp2_with fail
          exact ⟨⟨1, v5, by omega, by go_num, hid (by first | exact HV.out | simpa [opk] using HV.out), HK, HO⟩, by simp [intOf]⟩
        | true =>
          have hx := HFIT0.out rfl
          have HC := hid (count_any B g x.toNat _ v5 wr (by omega) HV.out (by have := cnt_small x.toNat (by omega); have := HLL.out; have := opk_len (q0 := true) (q1 := q1) (q2 := q2) 0 (by omega) HFX.out HFY.out HFZ.out; simp only [List.length_append, List.length_cons, List.length_nil] at *; omega))
          rw [show ((x.toNat : Nat) : Int) = x from by omega] at HC
          go_wp2_with fail
          refine HC.out.mono ?_
          rintro e w9 ⟨rfl, ⟨v9, h1⟩, h2⟩
          have HO9 := hid ((h2.block ob (lt_blk HO.out) (by have := (HV.out).lt; have := HOBB.out; omega) (fun cs fr e => by rw [HO.out] at e; injection e with e; injection e with _ e2 _; cases e2)).trans HO.out)
          have HV9 := hid (show Wv B g v9 (l ++ ([c] ++ opk true q1 q2 x y z 1)) w9 from by simpa [opk] using h1)
          have HK9 := hid (HK.out.trans h2)
          clear h1 h2 HC y9
          go_wp2_with fail
          exact ⟨⟨1, v9, by omega, by go_num, HV9, HK9, HO9⟩, by simp [intOf]⟩
      · have hix := run_ix1
        have y9 : wr.cell? ⟨ob, 1, none⟩ = some (.int .i64 y) := cell_of_row _ _ 1 _ _ _ HO.out
        have HF1 := HFIT1
        cases q1 with
        | false =>
          go_wp2_with fail
          exact ⟨⟨2, v5, by omega, by go_num, hid (by first | exact HV.out | simpa [opk] using HV.out), HK, HO⟩, by simp [intOf]⟩
        | true =>
          have hx := HFIT1.out rfl
          have HC := hid (count_any B g y.toNat _ v5 wr (by omega) HV.out (by have := cnt_small y.toNat (by omega); have := HLL.out; have := opk_len (q0 := q0) (q1 := true) (q2 := q2) 1 (by omega) HFX.out HFY.out HFZ.out; simp only [List.length_append, List.length_cons, List.length_nil] at *; omega))
          rw [show ((y.toNat : Nat) : Int) = y from by omega] at HC
          go_wp2_with fail
          refine HC.out.mono ?_
          rintro e w9 ⟨rfl, ⟨v9, h1⟩, h2⟩
          have HO9 := hid ((h2.block ob (lt_blk HO.out) (by have := (HV.out).lt; have := HOBB.out; omega) (fun cs fr e => by rw [HO.out] at e; injection e with e; injection e with _ e2 _; cases e2)).trans HO.out)
          have HV9 := hid (show Wv B g v9 (l ++ ([c] ++ opk q0 true q2 x y z 2)) w9 from by simpa [opk] using h1)
          have HK9 := hid (HK.out.trans h2)
          clear h1 h2 HC y9
          go_wp2_with fail
          exact ⟨⟨2, v9, by omega, by go_num, HV9, HK9, HO9⟩, by simp [intOf]⟩
      · have hix := run_ix2
        have y9 : wr.cell? ⟨ob, 2, none⟩ = some (.int .i64 z) := cell_of_row _ _ 2 _ _ _ HO.out
        have HF2 := HFIT2
        cases q2 with
        | false =>
          go_wp2_with fail
          exact ⟨⟨3, v5, by omega, by go_num, hid (by first | exact HV.out | simpa [opk] using HV.out), HK, HO⟩, by simp [intOf]⟩
        | true =>
          have hx := HFIT2.out rfl
          have HC := hid (count_any B g z.toNat _ v5 wr (by omega) HV.out (by have := cnt_small z.toNat (by omega); have := HLL.out; have := opk_len (q0 := q0) (q1 := q1) (q2 := true) 2 (by omega) HFX.out HFY.out HFZ.out; simp only [List.length_append, List.length_cons, List.length_nil] at *; omega))
          rw [show ((z.toNat : Nat) : Int) = z from by omega] at HC
          go_wp2_with fail
          refine HC.out.mono ?_
          rintro e w9 ⟨rfl, ⟨v9, h1⟩, h2⟩
          have HO9 := hid ((h2.block ob (lt_blk HO.out) (by have := (HV.out).lt; have := HOBB.out; omega) (fun cs fr e => by rw [HO.out] at e; injection e with e; injection e with _ e2 _; cases e2)).trans HO.out)
          have HV9 := hid (show Wv B g v9 (l ++ ([c] ++ opk q0 q1 true x y z 3)) w9 from by simpa [opk] using h1)
          have HK9 := hid (HK.out.trans h2)
          clear h1 h2 HC y9
          go_wp2_with fail
          exact ⟨⟨3, v9, by omega, by go_num, HV9, HK9, HO9⟩, by simp [intOf]⟩
      · go_wp2_with fail
        go_end0
        exact ⟨rfl, ⟨v5, by rw [HWI.out]; exact HV.out⟩, HK.out⟩
  refine AllReadyH.cons rfl (fun K hK => ?_) AllReadyH.nil
  go_simp
  refine hK.out _ _ ?_ (fun hHeld => ?_)
  · exact MS.out _ (belowA Z (.cells #[.int .u8 o] 5))
  clear hK K hHeld
  try simp only [Act.put, List.setIfInBounds_toArray, List.set_cons_zero, List.set_cons_succ]
  have hHeld := MS.out _ (belowA Z (.cells #[.int .u8 o] 5))
  refine wpAnyH_ready (rs := [4]) (by kernel_rfl) (by simp) ?_
  refine AllReadyH.cons rfl (fun K hK => ?_) AllReadyH.nil
  have wc : (Z.alloc (.cells #[.int .u8 o] 5)).cell? ⟨g, 0, none⟩ = some (.slice va n1 vc) := cell_of_row _ _ 0 _ _ _ (HVZ.out.low (belowA Z (.cells #[.int .u8 o] 5))).box
  go_simp
  clear wc
  refine hK.out _ _ ?_ (fun hHeld => ?_)
  · exact MS.out _ (belowA Z (.cells #[.int .u8 o] 5))
  clear hK K hHeld
  try simp only [Act.put, List.setIfInBounds_toArray, List.set_cons_zero, List.set_cons_succ]
  have hHeld := MS.out _ (belowA Z (.cells #[.int .u8 o] 5))
  refine wpAnyH_ready (rs := [9]) (by kernel_rfl) (by simp) ?_
  refine AllReadyH.cons rfl (fun K hK => ?_) AllReadyH.nil
  rw [if_pos (by rfl)]
  refine wp_append_own _ _ _ 32 rfl B 5 i0 (.int .u8 0) 1 1 Try.underlying32 hi hz0 hz1 hz2 rfl (by decide) (.slice va n1 vc) l.length _ rfl (World.ownsRow.alloc HVZ.out.own (.cells #[.int .u8 o] 5)) ⟨Z.heap.size, 0, none⟩ 1 1 [.int .u8 o] rfl rfl (cell_one_new Z _ _) (fun u hu => by simp at hu; subst hu; rfl) (by have := HLL.out; unfold maxLen; omega) (by have := HLL.out; omega) (by have := HVZ.out.le; simp; omega) ?_
  intro v' w1 ho1 hg1 _
  have hg' := grow_alloc hg1
  have ho' : OwnB w1 B v' (l ++ [c]) := by
    unfold OwnB
    rw [List.length_append, byteCells_eq, List.map_append]
    rw [byteCells_eq, HD.out] at ho1
    exact ho1
  obtain ⟨va', n', vc', rfl⟩ : ∃ va' n' vc', v' = .slice va' n' vc' := by obtain ⟨x, y, e⟩ := ownb_form ho'; exact ⟨_, _, _, e⟩
  have HP := hid (wv_put HVZ.out hg' ho')
  have HBX := hid (show w1.heap[g]? = some (.cells #[.slice va n1 vc] 62 (0, 0)) from (hg'.block g (lt_blk HVZ.out.box) (fun e => by have := (row_at HVZ.out.own e.symm).1; have := HVZ.out.lt; omega)).trans HVZ.out.box)
  have HBY := hid (show w1.heap[b]? = some (.cells #[.int .i64 o, .int .i64 x, .int .i64 y, .int .i64 z] 68 (0, 0)) from (hg'.block b (lt_blk HIZ.out) (fun e => by obtain ⟨cs, hcs⟩ := (row_at HVZ.out.own e.symm).2; rw [HIZ.out] at hcs; injection hcs with hcs; injection hcs with _ h2 _; cases h2)).trans HIZ.out)
  clear ho1 hg1 hg' ho'
  refine hK.out _ _ ?_ (fun hHeld => ?_)
  · exact cell_of_row _ _ 0 _ _ _ HBY.out
  clear hK K hHeld
  try simp only [Act.put, List.setIfInBounds_toArray, List.set_cons_zero, List.set_cons_succ]
  have hHeld : (fun Y => Y.cell? ⟨b, 0, none⟩ = some (.int .i64 o)) w1 := cell_of_row _ _ 0 _ _ _ HBY.out
  refine wpAnyH_take (i := 10) (v := ?_) rfl (by kernel_rfl) (by kernel_rfl) (by kernel_rfl) (fun _ _ _ h => h) (Or.inl ⟨by rfl, ?_⟩) (by assumption) ?_
  rotate_left
  · (intro w hSw; (try dsimp only at hSw); go_simp; try with_reducible rfl)
  try simp only [Act.put, List.setIfInBounds_toArray, List.set_cons_zero, List.set_cons_succ]
  refine wpAnyH_take (i := 11) (v := ?_) rfl (by kernel_rfl) (by kernel_rfl) (by kernel_rfl) (fun _ _ _ h => h) (Or.inl ⟨by rfl, ?_⟩) (by assumption) ?_
  rotate_left
  · (intro w hSw; (try dsimp only at hSw); go_simp; try with_reducible rfl)
  try simp only [Act.put, List.setIfInBounds_toArray, List.set_cons_zero, List.set_cons_succ]
  refine wpAnyH_ready (rs := [12]) (by kernel_rfl) (by simp) ?_
  refine AllReadyH.cons rfl (fun K hK => ?_) AllReadyH.nil
  have wc : w1.cell? ⟨g, 0, none⟩ = some (.slice va n1 vc) := cell_of_row _ _ 0 _ _ _ HBX.out
  have wf : w1.frozen? ⟨g, 0, none⟩ = false := frz_row HBX.out 0
  go_simp
  have HI3 := hid (show (w1.setCell ⟨g, 0, none⟩ (.slice va' n' vc')).heap[b]? = some (.cells #[.int .i64 o, .int .i64 x, .int .i64 y, .int .i64 z] 68 (0, 0)) from by rw [setCell_eq_setRow _ _ _ _ _ _ _ HBX.out, setRow_other _ _ _ _ HNE.out]; exact HBY.out)
  refine hK.out _ _ ?_ (fun hHeld => ?_)
  · exact cell_of_row _ _ 0 _ _ _ HI3.out
  clear hK K hHeld wc wf
  try simp only [Act.put, List.setIfInBounds_toArray, List.set_cons_zero, List.set_cons_succ]
  refine wpAnyH_done (by kernel_rfl) ?_ _
  clear hHeld
  have HV2 := hid HP.out.1
  have HK2 := hid (show Kp B g w (w1.setCell ⟨g, 0, none⟩ (.slice va' n' vc')) from (kp_of_below HBZ.out HBL.out).trans HP.out.2)
  clear HP
  generalize w1.setCell ⟨g, 0, none⟩ (.slice va' n' vc') = U at *
  skip
  have d0 : U.cell? ⟨b, 0, none⟩ = some (.int .i64 o) := cell_of_row _ _ 0 _ _ _ HI3.out
  have d1 : U.cell? ⟨b, 1, none⟩ = some (.int .i64 x) := cell_of_row _ _ 1 _ _ _ HI3.out
  have d2 : U.cell? ⟨b, 2, none⟩ = some (.int .i64 y) := cell_of_row _ _ 2 _ _ _ HI3.out
  have d3 : U.cell? ⟨b, 3, none⟩ = some (.int .i64 z) := cell_of_row _ _ 3 _ _ _ HI3.out
  go_upto_region 3 with fail
  have HA3 := hid (belowA U (.cells #[.int .i64 x, .int .i64 y, .int .i64 z] 123))
  have HO3 := hid (heap_alloc_new U (.cells #[.int .i64 x, .int .i64 y, .int .i64 z] 123))
  have HI4 := hid ((HA3.out.block _ (lt_blk HI3.out)).trans HI3.out)
  have HV3 := hid (HV2.out.low HA3.out)
  have HK3 := hid (HK2.out.below HA3.out HBL.out)
  have HOBB := hid (show B ≤ U.heap.size from HV2.out.le)
  generalize U.alloc (.cells #[.int .i64 x, .int .i64 y, .int .i64 z] 123) = U3 at *
  generalize U.heap.size = ob at *
  clear d0 d1 d2 d3 HV2 HK2 HA3 HI3
  have d0 : U3.cell? ⟨b, 0, none⟩ = some (.int .i64 o) := cell_of_row _ _ 0 _ _ _ HI4.out
  go_wp2_with fail
  refine (HUS.out U3).mono ?_
  rintro e U4 ⟨rfl, l4⟩
  unfold usV
  have HV4 := hid (HV3.out.low l4)
  have HK4 := hid (HK3.out.below l4 HBL.out)
  have HO4 := hid ((l4.block _ (lt_blk HO3.out)).trans HO3.out)
  clear l4 d0 HV3 HK3 HO3 HI4
  rw [← HU0.out, ← HU1.out, ← HU2.out]
  go_wp2_with fail
  go_loopw [29] (fun i wr => ∃ (k : Nat) (v5 : Value), k ≤ 3 ∧ i = .int .i64 k ∧ Hid (Wv B g v5 (l ++ ([c] ++ opk q0 q1 q2 x y z k)) wr) ∧ Hid (Kp B g w wr) ∧ Hid (wr.heap[ob]? = some (.cells #[.int .i64 x, .int .i64 y, .int .i64 z] 123 (0, 0)))) (fun i _ => 3 - (intOf i).toNat)
  case atStart => exact ⟨0, _, Nat.zero_le _, rfl, hid (by simpa [opk] using HV4.out), HK4, HO4⟩
  case round =>
    obtain ⟨k, v5, hk, rfl, HV, HK, HO⟩ := hrel
    have hk4 : k = 0 ∨ k = 1 ∨ k = 2 ∨ k = 3 := by omega
    rcases hk4 with rfl | rfl | rfl | rfl
    · have hix := run_ix0
      have y9 : wr.cell? ⟨ob, 0, none⟩ = some (.int .i64 x) := cell_of_row _ _ 0 _ _ _ HO.out
      have HF0 := HFIT0
      cases q0 with
      | false =>
        go_wp2_with fail
        exact ⟨⟨1, v5, by omega, by go_num, hid (by first | exact HV.out | simpa [opk] using HV.out), HK, HO⟩, by simp [intOf]⟩
      | true =>
        have hx := HFIT0.out rfl
        have HC := hid (count_any B g x.toNat _ v5 wr (by omega) HV.out (by have := cnt_small x.toNat (by omega); have := HLL.out; have := opk_len (q0 := true) (q1 := q1) (q2 := q2) 0 (by omega) HFX.out HFY.out HFZ.out; simp only [List.length_append, List.length_cons, List.length_nil] at *; omega))
        rw [show ((x.toNat : Nat) : Int) = x from by omega] at HC
        go_wp2_with fail
        refine HC.out.mono ?_
        rintro e w9 ⟨rfl, ⟨v9, h1⟩, h2⟩
        have HO9 := hid ((h2.block ob (lt_blk HO.out) (by have := (HV.out).lt; have := HOBB.out; omega) (fun cs fr e => by rw [HO.out] at e; injection e with e; injection e with _ e2 _; cases e2)).trans HO.out)
        have HV9 := hid (show Wv B g v9 (l ++ ([c] ++ opk true q1 q2 x y z 1)) w9 from by simpa [opk] using h1)
        have HK9 := hid (HK.out.trans h2)
        clear h1 h2 HC y9
        go_wp2_with fail
        exact ⟨⟨1, v9, by omega, by go_num, HV9, HK9, HO9⟩, by simp [intOf]⟩
    · have hix := run_ix1
      have y9 : wr.cell? ⟨ob, 1, none⟩ = some (.int .i64 y) := cell_of_row _ _ 1 _ _ _ HO.out
      have HF1 := HFIT1
      cases q1 with
      | false =>
        go_wp2_with fail
        exact ⟨⟨2, v5, by omega, by go_num, hid (by first | exact HV.out | simpa [opk] using HV.out), HK, HO⟩, by simp [intOf]⟩
      | true =>
        have hx := HFIT1.out rfl
        have HC := hid (count_any B g y.toNat _ v5 wr (by omega) HV.out (by have := cnt_small y.toNat (by omega); have := HLL.out; have := opk_len (q0 := q0) (q1 := true) (q2 := q2) 1 (by omega) HFX.out HFY.out HFZ.out; simp only [List.length_append, List.length_cons, List.length_nil] at *; omega))
        rw [show ((y.toNat : Nat) : Int) = y from by omega] at HC
        go_wp2_with fail
        refine HC.out.mono ?_
        rintro e w9 ⟨rfl, ⟨v9, h1⟩, h2⟩
        have HO9 := hid ((h2.block ob (lt_blk HO.out) (by have := (HV.out).lt; have := HOBB.out; omega) (fun cs fr e => by rw [HO.out] at e; injection e with e; injection e with _ e2 _; cases e2)).trans HO.out)
        have HV9 := hid (show Wv B g v9 (l ++ ([c] ++ opk q0 true q2 x y z 2)) w9 from by simpa [opk] using h1)
        have HK9 := hid (HK.out.trans h2)
        clear h1 h2 HC y9
        go_wp2_with fail
        exact ⟨⟨2, v9, by omega, by go_num, HV9, HK9, HO9⟩, by simp [intOf]⟩
    · have hix := run_ix2
      have y9 : wr.cell? ⟨ob, 2, none⟩ = some (.int .i64 z) := cell_of_row _ _ 2 _ _ _ HO.out
      have HF2 := HFIT2
      cases q2 with
      | false =>
        go_wp2_with fail
        exact ⟨⟨3, v5, by omega, by go_num, hid (by first | exact HV.out | simpa [opk] using HV.out), HK, HO⟩, by simp [intOf]⟩
      | true =>
        have hx := HFIT2.out rfl
        have HC := hid (count_any B g z.toNat _ v5 wr (by omega) HV.out (by have := cnt_small z.toNat (by omega); have := HLL.out; have := opk_len (q0 := q0) (q1 := q1) (q2 := true) 2 (by omega) HFX.out HFY.out HFZ.out; simp only [List.length_append, List.length_cons, List.length_nil] at *; omega))
        rw [show ((z.toNat : Nat) : Int) = z from by omega] at HC
        go_wp2_with fail
        refine HC.out.mono ?_
        rintro e w9 ⟨rfl, ⟨v9, h1⟩, h2⟩
        have HO9 := hid ((h2.block ob (lt_blk HO.out) (by have := (HV.out).lt; have := HOBB.out; omega) (fun cs fr e => by rw [HO.out] at e; injection e with e; injection e with _ e2 _; cases e2)).trans HO.out)
        have HV9 := hid (show Wv B g v9 (l ++ ([c] ++ opk q0 q1 true x y z 3)) w9 from by simpa [opk] using h1)
        have HK9 := hid (HK.out.trans h2)
        clear h1 h2 HC y9
        go_wp2_with fail
        exact ⟨⟨3, v9, by omega, by go_num, HV9, HK9, HO9⟩, by simp [intOf]⟩
    · go_wp2_with fail
      go_end0
      exact ⟨rfl, ⟨v5, by rw [HWI.out]; exact HV.out⟩, HK.out⟩
end Go.Proofs.Ytnclpdgbjefpmaa.L
