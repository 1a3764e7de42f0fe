import Derived.Test.YtnclpdgbjefpmaaGh
namespace Go.Proofs.Ytnclpdgbjefpmaa.L
open Go.RowKit
set_option linter.unusedVariables false
set_option linter.unusedSimpArgs false
set_option maxHeartbeats 4000000 in
set_option maxRecDepth 100000 in
theorem copy_any (pv : Array Value) (p : Pg) (w : World) (hp : PgN w pv p) (hs : SmN p) : Calls Try.prog 13 #[.agg pv] w fun e w' => (∃ qv, e = .returned (.agg qv) ∧ PgR w' qv p) ∧ Below w.heap.size w w' := by
  obtain ⟨a0, c0, a1, c1, a2, c2, a3, c3, a4, c4, rfl, r0, r1, r2, r3, r4, n0, n1, n4⟩ := hp.ex
  have HSM := hid hs
  have R0 := hid r0
  have R1 := hid r1
  have R2 := hid r2
  have R3 := hid r3
  have R4 := hid r4
  have HN0 := hid n0
  have HN1 := hid n1
  have HN4 := hid n4
  clear hp hs r0 r1 r2 r3 r4 n0 n1 n4
  obtain ⟨L0, hL0⟩ : ∃ L, L = p.tx.length := ⟨_, rfl⟩
  obtain ⟨L1, hL1⟩ : ∃ L, L = p.nu.length := ⟨_, rfl⟩
  obtain ⟨L2, hL2⟩ : ∃ L, L = p.st.length := ⟨_, rfl⟩
  obtain ⟨L3, hL3⟩ : ∃ L, L = p.ns.length := ⟨_, rfl⟩
  obtain ⟨L4, hL4⟩ : ∃ L, L = p.cd.length := ⟨_, rfl⟩
  obtain ⟨dp, hdp⟩ : ∃ d, d = p.dep := ⟨_, rfl⟩
  obtain ⟨lp, hlp⟩ : ∃ d, d = p.loc := ⟨_, rfl⟩
  rw [← hL0, ← hL1, ← hL2, ← hL3, ← hL4, ← hdp, ← hlp]
  have HL0 := hid hL0
  have eL0 : L0 < 8388608 := by rw [hL0]; exact HSM.out.tx
  have mL0 : L0 ≤ maxLen := by unfold maxLen; omega
  have HL1 := hid hL1
  have eL1 : L1 < 8388608 := by rw [hL1]; exact HSM.out.nu
  have mL1 : L1 ≤ maxLen := by unfold maxLen; omega
  have HL2 := hid hL2
  have eL2 : L2 < 8388608 := by rw [hL2]; exact HSM.out.st
  have mL2 : L2 ≤ maxLen := by unfold maxLen; omega
  have HL3 := hid hL3
  have eL3 : L3 < 8388608 := by rw [hL3]; exact HSM.out.ns
  have mL3 : L3 ≤ maxLen := by unfold maxLen; omega
  have HL4 := hid hL4
  have eL4 : L4 < 8388608 := by rw [hL4]; exact HSM.out.cd
  have mL4 : L4 ≤ maxLen := by unfold maxLen; omega
  have Hdp := hid hdp
  have Hlp := hid hlp
  clear hL0 hL1 hL2 hL3 hL4 hdp hlp
  have HC := hid (cst_new (w := w) (av := #[.slice a0 L0 c0, .slice a1 L1 c1, .slice a2 L2 c2, .slice a3 L3 c3, .slice a4 L4 c4, .int .i64 dp, .int .i64 lp]) (d := dp) (lo := lp))
  obtain ⟨ab, hab⟩ : ∃ b, b = w.heap.size := ⟨_, rfl⟩
  obtain ⟨rb, hrb⟩ : ∃ b, b = w.heap.size + 1 := ⟨_, rfl⟩
  obtain ⟨qb, hqb⟩ : ∃ b, b = w.heap.size + 2 := ⟨_, rfl⟩
  go_enter Try.func13, Try.ntmps13
  go_upto_region 2 with fail
  try simp only [World.size_alloc]
  try simp only [show w.heap.size + 1 + 1 = w.heap.size + 2 from rfl]
  generalize (((w.alloc (.cells #[.slice a0 L0 c0, .slice a1 L1 c1, .slice a2 L2 c2, .slice a3 L3 c3, .slice a4 L4 c4, .int .i64 dp, .int .i64 lp] 30)).alloc (.cells #[.slice none 0 0, .slice none 0 0, .slice none 0 0, .slice none 0 0, .slice none 0 0, .int .i64 0, .int .i64 0] 30)).alloc (.cells #[.slice none 0 0, .slice none 0 0, .slice none 0 0, .slice none 0 0, .slice none 0 0, .int .i64 dp, .int .i64 lp] 30)) = W0 at *
  rw [← hab, ← hrb, ← hqb] at *
  clear hab hrb hqb
  obtain ⟨i0, hi, hz0, hz1, hz2⟩ := info_parts info_s
  have wq : W0.cell? ⟨qb, 0, none⟩ = some (.slice none 0 0) := cell_of_row _ _ 0 _ _ _ HC.out.box
  have wa : W0.cell? ⟨ab, 0, none⟩ = some (.slice a0 L0 c0) := cell_of_row _ _ 0 _ _ _ HC.out.arg
  have HRD := hid (R0.out.low HC.out.bl)
  have HBS := hid (show w.heap.size ≤ W0.heap.size from HC.out.bl.size)
  go_wp2_with (at_builtin; go_loud (refine wpl_app rfl _ _ 24 rfl w.heap.size 9 i0 (.string ⟨#[]⟩) 1 16 Try.underlying24 hi hz0 hz1 hz2 rfl (by decide) (.slice none 0 0) 0 [] rfl (World.ownsRow_nil _ _ _ _) a0 L0 c0 (p.tx.map Value.string) rfl (fun h => ⟨HN0.out h, by rcases HRD.out with h0 | ⟨_, _, e, _⟩; (have := HL0.out; (try simp only [List.length_map] at h0); omega); (rw [h] at e; cases e)⟩) (by rw [List.length_map, HL0.out, Nat.mul_one]) (rdv_news HRD.out) (by intro u hu; simp at hu; obtain ⟨z, _, rfl⟩ := hu; rfl) (by unfold maxLen; omega) (by omega) HBS.out ?_))
  clear wq wa
  intro v' w2 ho hg
  obtain ⟨va, vn, vc, rfl⟩ := row_form ho
  try rw [Nat.zero_add, List.nil_append] at ho
  have HO := hid ho
  have HB := hid (none_below hg)
  have HC2 := hid (HC.out.low HB.out)
  clear ho hg hi hz0 hz1 hz2 i0
  have wq : w2.cell? ⟨qb, 0, none⟩ = some (.slice none 0 0) := cell_of_row _ _ 0 _ _ _ HC2.out.box
  have wf : w2.frozen? ⟨qb, 0, none⟩ = false := frz_row HC2.out.box 0
  go_upto_region 3 with fail
  clear wq wf
  have HCN := hid (cst_first HC.out rfl rfl HB.out 0 (.slice va vn vc) (.slice va vn vc) nl nl ⟨p.tx, [], [], [], [], dp, lp⟩ rfl rfl rfl (by have h := HO.out; rw [HL0.out] at h; exact h) (World.ownsRow_nil _ _ _ _) (World.ownsRow_nil _ _ _ _))
  clear HC HC2 HO HB HRD HBS
  have HC := HCN
  clear HCN
  generalize w2.setCell ⟨qb, 0, none⟩ (.slice va vn vc) = W1 at *
  have HV0 := hid (show ∃ a n c, Value.slice va vn vc = .slice a n c from ⟨_, _, _, rfl⟩)
  generalize hvv : Value.slice va vn vc = v0 at *
  clear hvv
  obtain ⟨i0, hi, hz0, hz1, hz2⟩ := info_parts info_i
  have wq : W1.cell? ⟨qb, 1, none⟩ = some (.slice none 0 0) := cell_of_row _ _ 1 _ _ _ HC.out.box
  have wa : W1.cell? ⟨ab, 1, none⟩ = some (.slice a1 L1 c1) := cell_of_row _ _ 1 _ _ _ HC.out.arg
  have HRD := hid (R1.out.low HC.out.bl)
  have HBS := hid (show w.heap.size ≤ W1.heap.size from HC.out.bl.size)
  go_wp2_with (at_builtin; go_loud (refine wpl_app rfl _ _ 25 rfl w.heap.size 3 i0 (.int .i64 0) 1 8 Try.underlying25 hi hz0 hz1 hz2 rfl (by decide) (.slice none 0 0) 0 [] rfl (World.ownsRow_nil _ _ _ _) a1 L1 c1 (p.nu.map (Value.int .i64)) rfl (fun h => ⟨HN1.out h, by rcases HRD.out with h0 | ⟨_, _, e, _⟩; (have := HL1.out; (try simp only [List.length_map] at h0); omega); (rw [h] at e; cases e)⟩) (by rw [List.length_map, HL1.out, Nat.mul_one]) (rdv_news HRD.out) (by intro u hu; simp at hu; obtain ⟨z, _, rfl⟩ := hu; rfl) (by unfold maxLen; omega) (by omega) HBS.out ?_))
  clear wq wa
  intro v' w2 ho hg
  obtain ⟨va, vn, vc, rfl⟩ := row_form ho
  try rw [Nat.zero_add, List.nil_append] at ho
  have HO := hid ho
  have HB := hid (none_below hg)
  have HC2 := hid (HC.out.low HB.out)
  clear ho hg hi hz0 hz1 hz2 i0
  have wq : w2.cell? ⟨qb, 1, none⟩ = some (.slice none 0 0) := cell_of_row _ _ 1 _ _ _ HC2.out.box
  have wf : w2.frozen? ⟨qb, 1, none⟩ = false := frz_row HC2.out.box 1
  go_upto_region 4 with fail
  clear wq wf
  have HCN := hid (cst_first HC.out rfl rfl HB.out 1 (.slice va vn vc) v0 (.slice va vn vc) nl ⟨p.tx, p.nu, [], [], [], dp, lp⟩ rfl rfl rfl (row_low HC.out.tx HB.out) (by have h := HO.out; rw [HL1.out] at h; exact h) (World.ownsRow_nil _ _ _ _))
  clear HC HC2 HO HB HRD HBS
  have HC := HCN
  clear HCN
  generalize w2.setCell ⟨qb, 1, none⟩ (.slice va vn vc) = W2 at *
  have HV1 := hid (show ∃ a n c, Value.slice va vn vc = .slice a n c from ⟨_, _, _, rfl⟩)
  generalize hvv : Value.slice va vn vc = v1 at *
  clear hvv
  obtain ⟨i0, hi, hz0, hz1, hz2⟩ := info_parts info_c
  have wq : W2.cell? ⟨qb, 4, none⟩ = some (.slice none 0 0) := cell_of_row _ _ 4 _ _ _ HC.out.box
  have wa : W2.cell? ⟨ab, 4, none⟩ = some (.slice a4 L4 c4) := cell_of_row _ _ 4 _ _ _ HC.out.arg
  have HRD := hid (R4.out.low HC.out.bl)
  have HBS := hid (show w.heap.size ≤ W2.heap.size from HC.out.bl.size)
  go_wp2_with (at_builtin; go_loud (refine wpl_app rfl _ _ 28 rfl w.heap.size 68 i0 (.agg #[.int .i64 0, .int .i64 0, .int .i64 0, .int .i64 0]) 4 32 Try.underlying28 hi hz0 hz1 hz2 rfl (by decide) (.slice none 0 0) 0 [] rfl (World.ownsRow_nil _ _ _ _) a4 L4 c4 (insX p.cd) rfl (fun h => ⟨HN4.out h, by rcases HRD.out with h0 | ⟨_, _, e, _⟩; (have := HL4.out; (try simp only [List.length_map] at h0); omega); (rw [h] at e; cases e)⟩) (by rw [insX_len, HL4.out]) (rdc_news HRD.out) (insX_one _) (by unfold maxLen; omega) (by omega) HBS.out ?_))
  clear wq wa
  intro v' w2 ho hg
  obtain ⟨va, vn, vc, rfl⟩ := row_form ho
  try rw [Nat.zero_add, List.nil_append] at ho
  have HO := hid ho
  have HB := hid (none_below hg)
  have HC2 := hid (HC.out.low HB.out)
  clear ho hg hi hz0 hz1 hz2 i0
  have wq : w2.cell? ⟨qb, 4, none⟩ = some (.slice none 0 0) := cell_of_row _ _ 4 _ _ _ HC2.out.box
  have wf : w2.frozen? ⟨qb, 4, none⟩ = false := frz_row HC2.out.box 4
  go_upto_region 5 with fail
  clear wq wf
  have HCN := hid (cst_first HC.out rfl rfl HB.out 4 (.slice va vn vc) v0 v1 (.slice va vn vc) ⟨p.tx, p.nu, [], [], p.cd, dp, lp⟩ rfl rfl rfl (row_low HC.out.tx HB.out) (row_low HC.out.nu HB.out) (by have h := HO.out; rw [HL4.out] at h; exact h))
  clear HC HC2 HO HB HRD HBS
  have HC := HCN
  clear HCN
  generalize w2.setCell ⟨qb, 4, none⟩ (.slice va vn vc) = W3 at *
  have HV4 := hid (show ∃ a n c, Value.slice va vn vc = .slice a n c from ⟨_, _, _, rfl⟩)
  generalize hvv : Value.slice va vn vc = v4 at *
  clear hvv
  go_wp2_with fail
  go_loopw [4] (fun i wr => ∃ (k : Nat) (vv : Value), k ≤ L2 ∧ i = .int .i64 k ∧ Hid (Cst w wr ab rb qb #[.slice a0 L0 c0, .slice a1 L1 c1, .slice a2 L2 c2, .slice a3 L3 c3, .slice a4 L4 c4, .int .i64 dp, .int .i64 lp] v0 v1 vv nl v4 ⟨p.tx, p.nu, p.st.take k, [], p.cd, dp, lp⟩)) (fun i _ => L2 - (intOf i).toNat)
  case atStart => exact ⟨0, _, Nat.zero_le _, rfl, hid (by simpa using HC.out)⟩
  case round =>
    obtain ⟨k, v2, hk, rfl, HCW⟩ := hrel
    by_cases hlt : k < L2
    · have g1 : (k : Int) < (L2 : Int) := by omega
      have g2 : (0 : Int) ≤ (k : Int) := by omega
      obtain ⟨vs, hr0, hw0⟩ := HCW.out.st
      obtain ⟨qa, qn, qc, rfl⟩ := row_form hr0
      clear hr0 hw0
      obtain ⟨b, off, ea, ec, hae, hbb, hcc, hnn, hrr⟩ := rdn_at R2.out (show k < p.st.length from by rw [← HL2.out]; exact hlt)
      have HAE := hid hae
      clear hae
      have HNN := hid hnn
      have HRR := hid hrr
      obtain ⟨n, hn⟩ : ∃ n, n = (p.st.getD k []).length := ⟨_, rfl⟩
      rw [← hn] at hcc
      have HNL := hid hn
      have hn8 : n < 8388608 := by rw [hn]; exact HSM.out.sk k (by rw [← HL2.out]; exact hlt)
      have HCC := hid (fun (Y : World) (hY : Below w.heap.size w Y) => (hY.cell (p := ⟨b, off + k, none⟩) hbb).trans hcc)
      have HTK := hid (show p.st.take (k + 1) = p.st.take k ++ [p.st.getD k []] from by
        rw [List.take_add_one, List.getD_eq_getElem?_getD, List.getElem?_eq_getElem (by rw [← HL2.out]; exact hlt)]; rfl)
      clear hbb hcc hnn hrr hn
      have MS := hid (show ∀ Y, Below w.heap.size w Y → Y.heap[ab]? = some (.cells #[.slice a0 L0 c0, .slice a1 L1 c1, .slice a2 L2 c2, .slice a3 L3 c3, .slice a4 L4 c4, .int .i64 dp, .int .i64 lp] 30 (0, 0)) → (fun Y : World => Y.cell? ⟨ab, 2, none⟩ = some (.slice (some ⟨b, off, none⟩) L2 c2) ∧ Y.cell? ⟨b, off + k, none⟩ = some (.slice ea n ec)) Y from fun Y h1 h2 => ⟨by rw [← HAE.out]; exact cell_of_row _ _ 2 _ _ _ h2, HCC.out Y h1⟩)
      have HCZ := hid (HCW.out.low (drew_below wr 1))
      have wa : wr.cell? ⟨ab, 2, none⟩ = some (.slice (some ⟨b, off, none⟩) L2 c2) := by rw [← HAE.out]; exact cell_of_row _ _ 2 _ _ _ HCW.out.arg
      go_upto_region 8 with fail
      clear wa
      refine wp_region_held_drew (S := (fun Y : World => Y.cell? ⟨ab, 2, none⟩ = some (.slice (some ⟨b, off, none⟩) L2 c2) ∧ Y.cell? ⟨b, off + k, none⟩ = some (.slice ea n ec))) (by kernel_rfl) ?_ (fun hHeld => ?_)
      · exact MS.out _ HCZ.out.bl HCZ.out.arg
      have HCZ := hid (show Cst w wr.drew ab rb qb _ _ _ _ _ _ _ from HCZ.out)
      generalize wr.drew = Z at *
      obtain ⟨vs, hr0, hw0⟩ := HCZ.out.st
      have HR0 := hid hr0
      have HW0 := hid hw0
      clear hr0 hw0 HCW
      refine wpAnyH_take (i := 0) (v := ?_) rfl (by kernel_rfl) (by kernel_rfl) (by kernel_rfl) (fun _ _ _ h => h) (Or.inl ⟨by rfl, ?_⟩) (by assumption) ?_
      rotate_left
      · (intro w hSw; (try dsimp only at hSw); go_simp; try with_reducible rfl)
      try simp only [Act.put, List.setIfInBounds_toArray, List.set_cons_zero, List.set_cons_succ]
      refine wpAnyH_take (i := 3) (v := ?_) rfl (by kernel_rfl) (by kernel_rfl) (by kernel_rfl) (fun _ _ _ h => h) (Or.inl ⟨by rfl, ?_⟩) (by assumption) ?_
      rotate_left
      · (intro w hSw; (try dsimp only at hSw); go_simp; try with_reducible rfl)
      try simp only [Act.put, List.setIfInBounds_toArray, List.set_cons_zero, List.set_cons_succ]
      refine wpAnyH_take (i := 4) (v := ?_) rfl (by kernel_rfl) (by kernel_rfl) (by kernel_rfl) (fun _ _ _ h => h) (Or.inl ⟨by rfl, ?_⟩) (by assumption) ?_
      rotate_left
      · (intro w hSw; (try dsimp only at hSw); go_simp; try with_reducible rfl)
      try simp only [Act.put, List.setIfInBounds_toArray, List.set_cons_zero, List.set_cons_succ]
      refine wpAnyH_take (i := 5) (v := ?_) rfl (by kernel_rfl) (by kernel_rfl) (by kernel_rfl) (fun _ _ _ h => h) (Or.inl ⟨by rfl, ?_⟩) (by assumption) ?_
      rotate_left
      · (intro w hSw; (try dsimp only at hSw); go_simp; try with_reducible rfl)
      try simp only [Act.put, List.setIfInBounds_toArray, List.set_cons_zero, List.set_cons_succ]
      refine wpAnyH_take (i := 6) (v := ?_) rfl (by kernel_rfl) (by kernel_rfl) (by kernel_rfl) (fun _ _ _ h => h) (Or.inl ⟨by rfl, ?_⟩) (by assumption) ?_
      rotate_left
      · (intro w hSw; (try dsimp only at hSw); go_simp; try with_reducible rfl)
      try simp only [Act.put, List.setIfInBounds_toArray, List.set_cons_zero, List.set_cons_succ]
      refine wpAnyH_take (i := 7) (v := ?_) rfl (by kernel_rfl) (by kernel_rfl) (by kernel_rfl) (fun _ _ _ h => h) (Or.inl ⟨by rfl, ?_⟩) (by assumption) ?_
      rotate_left
      · (intro w hSw; (try dsimp only at hSw); go_simp; try with_reducible rfl)
      try simp only [Act.put, List.setIfInBounds_toArray, List.set_cons_zero, List.set_cons_succ]
      refine wpAnyH_ready (rs := [1, 2]) (by kernel_rfl) (by simp) ?_
      refine AllReadyH.cons rfl (fun K hK => ?_) ?_
      · have wc : Z.cell? ⟨qb, 2, none⟩ = some (.slice qa qn qc) := cell_of_row _ _ 2 _ _ _ HCZ.out.box
        go_simp
        clear wc
        refine hK.out _ _ ?_ (fun hHeld => ?_)
        · exact MS.out _ HCZ.out.bl HCZ.out.arg
        clear hK K hHeld
        try simp only [Act.put, List.setIfInBounds_toArray, List.set_cons_zero, List.set_cons_succ]
        have hHeld : (fun Y : World => Y.cell? ⟨ab, 2, none⟩ = some (.slice (some ⟨b, off, none⟩) L2 c2) ∧ Y.cell? ⟨b, off + k, none⟩ = some (.slice ea n ec))  Z := MS.out _ HCZ.out.bl HCZ.out.arg
        refine wpAnyH_ready (rs := [2]) (by kernel_rfl) (by simp) ?_
        refine AllReadyH.cons rfl (fun K hK => ?_) AllReadyH.nil
        go_simp
        refine hK.out _ _ ?_ (fun hHeld => ?_)
        · exact MS.out _ (HCZ.out.low (belowA Z _)).bl (HCZ.out.low (belowA Z _)).arg
        clear hK K hHeld
        try simp only [Act.put, List.setIfInBounds_toArray, List.set_cons_zero, List.set_cons_succ]
        have hHeld : (fun Y : World => Y.cell? ⟨ab, 2, none⟩ = some (.slice (some ⟨b, off, none⟩) L2 c2) ∧ Y.cell? ⟨b, off + k, none⟩ = some (.slice ea n ec))  (Z.alloc (.cells #[] 9)) := MS.out _ (HCZ.out.low (belowA Z _)).bl (HCZ.out.low (belowA Z _)).arg
        refine wpAnyH_ready (rs := [8]) (by kernel_rfl) (by simp) ?_
        refine AllReadyH.cons rfl (fun K hK => ?_) AllReadyH.nil
        rw [if_pos (by rfl)]
        obtain ⟨i1, hi, hz0, hz1, hz2⟩ := info_parts info_s
        refine wp_app _ _ 24 rfl Z.heap.size 9 i1 (.string ⟨#[]⟩) 1 16 Try.underlying24 hi hz0 hz1 hz2 rfl (by decide) (.slice (some ⟨Z.heap.size, 0, none⟩) 0 0) 0 [] rfl (World.ownsRow_made Z #[] 0 (Nat.le_refl _) (Nat.zero_le _) rfl) ea n ec ((p.st.getD k []).map Value.string) rfl (fun h => ⟨HNN.out h, by rcases HRR.out with h0 | ⟨_, _, e, _⟩; (have := HNL.out; (try simp only [List.length_map] at h0); omega); (rw [h] at e; cases e)⟩) (by rw [List.length_map, HNL.out, Nat.mul_one]) (rdv_news (HRR.out.low (bch HCZ.out.bl (belowA Z _)))) (by intro u hu; simp at hu; obtain ⟨z, _, rfl⟩ := hu; rfl) (by unfold maxLen; omega) (by omega) (by simp) ?_
        clear hi hz0 hz1 hz2 i1
        intro vx w2 hx hg
        obtain ⟨xa, xn, xc, rfl⟩ := row_form hx
        try rw [Nat.zero_add, List.nil_append] at hx
        have HX := hid hx
        have HL2 := hid (show Below Z.heap.size Z w2 from ⟨hg.os, hg.tape, hg.output, Nat.le_trans (belowA Z _).size hg.size, fun j hj => (hg.block j (Nat.lt_of_lt_of_le hj (belowA Z _).size) (fun e => by have e2 : j = Z.heap.size := Option.some.inj e; omega)).trans ((belowA Z _).block j hj)⟩)
        have HC2 := hid (HCZ.out.low HL2.out)
        clear hx hg
        refine hK.out _ _ ?_ (fun hHeld => ?_)
        · exact MS.out _ HC2.out.bl HC2.out.arg
        clear hK K hHeld
        try simp only [Act.put, List.setIfInBounds_toArray, List.set_cons_zero, List.set_cons_succ]
        have hHeld : (fun Y : World => Y.cell? ⟨ab, 2, none⟩ = some (.slice (some ⟨b, off, none⟩) L2 c2) ∧ Y.cell? ⟨b, off + k, none⟩ = some (.slice ea n ec))  w2 := MS.out _ HC2.out.bl HC2.out.arg
        refine wpAnyH_ready (rs := [9]) (by kernel_rfl) (by simp) ?_
        refine AllReadyH.cons rfl (fun K hK => ?_) AllReadyH.nil
        go_simp
        refine hK.out _ _ ?_ (fun hHeld => ?_)
        · exact MS.out _ (HC2.out.low (belowA w2 _)).bl (HC2.out.low (belowA w2 _)).arg
        clear hK K hHeld
        try simp only [Act.put, List.setIfInBounds_toArray, List.set_cons_zero, List.set_cons_succ]
        have hHeld : (fun Y : World => Y.cell? ⟨ab, 2, none⟩ = some (.slice (some ⟨b, off, none⟩) L2 c2) ∧ Y.cell? ⟨b, off + k, none⟩ = some (.slice ea n ec))  (w2.alloc (.cells #[.slice xa xn xc] 24)) := MS.out _ (HC2.out.low (belowA w2 _)).bl (HC2.out.low (belowA w2 _)).arg
        refine wpAnyH_ready (rs := [10]) (by kernel_rfl) (by simp) ?_
        refine AllReadyH.cons rfl (fun K hK => ?_) AllReadyH.nil
        rw [if_pos (by rfl)]
        obtain ⟨i1, hi, hz0, hz1, hz2⟩ := info_parts info_ss
        refine wp_append_own _ _ _ 26 rfl w.heap.size 24 i1 (.slice none 0 0) 1 24 Try.underlying26 hi hz0 hz1 hz2 rfl (by decide) (.slice qa qn qc) (p.st.take k).length vs rfl (World.ownsRow.alloc (row_low HR0.out HL2.out) (.cells #[.slice xa xn xc] 24)) ⟨w2.heap.size, 0, none⟩ 1 1 [.slice xa xn xc] rfl rfl (cell_one_new w2 _ _) (fun u hu => by simp at hu; subst hu; rfl) (by rw [List.length_take]; unfold maxLen; omega) (by rw [List.length_take]; omega) (by have h1 := HC2.out.bl.size; simp; omega) ?_
        clear hi hz0 hz1 hz2 i1
        intro v' w4 ho4 hg4 _
        obtain ⟨ra, rn, rc, rfl⟩ := row_form ho4
        have HST := hid (cst_st (x := p.st.getD k []) HCZ.out HR0.out HW0.out HL2.out (by have h := HX.out; rw [HNL.out] at h; exact h) HCZ.out.bl.size ho4 (grow_alloc hg4))
        clear ho4 hg4 HX HL2 HC2
        refine hK.out _ _ ?_ (fun hHeld => ?_)
        · exact MS.out _ HST.out.2.1 HST.out.2.2.1
        clear hK K hHeld
        try simp only [Act.put, List.setIfInBounds_toArray, List.set_cons_zero, List.set_cons_succ]
        have hHeld : (fun Y : World => Y.cell? ⟨ab, 2, none⟩ = some (.slice (some ⟨b, off, none⟩) L2 c2) ∧ Y.cell? ⟨b, off + k, none⟩ = some (.slice ea n ec))  w4 := MS.out _ HST.out.2.1 HST.out.2.2.1
        refine wpAnyH_take (i := 11) (v := ?_) rfl (by kernel_rfl) (by kernel_rfl) (by kernel_rfl) (fun _ _ _ h => h) (Or.inl ⟨by rfl, ?_⟩) (by assumption) ?_
        rotate_left
        · (intro w hSw; (try dsimp only at hSw); go_simp; try with_reducible rfl)
        try simp only [Act.put, List.setIfInBounds_toArray, List.set_cons_zero, List.set_cons_succ]
        refine wpAnyH_ready (rs := [12]) (by kernel_rfl) (by simp) ?_
        refine AllReadyH.cons rfl (fun K hK => ?_) AllReadyH.nil
        have wc : w4.cell? ⟨qb, 2, none⟩ = some (.slice qa qn qc) := cell_of_row _ _ 2 _ _ _ HST.out.1
        have wf : w4.frozen? ⟨qb, 2, none⟩ = false := frz_row HST.out.1 2
        go_simp
        clear wc wf hHeld
        have HCN := hid HST.out.2.2.2
        clear HST
        generalize w4.setCell ⟨qb, 2, none⟩ (.slice ra rn rc) = U at *
        refine hK.out _ _ ?_ (fun hHeld => ?_)
        · exact MS.out _ HCN.out.bl HCN.out.arg
        clear hK K hHeld
        try simp only [Act.put, List.setIfInBounds_toArray, List.set_cons_zero, List.set_cons_succ]
        refine wpAnyH_done (by kernel_rfl) ?_ _
        go_wp2_with fail
        exact ⟨⟨k + 1, .slice ra rn rc, by omega, by go_num, hid (by rw [HTK.out]; exact HCN.out)⟩, by simp [intOf]; omega⟩
      refine AllReadyH.cons rfl (fun K hK => ?_) AllReadyH.nil
      go_simp
      refine hK.out _ _ ?_ (fun hHeld => ?_)
      · exact MS.out _ (HCZ.out.low (belowA Z _)).bl (HCZ.out.low (belowA Z _)).arg
      clear hK K hHeld
      try simp only [Act.put, List.setIfInBounds_toArray, List.set_cons_zero, List.set_cons_succ]
      have hHeld : (fun Y : World => Y.cell? ⟨ab, 2, none⟩ = some (.slice (some ⟨b, off, none⟩) L2 c2) ∧ Y.cell? ⟨b, off + k, none⟩ = some (.slice ea n ec))  (Z.alloc (.cells #[] 9)) := MS.out _ (HCZ.out.low (belowA Z _)).bl (HCZ.out.low (belowA Z _)).arg
      refine wpAnyH_ready (rs := [1, 8]) (by kernel_rfl) (by simp) ?_
      refine AllReadyH.cons rfl (fun K hK => ?_) ?_
      · have wc : (Z.alloc (.cells #[] 9)).cell? ⟨qb, 2, none⟩ = some (.slice qa qn qc) := cell_of_row _ _ 2 _ _ _ (HCZ.out.low (belowA Z _)).box
        go_simp
        clear wc
        refine hK.out _ _ ?_ (fun hHeld => ?_)
        · exact MS.out _ (HCZ.out.low (belowA Z _)).bl (HCZ.out.low (belowA Z _)).arg
        clear hK K hHeld
        try simp only [Act.put, List.setIfInBounds_toArray, List.set_cons_zero, List.set_cons_succ]
        have hHeld : (fun Y : World => Y.cell? ⟨ab, 2, none⟩ = some (.slice (some ⟨b, off, none⟩) L2 c2) ∧ Y.cell? ⟨b, off + k, none⟩ = some (.slice ea n ec))  (Z.alloc (.cells #[] 9)) := MS.out _ (HCZ.out.low (belowA Z _)).bl (HCZ.out.low (belowA Z _)).arg
        refine wpAnyH_ready (rs := [8]) (by kernel_rfl) (by simp) ?_
        refine AllReadyH.cons rfl (fun K hK => ?_) AllReadyH.nil
        rw [if_pos (by rfl)]
        obtain ⟨i1, hi, hz0, hz1, hz2⟩ := info_parts info_s
        refine wp_app _ _ 24 rfl Z.heap.size 9 i1 (.string ⟨#[]⟩) 1 16 Try.underlying24 hi hz0 hz1 hz2 rfl (by decide) (.slice (some ⟨Z.heap.size, 0, none⟩) 0 0) 0 [] rfl (World.ownsRow_made Z #[] 0 (Nat.le_refl _) (Nat.zero_le _) rfl) ea n ec ((p.st.getD k []).map Value.string) rfl (fun h => ⟨HNN.out h, by rcases HRR.out with h0 | ⟨_, _, e, _⟩; (have := HNL.out; (try simp only [List.length_map] at h0); omega); (rw [h] at e; cases e)⟩) (by rw [List.length_map, HNL.out, Nat.mul_one]) (rdv_news (HRR.out.low (bch HCZ.out.bl (belowA Z _)))) (by intro u hu; simp at hu; obtain ⟨z, _, rfl⟩ := hu; rfl) (by unfold maxLen; omega) (by omega) (by simp) ?_
        clear hi hz0 hz1 hz2 i1
        intro vx w2 hx hg
        obtain ⟨xa, xn, xc, rfl⟩ := row_form hx
        try rw [Nat.zero_add, List.nil_append] at hx
        have HX := hid hx
        have HL2 := hid (show Below Z.heap.size Z w2 from ⟨hg.os, hg.tape, hg.output, Nat.le_trans (belowA Z _).size hg.size, fun j hj => (hg.block j (Nat.lt_of_lt_of_le hj (belowA Z _).size) (fun e => by have e2 : j = Z.heap.size := Option.some.inj e; omega)).trans ((belowA Z _).block j hj)⟩)
        have HC2 := hid (HCZ.out.low HL2.out)
        clear hx hg
        refine hK.out _ _ ?_ (fun hHeld => ?_)
        · exact MS.out _ HC2.out.bl HC2.out.arg
        clear hK K hHeld
        try simp only [Act.put, List.setIfInBounds_toArray, List.set_cons_zero, List.set_cons_succ]
        have hHeld : (fun Y : World => Y.cell? ⟨ab, 2, none⟩ = some (.slice (some ⟨b, off, none⟩) L2 c2) ∧ Y.cell? ⟨b, off + k, none⟩ = some (.slice ea n ec))  w2 := MS.out _ HC2.out.bl HC2.out.arg
        refine wpAnyH_ready (rs := [9]) (by kernel_rfl) (by simp) ?_
        refine AllReadyH.cons rfl (fun K hK => ?_) AllReadyH.nil
        go_simp
        refine hK.out _ _ ?_ (fun hHeld => ?_)
        · exact MS.out _ (HC2.out.low (belowA w2 _)).bl (HC2.out.low (belowA w2 _)).arg
        clear hK K hHeld
        try simp only [Act.put, List.setIfInBounds_toArray, List.set_cons_zero, List.set_cons_succ]
        have hHeld : (fun Y : World => Y.cell? ⟨ab, 2, none⟩ = some (.slice (some ⟨b, off, none⟩) L2 c2) ∧ Y.cell? ⟨b, off + k, none⟩ = some (.slice ea n ec))  (w2.alloc (.cells #[.slice xa xn xc] 24)) := MS.out _ (HC2.out.low (belowA w2 _)).bl (HC2.out.low (belowA w2 _)).arg
        refine wpAnyH_ready (rs := [10]) (by kernel_rfl) (by simp) ?_
        refine AllReadyH.cons rfl (fun K hK => ?_) AllReadyH.nil
        rw [if_pos (by rfl)]
        obtain ⟨i1, hi, hz0, hz1, hz2⟩ := info_parts info_ss
        refine wp_append_own _ _ _ 26 rfl w.heap.size 24 i1 (.slice none 0 0) 1 24 Try.underlying26 hi hz0 hz1 hz2 rfl (by decide) (.slice qa qn qc) (p.st.take k).length vs rfl (World.ownsRow.alloc (row_low HR0.out HL2.out) (.cells #[.slice xa xn xc] 24)) ⟨w2.heap.size, 0, none⟩ 1 1 [.slice xa xn xc] rfl rfl (cell_one_new w2 _ _) (fun u hu => by simp at hu; subst hu; rfl) (by rw [List.length_take]; unfold maxLen; omega) (by rw [List.length_take]; omega) (by have h1 := HC2.out.bl.size; simp; omega) ?_
        clear hi hz0 hz1 hz2 i1
        intro v' w4 ho4 hg4 _
        obtain ⟨ra, rn, rc, rfl⟩ := row_form ho4
        have HST := hid (cst_st (x := p.st.getD k []) HCZ.out HR0.out HW0.out HL2.out (by have h := HX.out; rw [HNL.out] at h; exact h) HCZ.out.bl.size ho4 (grow_alloc hg4))
        clear ho4 hg4 HX HL2 HC2
        refine hK.out _ _ ?_ (fun hHeld => ?_)
        · exact MS.out _ HST.out.2.1 HST.out.2.2.1
        clear hK K hHeld
        try simp only [Act.put, List.setIfInBounds_toArray, List.set_cons_zero, List.set_cons_succ]
        have hHeld : (fun Y : World => Y.cell? ⟨ab, 2, none⟩ = some (.slice (some ⟨b, off, none⟩) L2 c2) ∧ Y.cell? ⟨b, off + k, none⟩ = some (.slice ea n ec))  w4 := MS.out _ HST.out.2.1 HST.out.2.2.1
        refine wpAnyH_take (i := 11) (v := ?_) rfl (by kernel_rfl) (by kernel_rfl) (by kernel_rfl) (fun _ _ _ h => h) (Or.inl ⟨by rfl, ?_⟩) (by assumption) ?_
        rotate_left
        · (intro w hSw; (try dsimp only at hSw); go_simp; try with_reducible rfl)
        try simp only [Act.put, List.setIfInBounds_toArray, List.set_cons_zero, List.set_cons_succ]
        refine wpAnyH_ready (rs := [12]) (by kernel_rfl) (by simp) ?_
        refine AllReadyH.cons rfl (fun K hK => ?_) AllReadyH.nil
        have wc : w4.cell? ⟨qb, 2, none⟩ = some (.slice qa qn qc) := cell_of_row _ _ 2 _ _ _ HST.out.1
        have wf : w4.frozen? ⟨qb, 2, none⟩ = false := frz_row HST.out.1 2
        go_simp
        clear wc wf hHeld
        have HCN := hid HST.out.2.2.2
        clear HST
        generalize w4.setCell ⟨qb, 2, none⟩ (.slice ra rn rc) = U at *
        refine hK.out _ _ ?_ (fun hHeld => ?_)
        · exact MS.out _ HCN.out.bl HCN.out.arg
        clear hK K hHeld
        try simp only [Act.put, List.setIfInBounds_toArray, List.set_cons_zero, List.set_cons_succ]
        refine wpAnyH_done (by kernel_rfl) ?_ _
        go_wp2_with fail
        exact ⟨⟨k + 1, .slice ra rn rc, by omega, by go_num, hid (by rw [HTK.out]; exact HCN.out)⟩, by simp [intOf]; omega⟩
      refine AllReadyH.cons rfl (fun K hK => ?_) AllReadyH.nil
      rw [if_pos (by rfl)]
      obtain ⟨i1, hi, hz0, hz1, hz2⟩ := info_parts info_s
      refine wp_app _ _ 24 rfl Z.heap.size 9 i1 (.string ⟨#[]⟩) 1 16 Try.underlying24 hi hz0 hz1 hz2 rfl (by decide) (.slice (some ⟨Z.heap.size, 0, none⟩) 0 0) 0 [] rfl (World.ownsRow_made Z #[] 0 (Nat.le_refl _) (Nat.zero_le _) rfl) ea n ec ((p.st.getD k []).map Value.string) rfl (fun h => ⟨HNN.out h, by rcases HRR.out with h0 | ⟨_, _, e, _⟩; (have := HNL.out; (try simp only [List.length_map] at h0); omega); (rw [h] at e; cases e)⟩) (by rw [List.length_map, HNL.out, Nat.mul_one]) (rdv_news (HRR.out.low (bch HCZ.out.bl (belowA Z _)))) (by intro u hu; simp at hu; obtain ⟨z, _, rfl⟩ := hu; rfl) (by unfold maxLen; omega) (by omega) (by simp) ?_
      clear hi hz0 hz1 hz2 i1
      intro vx w2 hx hg
      obtain ⟨xa, xn, xc, rfl⟩ := row_form hx
      try rw [Nat.zero_add, List.nil_append] at hx
      have HX := hid hx
      have HL2 := hid (show Below Z.heap.size Z w2 from ⟨hg.os, hg.tape, hg.output, Nat.le_trans (belowA Z _).size hg.size, fun j hj => (hg.block j (Nat.lt_of_lt_of_le hj (belowA Z _).size) (fun e => by have e2 : j = Z.heap.size := Option.some.inj e; omega)).trans ((belowA Z _).block j hj)⟩)
      have HC2 := hid (HCZ.out.low HL2.out)
      clear hx hg
      refine hK.out _ _ ?_ (fun hHeld => ?_)
      · exact MS.out _ HC2.out.bl HC2.out.arg
      clear hK K hHeld
      try simp only [Act.put, List.setIfInBounds_toArray, List.set_cons_zero, List.set_cons_succ]
      have hHeld : (fun Y : World => Y.cell? ⟨ab, 2, none⟩ = some (.slice (some ⟨b, off, none⟩) L2 c2) ∧ Y.cell? ⟨b, off + k, none⟩ = some (.slice ea n ec))  w2 := MS.out _ HC2.out.bl HC2.out.arg
      refine wpAnyH_ready (rs := [1, 9]) (by kernel_rfl) (by simp) ?_
      refine AllReadyH.cons rfl (fun K hK => ?_) ?_
      · have wc : w2.cell? ⟨qb, 2, none⟩ = some (.slice qa qn qc) := cell_of_row _ _ 2 _ _ _ HC2.out.box
        go_simp
        clear wc
        refine hK.out _ _ ?_ (fun hHeld => ?_)
        · exact MS.out _ HC2.out.bl HC2.out.arg
        clear hK K hHeld
        try simp only [Act.put, List.setIfInBounds_toArray, List.set_cons_zero, List.set_cons_succ]
        have hHeld : (fun Y : World => Y.cell? ⟨ab, 2, none⟩ = some (.slice (some ⟨b, off, none⟩) L2 c2) ∧ Y.cell? ⟨b, off + k, none⟩ = some (.slice ea n ec))  w2 := MS.out _ HC2.out.bl HC2.out.arg
        refine wpAnyH_ready (rs := [9]) (by kernel_rfl) (by simp) ?_
        refine AllReadyH.cons rfl (fun K hK => ?_) AllReadyH.nil
        go_simp
        refine hK.out _ _ ?_ (fun hHeld => ?_)
        · exact MS.out _ (HC2.out.low (belowA w2 _)).bl (HC2.out.low (belowA w2 _)).arg
        clear hK K hHeld
        try simp only [Act.put, List.setIfInBounds_toArray, List.set_cons_zero, List.set_cons_succ]
        have hHeld : (fun Y : World => Y.cell? ⟨ab, 2, none⟩ = some (.slice (some ⟨b, off, none⟩) L2 c2) ∧ Y.cell? ⟨b, off + k, none⟩ = some (.slice ea n ec))  (w2.alloc (.cells #[.slice xa xn xc] 24)) := MS.out _ (HC2.out.low (belowA w2 _)).bl (HC2.out.low (belowA w2 _)).arg
        refine wpAnyH_ready (rs := [10]) (by kernel_rfl) (by simp) ?_
        refine AllReadyH.cons rfl (fun K hK => ?_) AllReadyH.nil
        rw [if_pos (by rfl)]
        obtain ⟨i1, hi, hz0, hz1, hz2⟩ := info_parts info_ss
        refine wp_append_own _ _ _ 26 rfl w.heap.size 24 i1 (.slice none 0 0) 1 24 Try.underlying26 hi hz0 hz1 hz2 rfl (by decide) (.slice qa qn qc) (p.st.take k).length vs rfl (World.ownsRow.alloc (row_low HR0.out HL2.out) (.cells #[.slice xa xn xc] 24)) ⟨w2.heap.size, 0, none⟩ 1 1 [.slice xa xn xc] rfl rfl (cell_one_new w2 _ _) (fun u hu => by simp at hu; subst hu; rfl) (by rw [List.length_take]; unfold maxLen; omega) (by rw [List.length_take]; omega) (by have h1 := HC2.out.bl.size; simp; omega) ?_
        clear hi hz0 hz1 hz2 i1
        intro v' w4 ho4 hg4 _
        obtain ⟨ra, rn, rc, rfl⟩ := row_form ho4
        have HST := hid (cst_st (x := p.st.getD k []) HCZ.out HR0.out HW0.out HL2.out (by have h := HX.out; rw [HNL.out] at h; exact h) HCZ.out.bl.size ho4 (grow_alloc hg4))
        clear ho4 hg4 HX HL2 HC2
        refine hK.out _ _ ?_ (fun hHeld => ?_)
        · exact MS.out _ HST.out.2.1 HST.out.2.2.1
        clear hK K hHeld
        try simp only [Act.put, List.setIfInBounds_toArray, List.set_cons_zero, List.set_cons_succ]
        have hHeld : (fun Y : World => Y.cell? ⟨ab, 2, none⟩ = some (.slice (some ⟨b, off, none⟩) L2 c2) ∧ Y.cell? ⟨b, off + k, none⟩ = some (.slice ea n ec))  w4 := MS.out _ HST.out.2.1 HST.out.2.2.1
        refine wpAnyH_take (i := 11) (v := ?_) rfl (by kernel_rfl) (by kernel_rfl) (by kernel_rfl) (fun _ _ _ h => h) (Or.inl ⟨by rfl, ?_⟩) (by assumption) ?_
        rotate_left
        · (intro w hSw; (try dsimp only at hSw); go_simp; try with_reducible rfl)
        try simp only [Act.put, List.setIfInBounds_toArray, List.set_cons_zero, List.set_cons_succ]
        refine wpAnyH_ready (rs := [12]) (by kernel_rfl) (by simp) ?_
        refine AllReadyH.cons rfl (fun K hK => ?_) AllReadyH.nil
        have wc : w4.cell? ⟨qb, 2, none⟩ = some (.slice qa qn qc) := cell_of_row _ _ 2 _ _ _ HST.out.1
        have wf : w4.frozen? ⟨qb, 2, none⟩ = false := frz_row HST.out.1 2
        go_simp
        clear wc wf hHeld
        have HCN := hid HST.out.2.2.2
        clear HST
        generalize w4.setCell ⟨qb, 2, none⟩ (.slice ra rn rc) = U at *
        refine hK.out _ _ ?_ (fun hHeld => ?_)
        · exact MS.out _ HCN.out.bl HCN.out.arg
        clear hK K hHeld
        try simp only [Act.put, List.setIfInBounds_toArray, List.set_cons_zero, List.set_cons_succ]
        refine wpAnyH_done (by kernel_rfl) ?_ _
        go_wp2_with fail
        exact ⟨⟨k + 1, .slice ra rn rc, by omega, by go_num, hid (by rw [HTK.out]; exact HCN.out)⟩, by simp [intOf]; omega⟩
      refine AllReadyH.cons rfl (fun K hK => ?_) AllReadyH.nil
      go_simp
      refine hK.out _ _ ?_ (fun hHeld => ?_)
      · exact MS.out _ (HC2.out.low (belowA w2 _)).bl (HC2.out.low (belowA w2 _)).arg
      clear hK K hHeld
      try simp only [Act.put, List.setIfInBounds_toArray, List.set_cons_zero, List.set_cons_succ]
      have hHeld : (fun Y : World => Y.cell? ⟨ab, 2, none⟩ = some (.slice (some ⟨b, off, none⟩) L2 c2) ∧ Y.cell? ⟨b, off + k, none⟩ = some (.slice ea n ec))  (w2.alloc (.cells #[.slice xa xn xc] 24)) := MS.out _ (HC2.out.low (belowA w2 _)).bl (HC2.out.low (belowA w2 _)).arg
      refine wpAnyH_ready (rs := [1]) (by kernel_rfl) (by simp) ?_
      refine AllReadyH.cons rfl (fun K hK => ?_) AllReadyH.nil
      have wc : (w2.alloc (.cells #[.slice xa xn xc] 24)).cell? ⟨qb, 2, none⟩ = some (.slice qa qn qc) := cell_of_row _ _ 2 _ _ _ (HC2.out.low (belowA w2 _)).box
      go_simp
      clear wc
      refine hK.out _ _ ?_ (fun hHeld => ?_)
      · exact MS.out _ (HC2.out.low (belowA w2 _)).bl (HC2.out.low (belowA w2 _)).arg
      clear hK K hHeld
      try simp only [Act.put, List.setIfInBounds_toArray, List.set_cons_zero, List.set_cons_succ]
      have hHeld : (fun Y : World => Y.cell? ⟨ab, 2, none⟩ = some (.slice (some ⟨b, off, none⟩) L2 c2) ∧ Y.cell? ⟨b, off + k, none⟩ = some (.slice ea n ec))  (w2.alloc (.cells #[.slice xa xn xc] 24)) := MS.out _ (HC2.out.low (belowA w2 _)).bl (HC2.out.low (belowA w2 _)).arg
      refine wpAnyH_ready (rs := [10]) (by kernel_rfl) (by simp) ?_
      refine AllReadyH.cons rfl (fun K hK => ?_) AllReadyH.nil
      rw [if_pos (by rfl)]
      obtain ⟨i1, hi, hz0, hz1, hz2⟩ := info_parts info_ss
      refine wp_append_own _ _ _ 26 rfl w.heap.size 24 i1 (.slice none 0 0) 1 24 Try.underlying26 hi hz0 hz1 hz2 rfl (by decide) (.slice qa qn qc) (p.st.take k).length vs rfl (World.ownsRow.alloc (row_low HR0.out HL2.out) (.cells #[.slice xa xn xc] 24)) ⟨w2.heap.size, 0, none⟩ 1 1 [.slice xa xn xc] rfl rfl (cell_one_new w2 _ _) (fun u hu => by simp at hu; subst hu; rfl) (by rw [List.length_take]; unfold maxLen; omega) (by rw [List.length_take]; omega) (by have h1 := HC2.out.bl.size; simp; omega) ?_
      clear hi hz0 hz1 hz2 i1
      intro v' w4 ho4 hg4 _
      obtain ⟨ra, rn, rc, rfl⟩ := row_form ho4
      have HST := hid (cst_st (x := p.st.getD k []) HCZ.out HR0.out HW0.out HL2.out (by have h := HX.out; rw [HNL.out] at h; exact h) HCZ.out.bl.size ho4 (grow_alloc hg4))
      clear ho4 hg4 HX HL2 HC2
      refine hK.out _ _ ?_ (fun hHeld => ?_)
      · exact MS.out _ HST.out.2.1 HST.out.2.2.1
      clear hK K hHeld
      try simp only [Act.put, List.setIfInBounds_toArray, List.set_cons_zero, List.set_cons_succ]
      have hHeld : (fun Y : World => Y.cell? ⟨ab, 2, none⟩ = some (.slice (some ⟨b, off, none⟩) L2 c2) ∧ Y.cell? ⟨b, off + k, none⟩ = some (.slice ea n ec))  w4 := MS.out _ HST.out.2.1 HST.out.2.2.1
      refine wpAnyH_take (i := 11) (v := ?_) rfl (by kernel_rfl) (by kernel_rfl) (by kernel_rfl) (fun _ _ _ h => h) (Or.inl ⟨by rfl, ?_⟩) (by assumption) ?_
      rotate_left
      · (intro w hSw; (try dsimp only at hSw); go_simp; try with_reducible rfl)
      try simp only [Act.put, List.setIfInBounds_toArray, List.set_cons_zero, List.set_cons_succ]
      refine wpAnyH_ready (rs := [12]) (by kernel_rfl) (by simp) ?_
      refine AllReadyH.cons rfl (fun K hK => ?_) AllReadyH.nil
      have wc : w4.cell? ⟨qb, 2, none⟩ = some (.slice qa qn qc) := cell_of_row _ _ 2 _ _ _ HST.out.1
      have wf : w4.frozen? ⟨qb, 2, none⟩ = false := frz_row HST.out.1 2
      go_simp
      clear wc wf hHeld
      have HCN := hid HST.out.2.2.2
      clear HST
      generalize w4.setCell ⟨qb, 2, none⟩ (.slice ra rn rc) = U at *
      refine hK.out _ _ ?_ (fun hHeld => ?_)
      · exact MS.out _ HCN.out.bl HCN.out.arg
      clear hK K hHeld
      try simp only [Act.put, List.setIfInBounds_toArray, List.set_cons_zero, List.set_cons_succ]
      refine wpAnyH_done (by kernel_rfl) ?_ _
      go_wp2_with fail
      exact ⟨⟨k + 1, .slice ra rn rc, by omega, by go_num, hid (by rw [HTK.out]; exact HCN.out)⟩, by simp [intOf]; omega⟩
    · obtain rfl : L2 = k := by omega
      have g1 : ¬ (L2 : Int) < (L2 : Int) := by omega
      have HCN := hid (show Cst w wr ab rb qb #[.slice a0 L0 c0, .slice a1 L1 c1, .slice a2 L2 c2, .slice a3 L3 c3, .slice a4 L4 c4, .int .i64 dp, .int .i64 lp] v0 v1 v2 nl v4 ⟨p.tx, p.nu, p.st, [], p.cd, dp, lp⟩ from by have h := HCW.out; rw [show p.st.take L2 = p.st from by rw [HL2.out, List.take_length]] at h; exact h)
      clear HCW
      have HC := HCN
      clear HCN
      have HV2 := hid (show ∃ a n c, v2 = .slice a n c from by obtain ⟨vs, h, _⟩ := HC.out.st; exact row_form h)
      have wa : wr.cell? ⟨ab, 2, none⟩ = some (.slice a2 L2 c2) := cell_of_row _ _ 2 _ _ _ HC.out.arg
      go_wp2_with fail
      clear wa
      go_loopw [5] (fun i wr => ∃ (k : Nat) (vv : Value), k ≤ L3 ∧ i = .int .i64 k ∧ Hid (Cst w wr ab rb qb #[.slice a0 L0 c0, .slice a1 L1 c1, .slice a2 L2 c2, .slice a3 L3 c3, .slice a4 L4 c4, .int .i64 dp, .int .i64 lp] v0 v1 v2 vv v4 ⟨p.tx, p.nu, p.st, p.ns.take k, p.cd, dp, lp⟩)) (fun i _ => L3 - (intOf i).toNat)
      case atStart => exact ⟨0, _, Nat.zero_le _, rfl, hid (by simpa using HC.out)⟩
      case round =>
        obtain ⟨k, v3, hk, rfl, HCW⟩ := hrel
        by_cases hlt : k < L3
        · have g1 : (k : Int) < (L3 : Int) := by omega
          have g2 : (0 : Int) ≤ (k : Int) := by omega
          obtain ⟨vs, hr0, hw0⟩ := HCW.out.ns
          obtain ⟨qa, qn, qc, rfl⟩ := row_form hr0
          clear hr0 hw0
          obtain ⟨b, off, ea, ec, hae, hbb, hcc, hnn, hrr⟩ := rdn_at R3.out (show k < p.ns.length from by rw [← HL3.out]; exact hlt)
          have HAE := hid hae
          clear hae
          have HNN := hid hnn
          have HRR := hid hrr
          obtain ⟨n, hn⟩ : ∃ n, n = (p.ns.getD k []).length := ⟨_, rfl⟩
          rw [← hn] at hcc
          have HNL := hid hn
          have hn8 : n < 8388608 := by rw [hn]; exact HSM.out.nk k (by rw [← HL3.out]; exact hlt)
          have HCC := hid (fun (Y : World) (hY : Below w.heap.size w Y) => (hY.cell (p := ⟨b, off + k, none⟩) hbb).trans hcc)
          have HTK := hid (show p.ns.take (k + 1) = p.ns.take k ++ [p.ns.getD k []] from by
            rw [List.take_add_one, List.getD_eq_getElem?_getD, List.getElem?_eq_getElem (by rw [← HL3.out]; exact hlt)]; rfl)
          clear hbb hcc hnn hrr hn
          have MS := hid (show ∀ Y, Below w.heap.size w Y → Y.heap[ab]? = some (.cells #[.slice a0 L0 c0, .slice a1 L1 c1, .slice a2 L2 c2, .slice a3 L3 c3, .slice a4 L4 c4, .int .i64 dp, .int .i64 lp] 30 (0, 0)) → (fun Y : World => Y.cell? ⟨ab, 3, none⟩ = some (.slice (some ⟨b, off, none⟩) L3 c3) ∧ Y.cell? ⟨b, off + k, none⟩ = some (.slice ea n ec)) Y from fun Y h1 h2 => ⟨by rw [← HAE.out]; exact cell_of_row _ _ 3 _ _ _ h2, HCC.out Y h1⟩)
          have HCZ := hid (HCW.out.low (drew_below wr 1))
          have wa : wr.cell? ⟨ab, 3, none⟩ = some (.slice (some ⟨b, off, none⟩) L3 c3) := by rw [← HAE.out]; exact cell_of_row _ _ 3 _ _ _ HCW.out.arg
          go_upto_region 12 with fail
          clear wa
          refine wp_region_held_drew (S := (fun Y : World => Y.cell? ⟨ab, 3, none⟩ = some (.slice (some ⟨b, off, none⟩) L3 c3) ∧ Y.cell? ⟨b, off + k, none⟩ = some (.slice ea n ec))) (by kernel_rfl) ?_ (fun hHeld => ?_)
          · exact MS.out _ HCZ.out.bl HCZ.out.arg
          have HCZ := hid (show Cst w wr.drew ab rb qb _ _ _ _ _ _ _ from HCZ.out)
          generalize wr.drew = Z at *
          obtain ⟨vs, hr0, hw0⟩ := HCZ.out.ns
          have HR0 := hid hr0
          have HW0 := hid hw0
          clear hr0 hw0 HCW
          refine wpAnyH_take (i := 0) (v := ?_) rfl (by kernel_rfl) (by kernel_rfl) (by kernel_rfl) (fun _ _ _ h => h) (Or.inl ⟨by rfl, ?_⟩) (by assumption) ?_
          rotate_left
          · (intro w hSw; (try dsimp only at hSw); go_simp; try with_reducible rfl)
          try simp only [Act.put, List.setIfInBounds_toArray, List.set_cons_zero, List.set_cons_succ]
          refine wpAnyH_take (i := 3) (v := ?_) rfl (by kernel_rfl) (by kernel_rfl) (by kernel_rfl) (fun _ _ _ h => h) (Or.inl ⟨by rfl, ?_⟩) (by assumption) ?_
          rotate_left
          · (intro w hSw; (try dsimp only at hSw); go_simp; try with_reducible rfl)
          try simp only [Act.put, List.setIfInBounds_toArray, List.set_cons_zero, List.set_cons_succ]
          refine wpAnyH_take (i := 4) (v := ?_) rfl (by kernel_rfl) (by kernel_rfl) (by kernel_rfl) (fun _ _ _ h => h) (Or.inl ⟨by rfl, ?_⟩) (by assumption) ?_
          rotate_left
          · (intro w hSw; (try dsimp only at hSw); go_simp; try with_reducible rfl)
          try simp only [Act.put, List.setIfInBounds_toArray, List.set_cons_zero, List.set_cons_succ]
          refine wpAnyH_take (i := 5) (v := ?_) rfl (by kernel_rfl) (by kernel_rfl) (by kernel_rfl) (fun _ _ _ h => h) (Or.inl ⟨by rfl, ?_⟩) (by assumption) ?_
          rotate_left
          · (intro w hSw; (try dsimp only at hSw); go_simp; try with_reducible rfl)
          try simp only [Act.put, List.setIfInBounds_toArray, List.set_cons_zero, List.set_cons_succ]
          refine wpAnyH_take (i := 6) (v := ?_) rfl (by kernel_rfl) (by kernel_rfl) (by kernel_rfl) (fun _ _ _ h => h) (Or.inl ⟨by rfl, ?_⟩) (by assumption) ?_
          rotate_left
          · (intro w hSw; (try dsimp only at hSw); go_simp; try with_reducible rfl)
          try simp only [Act.put, List.setIfInBounds_toArray, List.set_cons_zero, List.set_cons_succ]
          refine wpAnyH_take (i := 7) (v := ?_) rfl (by kernel_rfl) (by kernel_rfl) (by kernel_rfl) (fun _ _ _ h => h) (Or.inl ⟨by rfl, ?_⟩) (by assumption) ?_
          rotate_left
          · (intro w hSw; (try dsimp only at hSw); go_simp; try with_reducible rfl)
          try simp only [Act.put, List.setIfInBounds_toArray, List.set_cons_zero, List.set_cons_succ]
          refine wpAnyH_ready (rs := [1, 2]) (by kernel_rfl) (by simp) ?_
          refine AllReadyH.cons rfl (fun K hK => ?_) ?_
          · have wc : Z.cell? ⟨qb, 3, none⟩ = some (.slice qa qn qc) := cell_of_row _ _ 3 _ _ _ HCZ.out.box
            go_simp
            clear wc
            refine hK.out _ _ ?_ (fun hHeld => ?_)
            · exact MS.out _ HCZ.out.bl HCZ.out.arg
            clear hK K hHeld
            try simp only [Act.put, List.setIfInBounds_toArray, List.set_cons_zero, List.set_cons_succ]
            have hHeld : (fun Y : World => Y.cell? ⟨ab, 3, none⟩ = some (.slice (some ⟨b, off, none⟩) L3 c3) ∧ Y.cell? ⟨b, off + k, none⟩ = some (.slice ea n ec))  Z := MS.out _ HCZ.out.bl HCZ.out.arg
            refine wpAnyH_ready (rs := [2]) (by kernel_rfl) (by simp) ?_
            refine AllReadyH.cons rfl (fun K hK => ?_) AllReadyH.nil
            go_simp
            refine hK.out _ _ ?_ (fun hHeld => ?_)
            · exact MS.out _ (HCZ.out.low (belowA Z _)).bl (HCZ.out.low (belowA Z _)).arg
            clear hK K hHeld
            try simp only [Act.put, List.setIfInBounds_toArray, List.set_cons_zero, List.set_cons_succ]
            have hHeld : (fun Y : World => Y.cell? ⟨ab, 3, none⟩ = some (.slice (some ⟨b, off, none⟩) L3 c3) ∧ Y.cell? ⟨b, off + k, none⟩ = some (.slice ea n ec))  (Z.alloc (.cells #[] 3)) := MS.out _ (HCZ.out.low (belowA Z _)).bl (HCZ.out.low (belowA Z _)).arg
            refine wpAnyH_ready (rs := [8]) (by kernel_rfl) (by simp) ?_
            refine AllReadyH.cons rfl (fun K hK => ?_) AllReadyH.nil
            rw [if_pos (by rfl)]
            obtain ⟨i1, hi, hz0, hz1, hz2⟩ := info_parts info_i
            refine wp_app _ _ 25 rfl Z.heap.size 3 i1 (.int .i64 0) 1 8 Try.underlying25 hi hz0 hz1 hz2 rfl (by decide) (.slice (some ⟨Z.heap.size, 0, none⟩) 0 0) 0 [] rfl (World.ownsRow_made Z #[] 0 (Nat.le_refl _) (Nat.zero_le _) rfl) ea n ec ((p.ns.getD k []).map (Value.int .i64)) rfl (fun h => ⟨HNN.out h, by rcases HRR.out with h0 | ⟨_, _, e, _⟩; (have := HNL.out; (try simp only [List.length_map] at h0); omega); (rw [h] at e; cases e)⟩) (by rw [List.length_map, HNL.out, Nat.mul_one]) (rdv_news (HRR.out.low (bch HCZ.out.bl (belowA Z _)))) (by intro u hu; simp at hu; obtain ⟨z, _, rfl⟩ := hu; rfl) (by unfold maxLen; omega) (by omega) (by simp) ?_
            clear hi hz0 hz1 hz2 i1
            intro vx w2 hx hg
            obtain ⟨xa, xn, xc, rfl⟩ := row_form hx
            try rw [Nat.zero_add, List.nil_append] at hx
            have HX := hid hx
            have HL2 := hid (show Below Z.heap.size Z w2 from ⟨hg.os, hg.tape, hg.output, Nat.le_trans (belowA Z _).size hg.size, fun j hj => (hg.block j (Nat.lt_of_lt_of_le hj (belowA Z _).size) (fun e => by have e2 : j = Z.heap.size := Option.some.inj e; omega)).trans ((belowA Z _).block j hj)⟩)
            have HC2 := hid (HCZ.out.low HL2.out)
            clear hx hg
            refine hK.out _ _ ?_ (fun hHeld => ?_)
            · exact MS.out _ HC2.out.bl HC2.out.arg
            clear hK K hHeld
            try simp only [Act.put, List.setIfInBounds_toArray, List.set_cons_zero, List.set_cons_succ]
            have hHeld : (fun Y : World => Y.cell? ⟨ab, 3, none⟩ = some (.slice (some ⟨b, off, none⟩) L3 c3) ∧ Y.cell? ⟨b, off + k, none⟩ = some (.slice ea n ec))  w2 := MS.out _ HC2.out.bl HC2.out.arg
            refine wpAnyH_ready (rs := [9]) (by kernel_rfl) (by simp) ?_
            refine AllReadyH.cons rfl (fun K hK => ?_) AllReadyH.nil
            go_simp
            refine hK.out _ _ ?_ (fun hHeld => ?_)
            · exact MS.out _ (HC2.out.low (belowA w2 _)).bl (HC2.out.low (belowA w2 _)).arg
            clear hK K hHeld
            try simp only [Act.put, List.setIfInBounds_toArray, List.set_cons_zero, List.set_cons_succ]
            have hHeld : (fun Y : World => Y.cell? ⟨ab, 3, none⟩ = some (.slice (some ⟨b, off, none⟩) L3 c3) ∧ Y.cell? ⟨b, off + k, none⟩ = some (.slice ea n ec))  (w2.alloc (.cells #[.slice xa xn xc] 25)) := MS.out _ (HC2.out.low (belowA w2 _)).bl (HC2.out.low (belowA w2 _)).arg
            refine wpAnyH_ready (rs := [10]) (by kernel_rfl) (by simp) ?_
            refine AllReadyH.cons rfl (fun K hK => ?_) AllReadyH.nil
            rw [if_pos (by rfl)]
            obtain ⟨i1, hi, hz0, hz1, hz2⟩ := info_parts info_is
            refine wp_append_own _ _ _ 27 rfl w.heap.size 25 i1 (.slice none 0 0) 1 24 Try.underlying27 hi hz0 hz1 hz2 rfl (by decide) (.slice qa qn qc) (p.ns.take k).length vs rfl (World.ownsRow.alloc (row_low HR0.out HL2.out) (.cells #[.slice xa xn xc] 25)) ⟨w2.heap.size, 0, none⟩ 1 1 [.slice xa xn xc] rfl rfl (cell_one_new w2 _ _) (fun u hu => by simp at hu; subst hu; rfl) (by rw [List.length_take]; unfold maxLen; omega) (by rw [List.length_take]; omega) (by have h1 := HC2.out.bl.size; simp; omega) ?_
            clear hi hz0 hz1 hz2 i1
            intro v' w4 ho4 hg4 _
            obtain ⟨ra, rn, rc, rfl⟩ := row_form ho4
            have HST := hid (cst_ns (x := p.ns.getD k []) HCZ.out HR0.out HW0.out HL2.out (by have h := HX.out; rw [HNL.out] at h; exact h) HCZ.out.bl.size ho4 (grow_alloc hg4))
            clear ho4 hg4 HX HL2 HC2
            refine hK.out _ _ ?_ (fun hHeld => ?_)
            · exact MS.out _ HST.out.2.1 HST.out.2.2.1
            clear hK K hHeld
            try simp only [Act.put, List.setIfInBounds_toArray, List.set_cons_zero, List.set_cons_succ]
            have hHeld : (fun Y : World => Y.cell? ⟨ab, 3, none⟩ = some (.slice (some ⟨b, off, none⟩) L3 c3) ∧ Y.cell? ⟨b, off + k, none⟩ = some (.slice ea n ec))  w4 := MS.out _ HST.out.2.1 HST.out.2.2.1
            refine wpAnyH_take (i := 11) (v := ?_) rfl (by kernel_rfl) (by kernel_rfl) (by kernel_rfl) (fun _ _ _ h => h) (Or.inl ⟨by rfl, ?_⟩) (by assumption) ?_
            rotate_left
            · (intro w hSw; (try dsimp only at hSw); go_simp; try with_reducible rfl)
            try simp only [Act.put, List.setIfInBounds_toArray, List.set_cons_zero, List.set_cons_succ]
            refine wpAnyH_ready (rs := [12]) (by kernel_rfl) (by simp) ?_
            refine AllReadyH.cons rfl (fun K hK => ?_) AllReadyH.nil
            have wc : w4.cell? ⟨qb, 3, none⟩ = some (.slice qa qn qc) := cell_of_row _ _ 3 _ _ _ HST.out.1
            have wf : w4.frozen? ⟨qb, 3, none⟩ = false := frz_row HST.out.1 3
            go_simp
            clear wc wf hHeld
            have HCN := hid HST.out.2.2.2
            clear HST
            generalize w4.setCell ⟨qb, 3, none⟩ (.slice ra rn rc) = U at *
            refine hK.out _ _ ?_ (fun hHeld => ?_)
            · exact MS.out _ HCN.out.bl HCN.out.arg
            clear hK K hHeld
            try simp only [Act.put, List.setIfInBounds_toArray, List.set_cons_zero, List.set_cons_succ]
            refine wpAnyH_done (by kernel_rfl) ?_ _
            go_wp2_with fail
            exact ⟨⟨k + 1, .slice ra rn rc, by omega, by go_num, hid (by rw [HTK.out]; exact HCN.out)⟩, by simp [intOf]; omega⟩
          refine AllReadyH.cons rfl (fun K hK => ?_) AllReadyH.nil
          go_simp
          refine hK.out _ _ ?_ (fun hHeld => ?_)
          · exact MS.out _ (HCZ.out.low (belowA Z _)).bl (HCZ.out.low (belowA Z _)).arg
          clear hK K hHeld
          try simp only [Act.put, List.setIfInBounds_toArray, List.set_cons_zero, List.set_cons_succ]
          have hHeld : (fun Y : World => Y.cell? ⟨ab, 3, none⟩ = some (.slice (some ⟨b, off, none⟩) L3 c3) ∧ Y.cell? ⟨b, off + k, none⟩ = some (.slice ea n ec))  (Z.alloc (.cells #[] 3)) := MS.out _ (HCZ.out.low (belowA Z _)).bl (HCZ.out.low (belowA Z _)).arg
          refine wpAnyH_ready (rs := [1, 8]) (by kernel_rfl) (by simp) ?_
          refine AllReadyH.cons rfl (fun K hK => ?_) ?_
          · have wc : (Z.alloc (.cells #[] 3)).cell? ⟨qb, 3, none⟩ = some (.slice qa qn qc) := cell_of_row _ _ 3 _ _ _ (HCZ.out.low (belowA Z _)).box
            go_simp
            clear wc
            refine hK.out _ _ ?_ (fun hHeld => ?_)
            · exact MS.out _ (HCZ.out.low (belowA Z _)).bl (HCZ.out.low (belowA Z _)).arg
            clear hK K hHeld
            try simp only [Act.put, List.setIfInBounds_toArray, List.set_cons_zero, List.set_cons_succ]
            have hHeld : (fun Y : World => Y.cell? ⟨ab, 3, none⟩ = some (.slice (some ⟨b, off, none⟩) L3 c3) ∧ Y.cell? ⟨b, off + k, none⟩ = some (.slice ea n ec))  (Z.alloc (.cells #[] 3)) := MS.out _ (HCZ.out.low (belowA Z _)).bl (HCZ.out.low (belowA Z _)).arg
            refine wpAnyH_ready (rs := [8]) (by kernel_rfl) (by simp) ?_
            refine AllReadyH.cons rfl (fun K hK => ?_) AllReadyH.nil
            rw [if_pos (by rfl)]
            obtain ⟨i1, hi, hz0, hz1, hz2⟩ := info_parts info_i
            refine wp_app _ _ 25 rfl Z.heap.size 3 i1 (.int .i64 0) 1 8 Try.underlying25 hi hz0 hz1 hz2 rfl (by decide) (.slice (some ⟨Z.heap.size, 0, none⟩) 0 0) 0 [] rfl (World.ownsRow_made Z #[] 0 (Nat.le_refl _) (Nat.zero_le _) rfl) ea n ec ((p.ns.getD k []).map (Value.int .i64)) rfl (fun h => ⟨HNN.out h, by rcases HRR.out with h0 | ⟨_, _, e, _⟩; (have := HNL.out; (try simp only [List.length_map] at h0); omega); (rw [h] at e; cases e)⟩) (by rw [List.length_map, HNL.out, Nat.mul_one]) (rdv_news (HRR.out.low (bch HCZ.out.bl (belowA Z _)))) (by intro u hu; simp at hu; obtain ⟨z, _, rfl⟩ := hu; rfl) (by unfold maxLen; omega) (by omega) (by simp) ?_
            clear hi hz0 hz1 hz2 i1
            intro vx w2 hx hg
            obtain ⟨xa, xn, xc, rfl⟩ := row_form hx
            try rw [Nat.zero_add, List.nil_append] at hx
            have HX := hid hx
            have HL2 := hid (show Below Z.heap.size Z w2 from ⟨hg.os, hg.tape, hg.output, Nat.le_trans (belowA Z _).size hg.size, fun j hj => (hg.block j (Nat.lt_of_lt_of_le hj (belowA Z _).size) (fun e => by have e2 : j = Z.heap.size := Option.some.inj e; omega)).trans ((belowA Z _).block j hj)⟩)
            have HC2 := hid (HCZ.out.low HL2.out)
            clear hx hg
            refine hK.out _ _ ?_ (fun hHeld => ?_)
            · exact MS.out _ HC2.out.bl HC2.out.arg
            clear hK K hHeld
            try simp only [Act.put, List.setIfInBounds_toArray, List.set_cons_zero, List.set_cons_succ]
            have hHeld : (fun Y : World => Y.cell? ⟨ab, 3, none⟩ = some (.slice (some ⟨b, off, none⟩) L3 c3) ∧ Y.cell? ⟨b, off + k, none⟩ = some (.slice ea n ec))  w2 := MS.out _ HC2.out.bl HC2.out.arg
            refine wpAnyH_ready (rs := [9]) (by kernel_rfl) (by simp) ?_
            refine AllReadyH.cons rfl (fun K hK => ?_) AllReadyH.nil
            go_simp
            refine hK.out _ _ ?_ (fun hHeld => ?_)
            · exact MS.out _ (HC2.out.low (belowA w2 _)).bl (HC2.out.low (belowA w2 _)).arg
            clear hK K hHeld
            try simp only [Act.put, List.setIfInBounds_toArray, List.set_cons_zero, List.set_cons_succ]
            have hHeld : (fun Y : World => Y.cell? ⟨ab, 3, none⟩ = some (.slice (some ⟨b, off, none⟩) L3 c3) ∧ Y.cell? ⟨b, off + k, none⟩ = some (.slice ea n ec))  (w2.alloc (.cells #[.slice xa xn xc] 25)) := MS.out _ (HC2.out.low (belowA w2 _)).bl (HC2.out.low (belowA w2 _)).arg
            refine wpAnyH_ready (rs := [10]) (by kernel_rfl) (by simp) ?_
            refine AllReadyH.cons rfl (fun K hK => ?_) AllReadyH.nil
            rw [if_pos (by rfl)]
            obtain ⟨i1, hi, hz0, hz1, hz2⟩ := info_parts info_is
            refine wp_append_own _ _ _ 27 rfl w.heap.size 25 i1 (.slice none 0 0) 1 24 Try.underlying27 hi hz0 hz1 hz2 rfl (by decide) (.slice qa qn qc) (p.ns.take k).length vs rfl (World.ownsRow.alloc (row_low HR0.out HL2.out) (.cells #[.slice xa xn xc] 25)) ⟨w2.heap.size, 0, none⟩ 1 1 [.slice xa xn xc] rfl rfl (cell_one_new w2 _ _) (fun u hu => by simp at hu; subst hu; rfl) (by rw [List.length_take]; unfold maxLen; omega) (by rw [List.length_take]; omega) (by have h1 := HC2.out.bl.size; simp; omega) ?_
            clear hi hz0 hz1 hz2 i1
            intro v' w4 ho4 hg4 _
            obtain ⟨ra, rn, rc, rfl⟩ := row_form ho4
            have HST := hid (cst_ns (x := p.ns.getD k []) HCZ.out HR0.out HW0.out HL2.out (by have h := HX.out; rw [HNL.out] at h; exact h) HCZ.out.bl.size ho4 (grow_alloc hg4))
            clear ho4 hg4 HX HL2 HC2
            refine hK.out _ _ ?_ (fun hHeld => ?_)
            · exact MS.out _ HST.out.2.1 HST.out.2.2.1
            clear hK K hHeld
            try simp only [Act.put, List.setIfInBounds_toArray, List.set_cons_zero, List.set_cons_succ]
            have hHeld : (fun Y : World => Y.cell? ⟨ab, 3, none⟩ = some (.slice (some ⟨b, off, none⟩) L3 c3) ∧ Y.cell? ⟨b, off + k, none⟩ = some (.slice ea n ec))  w4 := MS.out _ HST.out.2.1 HST.out.2.2.1
            refine wpAnyH_take (i := 11) (v := ?_) rfl (by kernel_rfl) (by kernel_rfl) (by kernel_rfl) (fun _ _ _ h => h) (Or.inl ⟨by rfl, ?_⟩) (by assumption) ?_
            rotate_left
            · (intro w hSw; (try dsimp only at hSw); go_simp; try with_reducible rfl)
            try simp only [Act.put, List.setIfInBounds_toArray, List.set_cons_zero, List.set_cons_succ]
            refine wpAnyH_ready (rs := [12]) (by kernel_rfl) (by simp) ?_
            refine AllReadyH.cons rfl (fun K hK => ?_) AllReadyH.nil
            have wc : w4.cell? ⟨qb, 3, none⟩ = some (.slice qa qn qc) := cell_of_row _ _ 3 _ _ _ HST.out.1
            have wf : w4.frozen? ⟨qb, 3, none⟩ = false := frz_row HST.out.1 3
            go_simp
            clear wc wf hHeld
            have HCN := hid HST.out.2.2.2
            clear HST
            generalize w4.setCell ⟨qb, 3, none⟩ (.slice ra rn rc) = U at *
            refine hK.out _ _ ?_ (fun hHeld => ?_)
            · exact MS.out _ HCN.out.bl HCN.out.arg
            clear hK K hHeld
            try simp only [Act.put, List.setIfInBounds_toArray, List.set_cons_zero, List.set_cons_succ]
            refine wpAnyH_done (by kernel_rfl) ?_ _
            go_wp2_with fail
            exact ⟨⟨k + 1, .slice ra rn rc, by omega, by go_num, hid (by rw [HTK.out]; exact HCN.out)⟩, by simp [intOf]; omega⟩
          refine AllReadyH.cons rfl (fun K hK => ?_) AllReadyH.nil
          rw [if_pos (by rfl)]
          obtain ⟨i1, hi, hz0, hz1, hz2⟩ := info_parts info_i
          refine wp_app _ _ 25 rfl Z.heap.size 3 i1 (.int .i64 0) 1 8 Try.underlying25 hi hz0 hz1 hz2 rfl (by decide) (.slice (some ⟨Z.heap.size, 0, none⟩) 0 0) 0 [] rfl (World.ownsRow_made Z #[] 0 (Nat.le_refl _) (Nat.zero_le _) rfl) ea n ec ((p.ns.getD k []).map (Value.int .i64)) rfl (fun h => ⟨HNN.out h, by rcases HRR.out with h0 | ⟨_, _, e, _⟩; (have := HNL.out; (try simp only [List.length_map] at h0); omega); (rw [h] at e; cases e)⟩) (by rw [List.length_map, HNL.out, Nat.mul_one]) (rdv_news (HRR.out.low (bch HCZ.out.bl (belowA Z _)))) (by intro u hu; simp at hu; obtain ⟨z, _, rfl⟩ := hu; rfl) (by unfold maxLen; omega) (by omega) (by simp) ?_
          clear hi hz0 hz1 hz2 i1
          intro vx w2 hx hg
          obtain ⟨xa, xn, xc, rfl⟩ := row_form hx
          try rw [Nat.zero_add, List.nil_append] at hx
          have HX := hid hx
          have HL2 := hid (show Below Z.heap.size Z w2 from ⟨hg.os, hg.tape, hg.output, Nat.le_trans (belowA Z _).size hg.size, fun j hj => (hg.block j (Nat.lt_of_lt_of_le hj (belowA Z _).size) (fun e => by have e2 : j = Z.heap.size := Option.some.inj e; omega)).trans ((belowA Z _).block j hj)⟩)
          have HC2 := hid (HCZ.out.low HL2.out)
          clear hx hg
          refine hK.out _ _ ?_ (fun hHeld => ?_)
          · exact MS.out _ HC2.out.bl HC2.out.arg
          clear hK K hHeld
          try simp only [Act.put, List.setIfInBounds_toArray, List.set_cons_zero, List.set_cons_succ]
          have hHeld : (fun Y : World => Y.cell? ⟨ab, 3, none⟩ = some (.slice (some ⟨b, off, none⟩) L3 c3) ∧ Y.cell? ⟨b, off + k, none⟩ = some (.slice ea n ec))  w2 := MS.out _ HC2.out.bl HC2.out.arg
          refine wpAnyH_ready (rs := [1, 9]) (by kernel_rfl) (by simp) ?_
          refine AllReadyH.cons rfl (fun K hK => ?_) ?_
          · have wc : w2.cell? ⟨qb, 3, none⟩ = some (.slice qa qn qc) := cell_of_row _ _ 3 _ _ _ HC2.out.box
            go_simp
            clear wc
            refine hK.out _ _ ?_ (fun hHeld => ?_)
            · exact MS.out _ HC2.out.bl HC2.out.arg
            clear hK K hHeld
            try simp only [Act.put, List.setIfInBounds_toArray, List.set_cons_zero, List.set_cons_succ]
            have hHeld : (fun Y : World => Y.cell? ⟨ab, 3, none⟩ = some (.slice (some ⟨b, off, none⟩) L3 c3) ∧ Y.cell? ⟨b, off + k, none⟩ = some (.slice ea n ec))  w2 := MS.out _ HC2.out.bl HC2.out.arg
            refine wpAnyH_ready (rs := [9]) (by kernel_rfl) (by simp) ?_
            refine AllReadyH.cons rfl (fun K hK => ?_) AllReadyH.nil
            go_simp
            refine hK.out _ _ ?_ (fun hHeld => ?_)
            · exact MS.out _ (HC2.out.low (belowA w2 _)).bl (HC2.out.low (belowA w2 _)).arg
            clear hK K hHeld
            try simp only [Act.put, List.setIfInBounds_toArray, List.set_cons_zero, List.set_cons_succ]
            have hHeld : (fun Y : World => Y.cell? ⟨ab, 3, none⟩ = some (.slice (some ⟨b, off, none⟩) L3 c3) ∧ Y.cell? ⟨b, off + k, none⟩ = some (.slice ea n ec))  (w2.alloc (.cells #[.slice xa xn xc] 25)) := MS.out _ (HC2.out.low (belowA w2 _)).bl (HC2.out.low (belowA w2 _)).arg
            refine wpAnyH_ready (rs := [10]) (by kernel_rfl) (by simp) ?_
            refine AllReadyH.cons rfl (fun K hK => ?_) AllReadyH.nil
            rw [if_pos (by rfl)]
            obtain ⟨i1, hi, hz0, hz1, hz2⟩ := info_parts info_is
            refine wp_append_own _ _ _ 27 rfl w.heap.size 25 i1 (.slice none 0 0) 1 24 Try.underlying27 hi hz0 hz1 hz2 rfl (by decide) (.slice qa qn qc) (p.ns.take k).length vs rfl (World.ownsRow.alloc (row_low HR0.out HL2.out) (.cells #[.slice xa xn xc] 25)) ⟨w2.heap.size, 0, none⟩ 1 1 [.slice xa xn xc] rfl rfl (cell_one_new w2 _ _) (fun u hu => by simp at hu; subst hu; rfl) (by rw [List.length_take]; unfold maxLen; omega) (by rw [List.length_take]; omega) (by have h1 := HC2.out.bl.size; simp; omega) ?_
            clear hi hz0 hz1 hz2 i1
            intro v' w4 ho4 hg4 _
            obtain ⟨ra, rn, rc, rfl⟩ := row_form ho4
            have HST := hid (cst_ns (x := p.ns.getD k []) HCZ.out HR0.out HW0.out HL2.out (by have h := HX.out; rw [HNL.out] at h; exact h) HCZ.out.bl.size ho4 (grow_alloc hg4))
            clear ho4 hg4 HX HL2 HC2
            refine hK.out _ _ ?_ (fun hHeld => ?_)
            · exact MS.out _ HST.out.2.1 HST.out.2.2.1
            clear hK K hHeld
            try simp only [Act.put, List.setIfInBounds_toArray, List.set_cons_zero, List.set_cons_succ]
            have hHeld : (fun Y : World => Y.cell? ⟨ab, 3, none⟩ = some (.slice (some ⟨b, off, none⟩) L3 c3) ∧ Y.cell? ⟨b, off + k, none⟩ = some (.slice ea n ec))  w4 := MS.out _ HST.out.2.1 HST.out.2.2.1
            refine wpAnyH_take (i := 11) (v := ?_) rfl (by kernel_rfl) (by kernel_rfl) (by kernel_rfl) (fun _ _ _ h => h) (Or.inl ⟨by rfl, ?_⟩) (by assumption) ?_
            rotate_left
            · (intro w hSw; (try dsimp only at hSw); go_simp; try with_reducible rfl)
            try simp only [Act.put, List.setIfInBounds_toArray, List.set_cons_zero, List.set_cons_succ]
            refine wpAnyH_ready (rs := [12]) (by kernel_rfl) (by simp) ?_
            refine AllReadyH.cons rfl (fun K hK => ?_) AllReadyH.nil
            have wc : w4.cell? ⟨qb, 3, none⟩ = some (.slice qa qn qc) := cell_of_row _ _ 3 _ _ _ HST.out.1
            have wf : w4.frozen? ⟨qb, 3, none⟩ = false := frz_row HST.out.1 3
            go_simp
            clear wc wf hHeld
            have HCN := hid HST.out.2.2.2
            clear HST
            generalize w4.setCell ⟨qb, 3, none⟩ (.slice ra rn rc) = U at *
            refine hK.out _ _ ?_ (fun hHeld => ?_)
            · exact MS.out _ HCN.out.bl HCN.out.arg
            clear hK K hHeld
            try simp only [Act.put, List.setIfInBounds_toArray, List.set_cons_zero, List.set_cons_succ]
            refine wpAnyH_done (by kernel_rfl) ?_ _
            go_wp2_with fail
            exact ⟨⟨k + 1, .slice ra rn rc, by omega, by go_num, hid (by rw [HTK.out]; exact HCN.out)⟩, by simp [intOf]; omega⟩
          refine AllReadyH.cons rfl (fun K hK => ?_) AllReadyH.nil
          go_simp
          refine hK.out _ _ ?_ (fun hHeld => ?_)
          · exact MS.out _ (HC2.out.low (belowA w2 _)).bl (HC2.out.low (belowA w2 _)).arg
          clear hK K hHeld
          try simp only [Act.put, List.setIfInBounds_toArray, List.set_cons_zero, List.set_cons_succ]
          have hHeld : (fun Y : World => Y.cell? ⟨ab, 3, none⟩ = some (.slice (some ⟨b, off, none⟩) L3 c3) ∧ Y.cell? ⟨b, off + k, none⟩ = some (.slice ea n ec))  (w2.alloc (.cells #[.slice xa xn xc] 25)) := MS.out _ (HC2.out.low (belowA w2 _)).bl (HC2.out.low (belowA w2 _)).arg
          refine wpAnyH_ready (rs := [1]) (by kernel_rfl) (by simp) ?_
          refine AllReadyH.cons rfl (fun K hK => ?_) AllReadyH.nil
          have wc : (w2.alloc (.cells #[.slice xa xn xc] 25)).cell? ⟨qb, 3, none⟩ = some (.slice qa qn qc) := cell_of_row _ _ 3 _ _ _ (HC2.out.low (belowA w2 _)).box
          go_simp
          clear wc
          refine hK.out _ _ ?_ (fun hHeld => ?_)
          · exact MS.out _ (HC2.out.low (belowA w2 _)).bl (HC2.out.low (belowA w2 _)).arg
          clear hK K hHeld
          try simp only [Act.put, List.setIfInBounds_toArray, List.set_cons_zero, List.set_cons_succ]
          have hHeld : (fun Y : World => Y.cell? ⟨ab, 3, none⟩ = some (.slice (some ⟨b, off, none⟩) L3 c3) ∧ Y.cell? ⟨b, off + k, none⟩ = some (.slice ea n ec))  (w2.alloc (.cells #[.slice xa xn xc] 25)) := MS.out _ (HC2.out.low (belowA w2 _)).bl (HC2.out.low (belowA w2 _)).arg
          refine wpAnyH_ready (rs := [10]) (by kernel_rfl) (by simp) ?_
          refine AllReadyH.cons rfl (fun K hK => ?_) AllReadyH.nil
          rw [if_pos (by rfl)]
          obtain ⟨i1, hi, hz0, hz1, hz2⟩ := info_parts info_is
          refine wp_append_own _ _ _ 27 rfl w.heap.size 25 i1 (.slice none 0 0) 1 24 Try.underlying27 hi hz0 hz1 hz2 rfl (by decide) (.slice qa qn qc) (p.ns.take k).length vs rfl (World.ownsRow.alloc (row_low HR0.out HL2.out) (.cells #[.slice xa xn xc] 25)) ⟨w2.heap.size, 0, none⟩ 1 1 [.slice xa xn xc] rfl rfl (cell_one_new w2 _ _) (fun u hu => by simp at hu; subst hu; rfl) (by rw [List.length_take]; unfold maxLen; omega) (by rw [List.length_take]; omega) (by have h1 := HC2.out.bl.size; simp; omega) ?_
          clear hi hz0 hz1 hz2 i1
          intro v' w4 ho4 hg4 _
          obtain ⟨ra, rn, rc, rfl⟩ := row_form ho4
          have HST := hid (cst_ns (x := p.ns.getD k []) HCZ.out HR0.out HW0.out HL2.out (by have h := HX.out; rw [HNL.out] at h; exact h) HCZ.out.bl.size ho4 (grow_alloc hg4))
          clear ho4 hg4 HX HL2 HC2
          refine hK.out _ _ ?_ (fun hHeld => ?_)
          · exact MS.out _ HST.out.2.1 HST.out.2.2.1
          clear hK K hHeld
          try simp only [Act.put, List.setIfInBounds_toArray, List.set_cons_zero, List.set_cons_succ]
          have hHeld : (fun Y : World => Y.cell? ⟨ab, 3, none⟩ = some (.slice (some ⟨b, off, none⟩) L3 c3) ∧ Y.cell? ⟨b, off + k, none⟩ = some (.slice ea n ec))  w4 := MS.out _ HST.out.2.1 HST.out.2.2.1
          refine wpAnyH_take (i := 11) (v := ?_) rfl (by kernel_rfl) (by kernel_rfl) (by kernel_rfl) (fun _ _ _ h => h) (Or.inl ⟨by rfl, ?_⟩) (by assumption) ?_
          rotate_left
          · (intro w hSw; (try dsimp only at hSw); go_simp; try with_reducible rfl)
          try simp only [Act.put, List.setIfInBounds_toArray, List.set_cons_zero, List.set_cons_succ]
          refine wpAnyH_ready (rs := [12]) (by kernel_rfl) (by simp) ?_
          refine AllReadyH.cons rfl (fun K hK => ?_) AllReadyH.nil
          have wc : w4.cell? ⟨qb, 3, none⟩ = some (.slice qa qn qc) := cell_of_row _ _ 3 _ _ _ HST.out.1
          have wf : w4.frozen? ⟨qb, 3, none⟩ = false := frz_row HST.out.1 3
          go_simp
          clear wc wf hHeld
          have HCN := hid HST.out.2.2.2
          clear HST
          generalize w4.setCell ⟨qb, 3, none⟩ (.slice ra rn rc) = U at *
          refine hK.out _ _ ?_ (fun hHeld => ?_)
          · exact MS.out _ HCN.out.bl HCN.out.arg
          clear hK K hHeld
          try simp only [Act.put, List.setIfInBounds_toArray, List.set_cons_zero, List.set_cons_succ]
          refine wpAnyH_done (by kernel_rfl) ?_ _
          go_wp2_with fail
          exact ⟨⟨k + 1, .slice ra rn rc, by omega, by go_num, hid (by rw [HTK.out]; exact HCN.out)⟩, by simp [intOf]; omega⟩
        · obtain rfl : L3 = k := by omega
          have g1 : ¬ (L3 : Int) < (L3 : Int) := by omega
          have HCN := hid (show Cst w wr ab rb qb #[.slice a0 L0 c0, .slice a1 L1 c1, .slice a2 L2 c2, .slice a3 L3 c3, .slice a4 L4 c4, .int .i64 dp, .int .i64 lp] v0 v1 v2 v3 v4 ⟨p.tx, p.nu, p.st, p.ns, p.cd, dp, lp⟩ from by have h := HCW.out; rw [show p.ns.take L3 = p.ns from by rw [HL3.out, List.take_length]] at h; exact h)
          clear HCW
          have HC := HCN
          clear HCN
          have HV3 := hid (show ∃ a n c, v3 = .slice a n c from by obtain ⟨vs, h, _⟩ := HC.out.ns; exact row_form h)
          have wa : wr.cell? ⟨ab, 3, none⟩ = some (.slice a3 L3 c3) := cell_of_row _ _ 3 _ _ _ HC.out.arg
          obtain ⟨a0x, n0x, c0x, hv0⟩ := HV0.out
          obtain ⟨a1x, n1x, c1x, hv1⟩ := HV1.out
          obtain ⟨a2x, n2x, c2x, hv2⟩ := HV2.out
          obtain ⟨a3x, n3x, c3x, hv3⟩ := HV3.out
          obtain ⟨a4x, n4x, c4x, hv4⟩ := HV4.out
          subst hv0 hv1 hv2 hv3 hv4
          have x0 : wr.cell? ⟨qb, 0, none⟩ = some (.slice a0x n0x c0x) := cell_of_row _ _ 0 _ _ _ HC.out.box
          have x1 : wr.cell? ⟨qb, 1, none⟩ = some (.slice a1x n1x c1x) := cell_of_row _ _ 1 _ _ _ HC.out.box
          have x2 : wr.cell? ⟨qb, 2, none⟩ = some (.slice a2x n2x c2x) := cell_of_row _ _ 2 _ _ _ HC.out.box
          have x3 : wr.cell? ⟨qb, 3, none⟩ = some (.slice a3x n3x c3x) := cell_of_row _ _ 3 _ _ _ HC.out.box
          have x4 : wr.cell? ⟨qb, 4, none⟩ = some (.slice a4x n4x c4x) := cell_of_row _ _ 4 _ _ _ HC.out.box
          have x5 : wr.cell? ⟨qb, 5, none⟩ = some (.int .i64 dp) := cell_of_row _ _ 5 _ _ _ HC.out.box
          have x6 : wr.cell? ⟨qb, 6, none⟩ = some (.int .i64 lp) := cell_of_row _ _ 6 _ _ _ HC.out.box
          have y0 : wr.cell? ⟨rb, 0, none⟩ = some (.slice none 0 0) := cell_of_row _ _ 0 _ _ _ HC.out.res
          have z0 : wr.frozen? ⟨rb, 0, none⟩ = false := frz_row HC.out.res 0
          have y1 : wr.cell? ⟨rb, 1, none⟩ = some (.slice none 0 0) := cell_of_row _ _ 1 _ _ _ HC.out.res
          have z1 : wr.frozen? ⟨rb, 1, none⟩ = false := frz_row HC.out.res 1
          have y2 : wr.cell? ⟨rb, 2, none⟩ = some (.slice none 0 0) := cell_of_row _ _ 2 _ _ _ HC.out.res
          have z2 : wr.frozen? ⟨rb, 2, none⟩ = false := frz_row HC.out.res 2
          have y3 : wr.cell? ⟨rb, 3, none⟩ = some (.slice none 0 0) := cell_of_row _ _ 3 _ _ _ HC.out.res
          have z3 : wr.frozen? ⟨rb, 3, none⟩ = false := frz_row HC.out.res 3
          have y4 : wr.cell? ⟨rb, 4, none⟩ = some (.slice none 0 0) := cell_of_row _ _ 4 _ _ _ HC.out.res
          have z4 : wr.frozen? ⟨rb, 4, none⟩ = false := frz_row HC.out.res 4
          have y5 : wr.cell? ⟨rb, 5, none⟩ = some (.int .i64 0) := cell_of_row _ _ 5 _ _ _ HC.out.res
          have z5 : wr.frozen? ⟨rb, 5, none⟩ = false := frz_row HC.out.res 5
          have y6 : wr.cell? ⟨rb, 6, none⟩ = some (.int .i64 0) := cell_of_row _ _ 6 _ _ _ HC.out.res
          have z6 : wr.frozen? ⟨rb, 6, none⟩ = false := frz_row HC.out.res 6
          have HS := hid (set7 HC.out.res (.slice a0x n0x c0x) (.slice a1x n1x c1x) (.slice a2x n2x c2x) (.slice a3x n3x c3x) (.slice a4x n4x c4x) (.int .i64 dp) (.int .i64 lp))
          have HBE := hid (below_gb HC.out.bl HS.out.2 HC.out.nr)
          have HPG := hid (cst_pgr (p := p) HC.out HS.out.2 (by rw [← Hdp.out]) (by rw [← Hlp.out]))
          go_wp2_with fail
          generalize (((((((wr.setCell ⟨rb, 0, none⟩ (.slice a0x n0x c0x)).setCell ⟨rb, 1, none⟩ (.slice a1x n1x c1x)).setCell ⟨rb, 2, none⟩ (.slice a2x n2x c2x)).setCell ⟨rb, 3, none⟩ (.slice a3x n3x c3x)).setCell ⟨rb, 4, none⟩ (.slice a4x n4x c4x)).setCell ⟨rb, 5, none⟩ (.int .i64 dp)).setCell ⟨rb, 6, none⟩ (.int .i64 lp)) = U at *
          refine ⟨rfl, .agg #[.slice a0x n0x c0x, .slice a1x n1x c1x, .slice a2x n2x c2x, .slice a3x n3x c3x, .slice a4x n4x c4x, .int .i64 dp, .int .i64 lp], results_cell_row Try.results13 _ U rb 30 #[.slice a0x n0x c0x, .slice a1x n1x c1x, .slice a2x n2x c2x, .slice a3x n3x c3x, .slice a4x n4x c4x, .int .i64 dp, .int .i64 lp] (0, 0) _ rfl HS.out.1 Try.underlying30 rfl infoPg, ?_⟩
          exact ⟨⟨_, rfl, HPG.out⟩, HBE.out⟩
end Go.Proofs.Ytnclpdgbjefpmaa.L
