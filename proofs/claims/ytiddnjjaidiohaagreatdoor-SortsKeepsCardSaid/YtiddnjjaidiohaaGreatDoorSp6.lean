import Derived.Test.YtiddnjjaidiohaaGreatDoorMgBB
namespace Go.Proofs.YtiddnjjaidiohaaGreatDoor.L
open Go.RowKit Go.Shelf
set_option linter.unusedVariables false
theorem row_any {W : World} {base n s : Nat} {e t : TypeId} {v : Value} {xs : List Value} {g : Nat} {cs : Array Value} {fr : Nat × Nat} (h : W.ownsRow base e s v n xs) (hb : W.heap[g]? = some (.cells cs t fr)) (hne : e ≠ t) : v.ownBlock ≠ some g := by
  rcases h.2 with ⟨rfl, _⟩ | ⟨g', cap, cur, rfl, _, hg, _⟩
  · intro e1; cases e1
  · intro e1
    have : g' = g := by simpa [Value.ownBlock] using e1
    subst this
    rw [hg] at hb
    have := Option.some.inj hb
    simp at this
    exact hne this.2.1
theorem row_cells {W : World} {base : Nat} {a : Option Addr} {m c : Nat} {B : List Pt} {ks : Nat → Value} (h : W.ownsRow base 60 4 (.slice a m c) m (CP B ks m)) (hm : 0 < m) : ∃ g, a = some ⟨g, 0, none⟩ ∧ g < W.heap.size ∧ ∀ j, j < m →
    W.cell? ⟨g, j * 4, none⟩ = some (.int .i64 (pt B j).kind) ∧ W.cell? ⟨g, j * 4 + 1, none⟩ = some (.string (pt B j).text) ∧ W.cell? ⟨g, j * 4 + 2, none⟩ = some (.int .i64 (pt B j).num) ∧ W.cell? ⟨g, j * 4 + 3, none⟩ = some (ks j) := by
  rcases h.2 with ⟨e, n0⟩ | ⟨g, cap, cur, e, hb, hg, h3, h4, h5, h6⟩
  · omega
  · cases e
    refine ⟨g, rfl, lt_blk hg, fun j hj => ?_⟩
    have key : ∀ r, r < 4 → W.cell? ⟨g, j * 4 + r, none⟩ = [.int .i64 (pt B j).kind, .string (pt B j).text, .int .i64 (pt B j).num, ks j][r]? := by
      intro r hr
      rw [cell_of_row W g _ _ _ _ hg, ← CP_get B ks j r hr hj, ← h6, List.getElem?_take_of_lt (by omega), Array.getElem?_toList]
    exact ⟨key 0 (by decide), key 1 (by decide), key 2 (by decide), key 3 (by decide)⟩
theorem row_form {W : World} {base n s : Nat} {e : TypeId} {v : Value} {xs : List Value} (h : W.ownsRow base e s v n xs) : ∃ a cap, v = .slice a n cap := by
  rcases h.2 with ⟨e, n0⟩ | ⟨g, cap, cur, e, _⟩
  · exact ⟨none, 0, by rw [e, n0]⟩
  · exact ⟨_, _, e⟩
theorem run_fT (x : Value) (w : World) : (Instr.field 26 (.agg #[x]) 0).run Tryz.prog w = .ok x w := by kernel_rfl
set_option maxHeartbeats 16000000 in
set_option maxRecDepth 100000 in
theorem joinedT_any (k : Int) (a b : Option Addr) (A B : List Pt) (ca cb : Nat) (w : World) (hA : PLs w a A) (hB : PLs w b B) (gA : GdS A) (gB : GdS B) (h1 : 1 ≤ A.length) (h2 : 1 ≤ B.length) (dA : GdT A) (dB : GdT B) (sA : sumK A A.length ≤ 100000) (sB : sumK B B.length ≤ 100000) :
    Calls Tryz.prog 16 #[.int .i64 k, .agg #[.slice a A.length ca], .agg #[.slice b B.length cb]] w fun e w' => ∃ a' cap', e = .returned (.agg #[.slice a' (A.length + B.length + 1) cap']) ∧ PLs w' a' (jnT k A B) ∧ Below w.heap.size w w' := by
  have ⟨hx0, hx1, hx2, hb⟩ := alloc3 w (.cells #[.slice a A.length ca] 26) (.cells #[.slice b B.length cb] 26) (.cells #[.slice none 0 0] 26)
  have HX0 := hid hx0
  have HX1 := hid hx1
  have HF := hid hx2
  have HB := hid hb
  have HTA := hid hA
  have HTB := hid hB
  have HCA := hid (fun W h => copied_any a A ca W h dA sA)
  have HCB := hid (fun W h => copied_d b B cb W h dB sB)
  have HE1 := hid (jn_emb k A B)
  have HE2 := hid (jn_emb2 k A B)
  have HTP := hid (jn_top k A B)
  have HLE := hid (jn_len k A B)
  have hn5 := gA.len
  have hm5 := gB.len
  have HKB := hid gB.kid
  have HKL := hid gB.kl
  obtain ⟨U, hU⟩ : ∃ U, U = jnT k A B := ⟨_, rfl⟩
  obtain ⟨n, hn⟩ : ∃ n, n = A.length := ⟨_, rfl⟩
  obtain ⟨m, hm⟩ : ∃ m, m = B.length := ⟨_, rfl⟩
  rw [← hU] at HE1 HE2 HTP HLE ⊢
  have HN := hid hn
  have HM := hid hm
  rw [← hn] at HX0 HX1 HF HB HCA HTP HLE HE2 h1 hn5 ⊢
  rw [← hm] at HX0 HX1 HF HB HCB HTP HLE h2 hm5 HKB HKL ⊢
  have HUA := hid (show ∀ j, j < n → pt A j = pt U j from fun j hj => by
    have := HE1.out.at' j (by rw [← hn]; exact hj)
    rw [Nat.zero_add, shf_zero] at this
    exact this.symm)
  have HUB := hid (show ∀ j, j < m → pt U (n + j) = shf n (pt B j) from fun j hj => HE2.out.at' j (by rw [← hm]; exact hj))
  clear hx0 hx1 hx2 hb hA hB gA gB hU hn hm
  go_enter Tryz.func16, Tryz.ntmps16
  go_upto_region 1 with (fail)
  generalize ((w.alloc (.cells #[.slice a n ca] 26)).alloc (.cells #[.slice b m cb] 26)).alloc (.cells #[.slice none 0 0] 26) = X at *
  have x0 := cell_of_one HX0.out
  go_upto_region 2 with (go_at_call 10; refine (HCA.out _ (HTA.out.low HB.out)).mono ?_; rintro e w1 ⟨a1, c1, ksA, rfl, p1, l1⟩; have P1 := hid p1; have L1 := hid l1; clear p1 l1)
  clear x0
  have HB1 := hid (bchS HB.out L1.out)
  have HA2 := hid (belowA w1 (.cells #[.slice a1 n c1] 26))
  have HX2 := hid (heap_alloc_new w1 (.cells #[.slice a1 n c1] 26))
  have HB2 := hid (bchS HB1.out HA2.out)
  have HXY := hid (bchS L1.out HA2.out)
  have HP2 := hid (P1.out.low HA2.out)
  generalize w1.alloc (.cells #[.slice a1 n c1] 26) = Y at *
  have HTY := hid (show w1.heap.size < Y.heap.size from lt_blk HX2.out)
  have HXT := hid (show X.heap.size ≤ w1.heap.size from L1.out.size)
  have HLA := hid (show ∀ g, (Value.slice a1 n c1).ownBlock = some g → g < w1.heap.size from fun g hg => (P1.out.row.lt g hg).2)
  have HLK := hid (show ∀ i, i < n → ∀ g, (ksA i).ownBlock = some g → g < w1.heap.size from fun i hi g hg => (own_block (P1.out.kids i hi) g hg).2)
  generalize w1.heap.size = tb at *
  have y0 := cell_of_one HX2.out
  have rf := run_fT
  have y1 := cell_of_one ((HXY.out.block _ (lt_blk HX1.out)).trans HX1.out)
  go_wp2_with (go_at_call 10; refine (HCB.out _ (HTB.out.low HB2.out)).mono ?_; rintro e w2 ⟨b1, d1, ksB, rfl, p2, hds, l2⟩; have P2 := hid p2; have L2 := hid l2; have HDS := hid hds; clear p2 l2 hds)
  clear y0 y1 rf
  have HJ0 := hid (show Jn w2 X.heap.size Y.heap.size n U B ksB (.slice b1 m d1) 0 0 (.slice a1 n c1) ksA from
    ⟨(HP2.out.low L2.out).congr HUA.out, by rw [← HM.out]; exact P2.out.row, fun j _ hj => P2.out.kids j (by rw [HM.out]; exact hj), by
      cases hv : (Value.slice b1 m d1).ownBlock with
      | none => exact .inl rfl
      | some g =>
        right
        intro e
        have q1 := (P2.out.row.lt g hv).1
        have q2 := HLA.out g e.symm
        have q3 := HTY.out
        omega, fun i j hi _ hj => by
      cases hv : (ksA i).ownBlock with
      | none => exact .inl rfl
      | some g =>
        right
        intro e
        have q1 := (own_block (P2.out.kids j (by rw [HM.out]; exact hj)) g e.symm).1
        have q2 := HLK.out i hi g hv
        have q3 := HTY.out
        omega, by rw [← HM.out]; exact HDS.out⟩)
  have HXW := hid (bchS HXY.out L2.out)
  have HXB := hid ((L2.out.block _ (lt_blk HX2.out)).trans HX2.out)
  rename_i KK aK
  have HKK := hid aK
  clear aK
  go_loopw [21] (fun i wr => ∃ (q : Nat) (ao : Option Addr) (co : Nat) (ksO : Nat → Value), q ≤ m ∧ i = .int .i64 (q : Int) ∧ Hid (Below X.heap.size X wr) ∧ Hid (wr.heap[tb]? = some (.cells #[.slice ao (n + q) co] 26 (0, 0))) ∧ Hid (Jn wr X.heap.size Y.heap.size n U B ksB (.slice b1 m d1) q q (.slice ao (n + q) co) ksO)) (fun i _ => m - (intOf i).toNat)
  case atStart => exact ⟨0, a1, c1, ksA, Nat.zero_le _, rfl, HXW, HXB, HJ0⟩
  case round =>
    obtain ⟨q, ao, co, ksO, hq, rfl, HBX, HBOX, HJ⟩ := hrel
    by_cases hqm : q < m
    · have hqB : q < B.length := by rw [← HM.out]; exact hqm
      have hrow := HJ.out.row
      rw [← HM.out] at hrow
      obtain ⟨gb, rfl, hgb, hcc⟩ := row_cells hrow (by omega)
      obtain ⟨q0, q1, q2, q3⟩ := hcc q hqm
      have hkid := HJ.out.kid q (Nat.le_refl _) hqB
      obtain ⟨ka, kc, hkv⟩ := own_form hkid
      have hkl := HKL.out q hqm
      have hkb := HKB.out q hqm
      have hub := HUB.out q hqm
      obtain ⟨pp, hpp⟩ : ∃ pp, pp = pt B q := ⟨_, rfl⟩
      rw [← hpp] at q0 q1 q2 hkid hkv hkl hkb hub
      obtain ⟨kd, tx, nu, zs⟩ := pp
      simp only at q0 q1 q2 hkid hkv hkl hkb
      obtain ⟨mk, hmk⟩ : ∃ mk, mk = zs.length := ⟨_, rfl⟩
      rw [← hmk] at hkv hkl
      have HMK := hid hmk
      have HKB2 := hid hkb
      have HUB2 := hid hub
      have HKV := hid hkv
      rw [hkv] at q3 hkid
      have HKID := hid hkid
      have g1 : (q : Int) < (m : Int) := by omega
      have g2 : (0 : Int) ≤ (q : Int) := by omega
      have g3 : ((q : Int) * 4).toNat = q * 4 := by omega
      have HVB := hid (belowA wr (.cells #[.int .i64 kd, .string tx, .int .i64 nu, .slice ka mk kc] 60))
      have HVP := hid (heap_alloc_new wr (.cells #[.int .i64 kd, .string tx, .int .i64 nu, .slice ka mk kc] 60))
      clear hcc hrow hpp hmk hkb hub hkv hkid hgb
      go_upto_region 6 with (fail)
      clear q0 q1 q2 q3
      have HJV := hid (HJ.out.low HVB.out)
      have HBV := hid (bchS HBX.out HVB.out)
      have HOXV := hid ((HVB.out.block _ (lt_blk HBOX.out)).trans HBOX.out)
      have HKV0 := hid (own_low HKID.out HVB.out)
      generalize wr.alloc (.cells #[.int .i64 kd, .string tx, .int .i64 nu, .slice ka mk kc] 60) = V at *
      generalize wr.heap.size = pb at *
      have ⟨z0, z1, z2, z3⟩ := cells4 HVP.out
      go_wp2_with fail
      clear z0 z1 z2 z3
      go_loopw [28] (fun j wr2 => ∃ i : Nat, i ≤ mk ∧ j = .int .i64 (i : Int) ∧ Hid (V.grownBy wr2 (ksB q).ownBlock) ∧ Hid (OwnI wr2 Y.heap.size (.slice ka mk kc) (mixZ zs n i))) (fun j _ => mk - (intOf j).toNat)
      case atStart => exact ⟨0, Nat.zero_le _, rfl, hid (gB_refl _ _), hid (by rw [mix_zero]; exact HKV0.out)⟩
      case round =>
        obtain ⟨i, hi, rfl, HGR, HOI⟩ := hrel
        have HPB := hid ((HGR.out.block _ (lt_blk HVP.out) (by rw [HKV.out]; exact Ne.symm (row_any HKV0.out HVP.out (by decide)))).trans HVP.out)
        have ⟨z0, z1, z2, z3⟩ := cells4 HPB.out
        by_cases him : i < mk
        · have hiz : i < zs.length := by rw [← HMK.out]; exact him
          obtain ⟨g, hka⟩ : ∃ g, ka = some ⟨g, 0, none⟩ := by
            rcases HOI.out.2 with ⟨e, n0⟩ | ⟨g, cap, cur, e, _⟩
            · rw [mix_len] at n0; omega
            · cases e; exact ⟨g, rfl⟩
          subst hka
          have hml : mk = (mixZ zs n i).length := by rw [mix_len]; exact HMK.out
          have ⟨c1', f1'⟩ := own_cell HOI.out hml i him
          rw [mix_get zs n i hiz] at c1'
          have hmem : zs.getD i 0 ∈ zs := by rw [List.getD_eq_getElem?_getD, List.getElem?_eq_getElem hiz]; exact List.getElem_mem hiz
          have hx := HKB2.out _ hmem
          have HST := hid (own_set HOI.out hml i (zs.getD i 0 + (n : Int)))
          rw [mix_set zs n i hiz] at HST
          generalize zs.getD i 0 = x at *
          have g4 : (i : Int) < (mk : Int) := by omega
          have g5 : (0 : Int) ≤ (i : Int) := by omega
          have g6 : -9223372036854775808 ≤ x + (n : Int) := by omega
          have g7 : x + (n : Int) ≤ 9223372036854775807 := by omega
          have HI1 := hid (show i + 1 ≤ mk by omega)
          have HGN := hid (show V.grownBy (wr.setCell ⟨g, i, none⟩ (.int .i64 (x + (n : Int)))) (ksB q).ownBlock from gB_trans HGR.out (by rw [HKV.out]; exact HST.out.2))
          clear hiz hml hmem
          go_wp2_with fail
          refine ⟨⟨i + 1, HI1.out, by go_num, HGN, hid HST.out.1⟩, ?_⟩
          have h3 := HI1.out
          simp [intOf]
          omega
        · obtain rfl : i = mk := by omega
          have HJG := hid (HJV.out.grow (by rw [← HM.out]; exact hqm) HGR.out)
          have HOX2 := hid ((HGR.out.block _ (lt_blk HOXV.out) (by rw [HKV.out]; exact Ne.symm (row_box HKV0.out HOXV.out (by decide)))).trans HOXV.out)
          have HBG := hid (HBV.out.grown HGR.out HBV.out.size (fun g hg => by
            rw [HKV.out] at hg
            exact Nat.le_trans HXY.out.size (own_block HKV0.out g hg).1))
          have HKS := hid (show OwnI wr X.heap.size (ksB q) (pt U (n + q)).kids by
            rw [HUB2.out, HKV.out]
            have h := HOI.out
            rw [HMK.out, mix_all] at h
            rw [HMK.out]
            exact own_mono h HXY.out.size)
          have w0 := cell_of_one HOX2.out
          have fw : wr.frozen? ⟨tb, 0, none⟩ = false := by simp [World.frozen?, HOX2.out]
          have HA6 := hid (belowA wr (.cells #[.int .i64 kd, .string tx, .int .i64 nu, .slice ka i kc] 60))
          have HJ6 := hid (HJG.out.low HA6.out)
          have HKS6 := hid (own_low HKS.out HA6.out)
          have HOX6 := hid ((HA6.out.block _ (lt_blk HOX2.out)).trans HOX2.out)
          have HB6 := hid (bchS HBG.out HA6.out)
          obtain ⟨i0, hi0, hz0, hz1, hz2⟩ := info_parts infoP
          have HRW := hid (HJ6.out.out.row)
          have HFN := hid (cell_four_new wr (.int .i64 kd) (.string tx) (.int .i64 nu) (.slice ka i kc) 60)
          have HSZ := hid HB6.out.size
          have hnq : n + q ≤ 2000 := by omega
          go_upto_region 12 with (at_builtin; refine Ap.wpList_append_stays _ rfl _ _ 24 rfl X.heap.size 60 i0 (.agg #[.int .i64 0, .string ByteArray.empty, .int .i64 0, .slice none 0 0]) 4 56 Tryz.underlying24 hi0 hz0 hz1 hz2 rfl (by decide) _ _ _ rfl HRW.out ⟨wr.heap.size, 0, none⟩ 1 1 [.int .i64 kd, .string tx, .int .i64 nu, .slice ka i kc] rfl rfl HFN.out (fun x hx => by simp at hx; rcases hx with rfl | rfl | rfl | rfl <;> rfl) (by unfold maxLen; omega) (by omega) HSZ.out (by decide) ?_)
          intro v5 w5 hr5 hg5 hst5 hbl5
          have HJ7 := hid (HJ6.out.more (by rw [← HM.out]; exact hqm) HKS6.out (by rw [HUB2.out, HKV.out]; exact hr5) hg5 (by rw [World.size_alloc]; exact hbl5))
          have HOX7 := hid ((hg5.block tb (lt_blk HOX6.out) (Ne.symm (box_ne HJ6.out.out HOX6.out))).trans HOX6.out)
          have HB7 := hid (HB6.out.grown hg5 HB6.out.size (fun g hg => (HJ6.out.out.row.lt g hg).1))
          obtain ⟨a5, c5, hv5⟩ := row_form HJ7.out.out.row
          subst hv5
          clear hr5 hg5 hst5 hbl5 hi0 hz0 hz1 hz2 w0 fw z0 z1 z2 z3
          have w0 := cell_of_one HOX7.out
          have fw : w5.frozen? ⟨tb, 0, none⟩ = false := by simp [World.frozen?, HOX7.out]
          go_upto_region 12 with (fail)
          have HJ8 := hid (HJ7.out.box HOX7.out 0 (.slice a5 (n + (q + 1)) c5))
          have HOX8 := hid (show (w5.setCell ⟨tb, 0, none⟩ (.slice a5 (n + (q + 1)) c5)).heap[tb]? = some (.cells #[.slice a5 (n + (q + 1)) c5] 26 (0, 0)) by
            rw [setCell_eq_setRow _ _ _ _ _ _ _ HOX7.out, setRow_heap _ _ _ _ _ _ HOX7.out]
            rfl)
          have HB8 := hid (HB7.out.setCell (p := ⟨tb, 0, none⟩) HXT.out (.slice a5 (n + (q + 1)) c5))
          have HQ1 := hid (show q + 1 ≤ m by omega)
          clear w0 fw
          generalize w5.setCell ⟨tb, 0, none⟩ (.slice a5 (n + (q + 1)) c5) = W8 at *
          go_wp2_with fail
          refine ⟨⟨q + 1, a5, c5, _, HQ1.out, by go_num, HB8, HOX8, HJ8⟩, ?_⟩
          have h3 := HQ1.out
          simp [intOf]
          omega
    · obtain rfl : q = m := by omega
      have HBW := hid (bchS HB.out HBX.out)
      have HFR := hid ((HBX.out.block _ (lt_blk HF.out)).trans HF.out)
      have HRT := hid (show w.heap.size + 1 + 1 < X.heap.size from lt_blk HF.out)
      have HP2' := hid HJ.out.out
      clear HJ0 HXB HXW HP2 P1 P2 HDS HLA HLK HCA HCB HKB HKL
      go_wp2_with fail
      refine HKK.out _ _ ?_
      have y0 := cell_of_one HBOX.out
      have HXR := hid (show X.heap.size ≤ wr.heap.size from HBX.out.size)
      have HK1 := hid (own_lit2 wr X.heap.size ((n : Int) - 1) ((n : Int) + (q : Int) - 1) HXR.out)
      have HA3 := hid (belowA wr (.cells #[.int .i64 ((n : Int) - 1), .int .i64 ((n : Int) + (q : Int) - 1)] 3))
      have HS3 := hid (show (wr.alloc (.cells #[.int .i64 ((n : Int) - 1), .int .i64 ((n : Int) + (q : Int) - 1)] 3)).heap.size = wr.heap.size + 1 by simp)
      have HP3 := hid (HP2'.out.low HA3.out)
      obtain ⟨i0, hi, hz0, hz1, hz2⟩ := info_parts infoP
      have HRW := hid (HP3.out.row.alloc (.cells #[.int .i64 k, .string ⟨#[]⟩, .int .i64 0, .slice (some ⟨wr.heap.size, 0, none⟩) 2 2] 60))
      have HFN := hid (cell_four_new (wr.alloc (.cells #[.int .i64 ((n : Int) - 1), .int .i64 ((n : Int) + (q : Int) - 1)] 3)) (.int .i64 k) (.string ⟨#[]⟩) (.int .i64 0) (.slice (some ⟨wr.heap.size, 0, none⟩) 2 2) 60)
      have HA4 := hid (belowA (wr.alloc (.cells #[.int .i64 ((n : Int) - 1), .int .i64 ((n : Int) + (q : Int) - 1)] 3)) (.cells #[.int .i64 k, .string ⟨#[]⟩, .int .i64 0, .slice (some ⟨wr.heap.size, 0, none⟩) 2 2] 60))
      have HSZ := hid (show X.heap.size ≤ ((wr.alloc (.cells #[.int .i64 ((n : Int) - 1), .int .i64 ((n : Int) + (q : Int) - 1)] 3)).alloc (.cells #[.int .i64 k, .string ⟨#[]⟩, .int .i64 0, .slice (some ⟨wr.heap.size, 0, none⟩) 2 2] 60)).heap.size from Nat.le_trans HXR.out (Nat.le_trans HA3.out.size HA4.out.size))
      rw [HS3.out] at HFN
      have hnq : n + q ≤ 2000 := by omega
      go_upto_region 14 with (at_builtin; refine wpList_append_own _ rfl _ _ 24 rfl X.heap.size 60 i0 (.agg #[.int .i64 0, .string ByteArray.empty, .int .i64 0, .slice none 0 0]) 4 56 Tryz.underlying24 hi hz0 hz1 hz2 rfl (by decide) _ _ _ rfl HRW.out ⟨wr.heap.size + 1, 0, none⟩ 1 1 [.int .i64 k, .string ⟨#[]⟩, .int .i64 0, .slice (some ⟨wr.heap.size, 0, none⟩) 2 2] rfl rfl HFN.out (fun x hx => by simp at hx; rcases hx with rfl | rfl | rfl | rfl <;> rfl) (by unfold maxLen; omega) (by omega) HSZ.out ?_)
      intro v5 w5 hr5 hg5 hn5'
      have HPZ := hid (HP3.out.low HA4.out)
      have HKZ := hid (own_low HK1.out HA4.out)
      have hkk : (pt U (n + q)).kids = [(n : Int) - 1, (n : Int) + (q : Int) - 1] := by
        rw [HTP.out]
        show [((n : Nat) : Int) - 1, ((n + q : Nat) : Int) - 1] = _
        have : ((n + q : Nat) : Int) - 1 = (n : Int) + (q : Int) - 1 := by omega
        rw [this]
      have HMO := hid (OwnP.more HPZ.out (show OwnI _ X.heap.size (.slice (some ⟨wr.heap.size, 0, none⟩) 2 2) (pt U (n + q)).kids by rw [hkk]; exact HKZ.out) (by rw [HTP.out]; exact hr5) hg5)
      have HBZ := hid (bchS (bchS HBW.out HA3.out) HA4.out)
      have HXZ := hid ((HA4.out.block _ (Nat.lt_of_lt_of_le (lt_blk HBOX.out) HA3.out.size)).trans ((HA3.out.block _ (lt_blk HBOX.out)).trans HBOX.out))
      have HFZ := hid ((HA4.out.block _ (Nat.lt_of_lt_of_le (lt_blk HFR.out) HA3.out.size)).trans ((HA3.out.block _ (lt_blk HFR.out)).trans HFR.out))
      have HX5 := hid ((hg5.block tb (lt_blk HXZ.out) (Ne.symm (box_ne HPZ.out HXZ.out))).trans HXZ.out)
      have HF5 := hid ((hg5.block (w.heap.size + 1 + 1) (lt_blk HFZ.out) (Ne.symm (box_ne HPZ.out HFZ.out))).trans HFZ.out)
      have HB5 := hid (HBZ.out.grown hg5 HBZ.out.size (fun k hk => Nat.le_trans HB.out.size (HPZ.out.row.lt k hk).1))
      obtain ⟨a5, c5, hv5⟩ := row_form HMO.out.row
      subst hv5
      clear hr5 hg5 hn5' hi hz0 hz1 hz2 y0 hkk
      have c5' := cell_of_one HX5.out
      have f5 : w5.frozen? ⟨tb, 0, none⟩ = false := by simp [World.frozen?, HX5.out]
      go_upto_region 14 with (fail)
      have hrt : w.heap.size + 1 + 1 ≠ tb := by have h1 := HRT.out; have h2 := HXT.out; omega
      have HX6 := hid (show (w5.setCell ⟨tb, 0, none⟩ (.slice a5 (n + q + 1) c5)).heap[tb]? = some (.cells #[.slice a5 (n + q + 1) c5] 26 (0, 0)) by
        rw [setCell_eq_setRow _ _ _ _ _ _ _ HX5.out, setRow_heap _ _ _ _ _ _ HX5.out]
        rfl)
      have HF6 := hid ((Below.heap_setCell w5 ⟨tb, 0, none⟩ (.slice a5 (n + q + 1) c5) (w.heap.size + 1 + 1) hrt).trans HF5.out)
      have HM6 := hid (HMO.out.box HX5.out 0 (.slice a5 (n + q + 1) c5))
      have HB6 := hid (HB5.out.setCell (p := ⟨tb, 0, none⟩) (Nat.le_trans HB.out.size HXT.out) (.slice a5 (n + q + 1) c5))
      clear c5' f5
      generalize w5.setCell ⟨tb, 0, none⟩ (.slice a5 (n + q + 1) c5) = W6 at *
      have x6 := cell_of_one HX6.out
      have y6 := cell_of_one HF6.out
      have f6 : W6.frozen? ⟨w.heap.size + 1 + 1, 0, none⟩ = false := by simp [World.frozen?, HF6.out]
      have HM7 := hid (HM6.out.box HF6.out 0 (.slice a5 (n + q + 1) c5))
      have HP7 := hid (show PLs (W6.setCell ⟨w.heap.size + 1 + 1, 0, none⟩ (.slice a5 (n + q + 1) c5)) a5 U by
        have h := HM7.out
        rw [← HLE.out] at h ⊢
        obtain ⟨a7, c7, h7, hp⟩ := h.pl
        cases h7
        exact hp)
      have HF7 := hid (show (W6.setCell ⟨w.heap.size + 1 + 1, 0, none⟩ (.slice a5 (n + q + 1) c5)).heap[w.heap.size + 1 + 1]? = some (.cells #[.slice a5 (n + q + 1) c5] 26 (0, 0)) by
        rw [setCell_eq_setRow _ _ _ _ _ _ _ HF6.out, setRow_heap _ _ _ _ _ _ HF6.out]
        rfl)
      have HB7 := hid (HB6.out.setCell (p := ⟨w.heap.size + 1 + 1, 0, none⟩) (by show w.heap.size ≤ w.heap.size + 1 + 1; omega) (.slice a5 (n + q + 1) c5))
      go_wp2_with fail
      exact ⟨rfl, .agg #[.slice a5 (n + q + 1) c5], results_cell_row Tryz.results16 _ _ (w.heap.size + 1 + 1) 26 #[.slice a5 (n + q + 1) c5] (0, 0) _ rfl HF7.out Tryz.underlying26 rfl (by kernel_rfl), a5, c5, rfl, HP7.out, HB7.out⟩
end Go.Proofs.YtiddnjjaidiohaaGreatDoor.L
