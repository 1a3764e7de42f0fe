import Derived.Test.YtdnoagebcolgbabDoorOa
import Derived.Test.YtdnoagebcolgbabDoorIc
import Derived.Test.YtdnoagebcolgbabDoorOd
namespace Go.Proofs.YtdnoagebcolgbabDoor.L
open Go.RowKit Go.Shelf
set_option linter.unusedVariables false
set_option maxHeartbeats 16000000 in
set_option maxRecDepth 100000 in
theorem showown_any (a : Option Addr) (T : List Pt) (cap : Nat) (w : World) (hT : PLs w a T) (hG : GdT T) (hv : TabW w) :
    Calls Tryd.prog 3 #[.agg #[.slice a T.length cap]] w fun e w' => e = .returned (.bool true) ∧ Below w.heap.size w w' := by
  obtain ⟨L, hLe⟩ : ∃ L, L = T.length := ⟨_, rfl⟩
  have HT := hid hT
  have HTV := hid hv
  have HL := hid hLe
  have HGD := hid hG
  have HAW := hid awake_any
  have HLG := hid (fun W (h : PL W a T) => large_is a T cap W h hG)
  have HVA := hid (fun a' cap' W (h : PL W a' T) => valid_any a' T cap' W h hG)
  have HNA := hid (fun a' cap' W (h : PL W a' T) => nest_any a' T cap' W h hG)
  have HTA := hid (fun a' cap' W (h : PL W a' T) hv => text_any a' T cap' W h hG hv)
  have HRV := hid (fun W (h : PL W a T) => rvalid_any a T cap W h hG)
  rw [← hLe] at HLG HVA HNA HTA HRV ⊢
  have HB0 := hid (belowA w (.cells #[.slice a L cap] 24))
  have HX0 := hid (Boxed.new w 24 (.slice a L cap))
  clear hT hG hLe hv
  go_enter Tryd.func3, Tryd.ntmps3
  go_upto_region 1 with (fail)
  generalize w.alloc (.cells #[.slice a L cap] 24) = X at *
  go_upto_region 3 with (go_at_call 4; refine (HAW.out _).mono ?_; rintro e w1 ⟨rfl, l1⟩; have L1 := hid (HB0.out.trans (l1.mono HB0.out.size)); have HX1 := hid (boxed_low HX0.out l1); clear l1)
  have HT1 := hid (HT.out.low L1.out)
  have xt := HX1.out.cell
  go_upto_region 5 with (go_at_call 5; refine (HLG.out _ HT1.out.pl).mono ?_; rintro e w2 (⟨rfl, hs, l2⟩ | ⟨rfl, hs, l2⟩) <;> have yt := (boxed_low HX1.out l2).cell)
  · have HW2 := hid (show Below w.heap.size w w2 from bch L1.out l2)
    have HX2 := hid (boxed_low HX1.out l2)
    have HS := hid hs
    have hL5 : L ≤ 100000 := by
      have h0 := sumK_mono T (Nat.zero_le L)
      have h1 : sumK T 0 = L := HL.out.symm
      omega
    have HLT := hid HX2.out.lt
    clear hs l2 xt yt HLG
    go_wp2_with fail
    go_loopw [3, 4] (fun v i wr => ∃ (k : Nat) (ks : Nat → Value), k ≤ L ∧ i = .int .i64 (k : Int) ∧ Hid (Below w2.heap.size w2 wr) ∧ Hid (OwnQ wr w2.heap.size v T ks k)) (fun _ i _ => L - (intOf i).toNat)
    case atStart => exact ⟨0, fun _ => undef, Nat.zero_le _, rfl, hid (Below.refl _ _), hid ⟨⟨rfl, .inl ⟨rfl, rfl⟩⟩, fun j hj => absurd hj (Nat.not_lt_zero j)⟩⟩
    case round =>
      obtain ⟨k, ks, hk, rfl, HB, HO⟩ := hrel
      have xt := (show Boxed wr w.heap.size 24 (.slice a L cap) from boxed_low HX2.out HB.out).cell
      by_cases hkl : k < L
      · have hki : (k : Int) < (L : Int) := by omega
        have hk0 : (0 : Int) ≤ (k : Int) := by omega
        have hts := HT.out.low (bch HW2.out HB.out)
        have hgk := sumK_kid T hkl
        rcases hts with h0 | ⟨b2, o2, rfl, hb2, hc2⟩
        · have := HL.out; omega
        obtain ⟨ka, kc, q0, q1, q2, q3, rk, hno⟩ := hc2 k (by rw [← HL.out]; exact hkl)
        have hgl := Nat.le_trans hgk HS.out
        obtain ⟨p, hp⟩ : ∃ p, p = pt T k := ⟨_, rfl⟩
        rw [← hp] at q0 q1 q2 q3 rk hgl
        have HPT := hid hp
        obtain ⟨kd, tx, nu, zs⟩ := p
        simp only at q0 q1 q2 q3 rk hgl
        obtain ⟨n, hn⟩ : ∃ n, n = zs.length := ⟨_, rfl⟩
        rw [← hn] at q3 hgl
        have HN := hid hn
        have RK := hid rk
        have HNO := hid hno
        have hk4 : ((k : Int) * 4).toNat = k * 4 := by omega
        have hvb := belowA wr (.cells #[.int .i64 kd, .string tx, .int .i64 nu, .slice ka n kc] 33)
        have HVB := hid hvb
        have HVP := hid (heap_alloc_new wr (.cells #[.int .i64 kd, .string tx, .int .i64 nu, .slice ka n kc] 33))
        have HVS := hid (show (wr.alloc (.cells #[.int .i64 kd, .string tx, .int .i64 nu, .slice ka n kc] 33)).heap.size = wr.heap.size + 1 by simp)
        clear hc2 rk hno hp hn hvb hgk
        go_upto_region 10 with (fail)
        have RV := hid (RK.out.low HVB.out (Nat.le_refl _))
        have HP9 := hid (show Below wr.heap.size wr (wr.alloc (.cells #[.int .i64 kd, .string tx, .int .i64 nu, .slice ka n kc] 33)) from HVB.out)
        clear q0 q1 q2 q3 hb2 xt
        generalize wr.alloc (.cells #[.int .i64 kd, .string tx, .int .i64 nu, .slice ka n kc] 33) = V at *
        have HWB := hid (show w2.heap.size ≤ wr.heap.size from HB.out.size)
        generalize hPe : wr.heap.size = P at *
        have HPE := hid hPe
        clear hPe
        have x3 := (cells4 HVP.out).2.2.2
        have N0 := hid (own_new0 V V.heap.size (Nat.le_refl _))
        have HVA := hid (belowA V (.cells #[] 3))
        have RVA := hid (RV.out.low HVA.out (Nat.le_refl _))
        have HPV := hid (show P < V.heap.size by rw [HVS.out]; exact Nat.lt_succ_self _)
        have HBD := hid (show ([] : List Int).length + zs.length ≤ 17592186044000 by rw [List.length_nil, ← HN.out]; omega)
        have HSZ := hid (show V.heap.size ≤ (V.alloc (.cells #[] 3)).heap.size from HVA.out.size)
        have x3a := (HVA.out.cell (p := ⟨P, 3, none⟩) HPV.out).trans x3
        have hPne : P ≠ V.heap.size := Nat.ne_of_lt HPV.out
        go_wp2_with (at_builtin; refine append_src rfl _ _ rfl V.heap.size _ [] rfl N0.out ka n kc zs HN.out rfl HNO.out RVA.out HBD.out HSZ.out ?_)
        intro v1 w3 o1 g1
        replace o1 : OwnI w3 V.heap.size v1 zs := o1
        obtain ⟨ka1, kc1, rfl⟩ := own_form o1
        have hk3 : w3.heap[P]? = V.heap[P]? := (g1.block P (Nat.lt_of_lt_of_le HPV.out HVA.out.size) (by simp [Value.ownBlock]; exact hPne)).trans (HVA.out.block P HPV.out)
        have e3 : w3.heap[P]? = some (.cells #[.int .i64 kd, .string tx, .int .i64 nu, .slice ka n kc] 33 (0, 0)) := hk3.trans HVP.out
        have b3 : Below V.heap.size V w3 := ((belowA V (.cells #[] 3)).grown g1 HVA.out.size (fun k hk => by simp [Value.ownBlock] at hk; omega))
        have HB3 := hid b3
        have HE3 := hid e3
        have O1 := hid o1
        clear g1 hk3 e3 x3 x3a b3 o1
        -- the three marks
        have HM3 := hid (belowA w3 (.cells #[.int .i64 (-7), .int .i64 (-8), .int .i64 (-9)] 3))
        have O1M := hid (own_low O1.out HM3.out)
        have RM := hid (show RdI (w3.alloc (.cells #[.int .i64 (-7), .int .i64 (-8), .int .i64 (-9)] 3)) (some ⟨w3.heap.size, 0, none⟩) [-7, -8, -9] from Or.inr ⟨w3.heap.size, 0, rfl, lt_blk (heap_alloc_new w3 _), fun j hj => by
          rw [Nat.zero_add]
          match j, hj with
          | 0, _ => exact cell_of_row _ _ 0 _ _ _ (heap_alloc_new w3 _)
          | 1, _ => exact cell_of_row _ _ 1 _ _ _ (heap_alloc_new w3 _)
          | 2, _ => exact cell_of_row _ _ 2 _ _ _ (heap_alloc_new w3 _)⟩)
        have HBD2 := hid (show zs.length + ([-7, -8, -9] : List Int).length ≤ 17592186044000 by rw [← HN.out]; simp; omega)
        have HSZ3 := hid (show V.heap.size ≤ (w3.alloc (.cells #[.int .i64 (-7), .int .i64 (-8), .int .i64 (-9)] 3)).heap.size from Nat.le_trans HB3.out.size HM3.out.size)
        go_wp2_with (at_builtin; refine append_src rfl _ _ rfl V.heap.size _ zs rfl O1M.out (some ⟨w3.heap.size, 0, none⟩) 3 3 [-7, -8, -9] rfl rfl (fun h => by cases h) RM.out HBD2.out HSZ3.out ?_)
        intro v2 w4 o2 g2
        obtain ⟨g, c2, hv2, hgb, hgc⟩ := own_some o2 (by simp)
        have hl3 : (zs ++ [-7, -8, -9]).length = n + 3 := by rw [HN.out]; simp
        rw [hl3] at hv2 hgc
        subst hv2
        have b4 : Below V.heap.size V w4 := ((HB3.out.trans (HM3.out.mono HB3.out.size)).grown g2 HSZ3.out (fun k hk => by exact (own_block O1.out k hk).1))
        have e4 : w4.heap[P]? = some (.cells #[.int .i64 kd, .string tx, .int .i64 nu, .slice ka n kc] 33 (0, 0)) := (b4.block P HPV.out).trans HVP.out
        have f4 : w4.frozen? ⟨P, 3, none⟩ = false := by simp [World.frozen?, e4]
        obtain ⟨d0, d1, d2, d3⟩ := cells4 e4
        have HE4 := hid e4
        have HB4V := hid b4
        have O2 := hid o2
        have hnc : (n : Int) ≤ (c2 : Int) := by omega
        have hn0 : (0 : Int) ≤ (n : Int) := by omega
        clear o2 g2 e4 b4 hl3
        go_upto_region 12 with (fail)
        have e5 : (w4.setCell ⟨P, 3, none⟩ (.slice (some ⟨g, 0, none⟩) n c2)).heap[P]? = some (.cells #[.int .i64 kd, .string tx, .int .i64 nu, .slice (some ⟨g, 0, none⟩) n c2] 33 (0, 0)) := by
          rw [setCell_eq_setRow _ _ _ _ _ _ _ HE4.out, setRow_heap _ _ _ _ _ _ HE4.out]
          rfl
        have b5 : Below P wr (w4.setCell ⟨P, 3, none⟩ (.slice (some ⟨g, 0, none⟩) n c2)) := (HP9.out.trans (HB4V.out.mono (Nat.le_of_lt HPV.out))).setCell (p := ⟨P, 3, none⟩) (Nat.le_refl _) _
        have HB5 := hid b5
        have HO5 := hid (HO.out.low (show Below wr.heap.size wr _ by rw [HPE.out]; exact b5))
        have OK5 := hid (show OwnI (w4.setCell ⟨P, 3, none⟩ (.slice (some ⟨g, 0, none⟩) n c2)) w2.heap.size (.slice (some ⟨g, 0, none⟩) (n + 3) c2) (zs ++ [-7, -8, -9]) from own_mono (ownsRow_setCell_below O2.out (a := ⟨P, 3, none⟩) HPV.out _) (by have := HWB.out; have := HPV.out; omega))
        have ⟨x0, x1, x2, x3⟩ := cells4 e5
        have HW5 := hid (show w2.heap.size ≤ (w4.setCell ⟨P, 3, none⟩ (.slice (some ⟨g, 0, none⟩) n c2)).heap.size by have h1 := b5.size; have h2 := HWB.out; rw [HPE.out] at h1; omega)
        clear e5 b5 d0 d1 d2 d3 f4
        generalize w4.setCell ⟨P, 3, none⟩ (.slice (some ⟨g, 0, none⟩) n c2) = W5 at *
        obtain ⟨i0, hi, hz0, hz1, hz2⟩ := info_parts infoP
        have HRW := hid (HO5.out.row.alloc (.cells #[.int .i64 kd, .string tx, .int .i64 nu, .slice (some ⟨g, 0, none⟩) n c2] 33))
        have HFN := hid (cell_four_new W5 (.int .i64 kd) (.string tx) (.int .i64 nu) (.slice (some ⟨g, 0, none⟩) n c2) 33)
        have HA5 := hid (belowA W5 (.cells #[.int .i64 kd, .string tx, .int .i64 nu, .slice (some ⟨g, 0, none⟩) n c2] 33))
        have HO6 := hid (HO5.out.low HA5.out)
        have OK6 := hid (own_low OK5.out HA5.out)
        go_wp2_with (at_builtin; refine wpList_append_own _ rfl _ _ 22 rfl w2.heap.size 33 i0 (.agg #[.int .i64 0, .string ByteArray.empty, .int .i64 0, .slice none 0 0]) 4 56 Tryd.underlying22 hi hz0 hz1 hz2 rfl (by decide) _ _ _ rfl HRW.out ⟨W5.heap.size, 0, none⟩ 1 1 [.int .i64 kd, .string tx, .int .i64 nu, .slice (some ⟨g, 0, none⟩) n c2] rfl rfl HFN.out (fun x hx => by simp at hx; rcases hx with rfl | rfl | rfl | rfl <;> rfl) (by unfold maxLen; omega) (by omega) (Nat.le_trans HW5.out HA5.out.size) ?_)
        intro v5 w5 hr5 hg5 hn5
        have hkl5 : (pt T k).kids.length = n := by rw [← HPT.out]; exact HN.out.symm
        have HM := hid (OwnQ.more HO6.out (g := g) (c := c2) (by rw [hkl5, ← HPT.out]; exact OK6.out) (by rw [hkl5, ← HPT.out]; exact hr5) hg5)
        have HB6 := hid (show Below w2.heap.size w2 w5 by
          have h1 : Below w2.heap.size w2 W5 := HB.out.trans (HB5.out.mono HWB.out)
          refine (h1.trans (HA5.out.mono HW5.out)).grown hg5 (Nat.le_trans HW5.out HA5.out.size) (fun k hk => ?_)
          exact (HO6.out.row.lt k hk).1)
        clear hr5 hg5 hn5 hi hz0 hz1 hz2 x0 x1 x2 x3
        go_wp2_with fail
        refine ⟨⟨k + 1, _, by omega, by simp, HB6, HM⟩, ?_⟩
        show L - ((k : Int) + 1).toNat < L - ((k : Int)).toNat
        omega
      · have hki : ¬ ((k : Int) < (L : Int)) := by omega
        have ekL : k = L := by omega
        subst ekL
        obtain ⟨i0, hi, hz0, hz1, hz2⟩ := info_parts infoP
        have HRW := hid (HO.out.row.alloc (.cells twoC.toArray 33))
        have HFN := hid (cells_new wr twoC 33)
        have HA := hid (belowA wr (.cells twoC.toArray 33))
        have HOA := hid (HO.out.low HA.out)
        have HWB := hid (show w2.heap.size ≤ wr.heap.size from HB.out.size)
        have xta := (show Boxed _ w.heap.size 24 (.slice a k cap) from boxed_low (boxed_low HX2.out HB.out) HA.out).cell
        go_wp2_with (at_builtin; refine wpList_append_own _ rfl _ _ 22 rfl w2.heap.size 33 i0 (.agg #[.int .i64 0, .string ByteArray.empty, .int .i64 0, .slice none 0 0]) 4 56 Tryd.underlying22 hi hz0 hz1 hz2 rfl (by decide) _ _ _ rfl HRW.out ⟨wr.heap.size, 0, none⟩ 2 2 twoC rfl rfl HFN.out two_one (by unfold maxLen; omega) (by omega) (Nat.le_trans HWB.out HA.out.size) ?_)
        intro v5 w5 hr5 hg5 hn5
        have HF := hid (show OwnF w5 w2.heap.size v5 T ks from OwnQ.fin (by rw [← HL.out]; exact HOA.out) (by rw [← HL.out]; exact hr5) hg5)
        obtain ⟨g, cp, hv5, hcp⟩ := HF.out.form
        rw [← HL.out] at hv5 hcp
        subst hv5
        have HB5 := hid (show Below w2.heap.size w2 w5 from (HB.out.trans (HA.out.mono HWB.out)).grown hg5 (Nat.le_trans HWB.out HA.out.size) (fun j hj => (HOA.out.row.lt j hj).1))
        have HX5 := hid (boxed_low HX2.out HB5.out)
        have xt5 := HX5.out.cell
        have hcp' : (k : Int) ≤ (cp : Int) := by omega
        have hk0 : (0 : Int) ≤ (k : Int) := by omega
        clear hr5 hg5 hn5 hi hz0 hz1 hz2 xt xta HO HRW HFN HOA
        have HA6 := hid (belowA w5 (.cells #[.slice (some ⟨g, 0, none⟩) k cp] 24))
        have HXI6 := hid (Boxed.new w5 24 (.slice (some ⟨g, 0, none⟩) k cp))
        go_upto_region 16 with (fail)
        clear xt5
        have HF6 := hid (HF.out.low HA6.out)
        have HX6 := hid (boxed_low HX5.out HA6.out)
        have HB6 := hid (show Below w.heap.size w _ from bch (bch HW2.out HB5.out) HA6.out)
        generalize w5.alloc (.cells #[.slice (some ⟨g, 0, none⟩) k cp] 24) = W6 at *
        generalize w5.heap.size = tb at *
        have HP6 := hid HF6.out.pl
        have xi := HXI6.out.cell
        go_upto_region 17 with (go_at_call 6; refine (HVA.out _ _ _ HP6.out.pl).mono ?_; rintro e w7 ⟨e1, rfl, l7, he⟩; have HE1 := hid he; have L7 := hid l7; clear l7 he)
        clear xi
        have HP7 := hid (HP6.out.low L7.out)
        have xi := (boxed_low HXI6.out L7.out).cell
        go_upto_region 18 with (go_at_call 7; refine (HNA.out _ _ _ HP7.out.pl).mono ?_; rintro e w8 ⟨n1, f1, rfl, l8, he, hm⟩; have HE2 := hid he; have HM1 := hid hm; have L8 := hid (show Below W6.heap.size W6 w8 from bch L7.out l8); clear l8 he hm)
        clear xi
        have HP8 := hid (HP6.out.low L8.out)
        have xi := (boxed_low HXI6.out L8.out).cell
        go_upto_region 19 with (go_at_call 8; refine (HTA.out _ _ _ HP8.out.pl (HTV.out.low (bch HB6.out L8.out))).mono ?_; rintro e w9 ⟨s1, g1, rfl, l9, ht⟩; have HT3 := hid ht; have L9 := hid (show Below W6.heap.size W6 w9 from bch L8.out l9); clear l9 ht)
        clear xi
        have HF9 := hid (HF6.out.low L9.out)
        have HX9 := hid (boxed_low HX6.out L9.out)
        have HXI9 := hid (boxed_low HXI6.out L9.out)
        have HB9 := hid (show Below w.heap.size w w9 from bch HB6.out L9.out)
        clear HF6 HX6 HP6 HP7 HP8 HF HX5 HA6
        go_wp2_with fail
        go_loopw [14] (fun i wr => ∃ j : Nat, j ≤ k ∧ i = .int .i64 (j : Int) ∧ Hid (Below w9.heap.size w9 wr)) (fun i _ => k - (intOf i).toNat)
        case atStart => exact ⟨0, Nat.zero_le _, rfl, hid (Below.refl _ _)⟩
        case round =>
          obtain ⟨j, hj, rfl, HBR⟩ := hrel
          have xt := (boxed_low HX9.out HBR.out).cell
          have xi := (boxed_low HXI9.out HBR.out).cell
          have HFR := hid (HF9.out.low HBR.out)
          have HBW := hid (show Below w.heap.size w wr from bch HB9.out HBR.out)
          by_cases hjk : j < k
          · obtain ⟨hgl, key, _, _⟩ := HFR.out.cells
            have hjT : j < T.length := by rw [← HL.out]; exact hjk
            have f0 : wr.cell? ⟨g, j * 4, none⟩ = some (.int .i64 (pt T j).kind) := key j hjT 0 (by decide)
            have f1 : wr.cell? ⟨g, j * 4 + 1, none⟩ = some (.string (pt T j).text) := key j hjT 1 (by decide)
            have f2 : wr.cell? ⟨g, j * 4 + 2, none⟩ = some (.int .i64 (pt T j).num) := key j hjT 2 (by decide)
            have f3 : wr.cell? ⟨g, j * 4 + 3, none⟩ = some (ks j) := key j hjT 3 (by decide)
            obtain ⟨gk, c3, ek, ok⟩ := HFR.out.kids j hjT
            rw [ek] at f3
            have HTR := hid (HT.out.low HBW.out)
            rcases HTR.out with h0 | ⟨b2, o2, rfl, hb2, hc2⟩
            · omega
            obtain ⟨ka, kc, q0, q1, q2, q3, rk, _⟩ := hc2 j hjT
            have hgj := sumK_kid T hjT
            have hgm : (pt T j).kids.length ≤ 100000 := by
              have := HS.out
              rw [HL.out] at this
              exact Nat.le_trans hgj this
            obtain ⟨kd, hkd⟩ : ∃ kd, kd = (pt T j).kind := ⟨_, rfl⟩
            obtain ⟨tx, htx⟩ : ∃ tx, tx = (pt T j).text := ⟨_, rfl⟩
            obtain ⟨nu, hnu⟩ : ∃ nu, nu = (pt T j).num := ⟨_, rfl⟩
            obtain ⟨zs, hzs⟩ : ∃ zs, zs = (pt T j).kids := ⟨_, rfl⟩
            rw [← hkd] at f0 q0
            rw [← htx] at f1 q1
            rw [← hnu] at f2 q2
            rw [← hzs] at f3 q3 rk ok hgm
            obtain ⟨m, hm⟩ : ∃ m, m = zs.length := ⟨_, rfl⟩
            rw [← hm] at f3 q3 ok hgm
            have HM := hid hm
            have RK := hid rk
            have OK := hid ok
            have hj4 : ((j : Int) * 4).toNat = j * 4 := by omega
            have hj0 : (0 : Int) ≤ (j : Int) := by omega
            have hji : (j : Int) < (k : Int) := by omega
            have hj2 : (j : Int) < (k : Int) + 2 := by omega
            clear key hc2 hkd htx hnu hzs hm rk ok hgj ek hjT
            have hw0 : w.heap.size < wr.heap.size := (boxed_low HX9.out HBR.out).lt
            go_upto_region 22 with (fail)
            have hc3 := own_cap OK.out HM.out
            have hc3' : (m : Int) + 3 ≤ (c3 : Int) := by omega
            go_region
            · as_aux_lemma =>
              have b1 := belowA wr (.cells #[.int .i64 kd, .string tx, .int .i64 nu, .slice (some ⟨gk, 0, none⟩) m c3] 33)
              have b2' := belowA (wr.alloc (.cells #[.int .i64 kd, .string tx, .int .i64 nu, .slice (some ⟨gk, 0, none⟩) m c3] 33)) (.cells #[.int .i64 kd, .string tx, .int .i64 nu, .slice ka m kc] 33)
              have HV := hid (show Below wr.heap.size wr ((wr.alloc (.cells #[.int .i64 kd, .string tx, .int .i64 nu, .slice (some ⟨gk, 0, none⟩) m c3] 33)).alloc (.cells #[.int .i64 kd, .string tx, .int .i64 nu, .slice ka m kc] 33)).drew from (bch b1 b2').drew)
              have h1 := (b2'.block _ (lt_blk (heap_alloc_new wr (.cells #[.int .i64 kd, .string tx, .int .i64 nu, .slice (some ⟨gk, 0, none⟩) m c3] 33)))).trans (heap_alloc_new wr (.cells #[.int .i64 kd, .string tx, .int .i64 nu, .slice (some ⟨gk, 0, none⟩) m c3] 33))
              have h2 := heap_alloc_new (wr.alloc (.cells #[.int .i64 kd, .string tx, .int .i64 nu, .slice (some ⟨gk, 0, none⟩) m c3] 33)) (.cells #[.int .i64 kd, .string tx, .int .i64 nu, .slice ka m kc] 33)
              rw [World.size_alloc] at h2
              have HPB := hid (show ((wr.alloc (.cells #[.int .i64 kd, .string tx, .int .i64 nu, .slice (some ⟨gk, 0, none⟩) m c3] 33)).alloc (.cells #[.int .i64 kd, .string tx, .int .i64 nu, .slice ka m kc] 33)).drew.heap[wr.heap.size]? = _ from h1)
              have HQB := hid (show ((wr.alloc (.cells #[.int .i64 kd, .string tx, .int .i64 nu, .slice (some ⟨gk, 0, none⟩) m c3] 33)).alloc (.cells #[.int .i64 kd, .string tx, .int .i64 nu, .slice ka m kc] 33)).drew.heap[wr.heap.size + 1]? = _ from h2)
              clear b1 b2' h1 h2 f0 f1 f2 f3 q0 q1 q2 q3 xt xi
              generalize ((wr.alloc (.cells #[.int .i64 kd, .string tx, .int .i64 nu, .slice (some ⟨gk, 0, none⟩) m c3] 33)).alloc (.cells #[.int .i64 kd, .string tx, .int .i64 nu, .slice ka m kc] 33)).drew = V at *
              generalize wr.heap.size + 1 = qb at *
              obtain ⟨pb, hpb⟩ : ∃ pb, pb = wr.heap.size := ⟨_, rfl⟩
              rw [← hpb] at HPB ⊢
              clear hpb
              have ⟨p0, p1, p2, p3⟩ := cells4 HPB.out
              have ⟨q0, q1, q2, q3⟩ := cells4 HQB.out
              go_upto_region 25 with (fail)
              go_upto_region 26 with (fail)
              have HBV := hid (show Below w9.heap.size w9 V from bch HBR.out HV.out)
              have OKV := hid (own_low OK.out HV.out)
              have RKV := hid (RK.out.low HV.out (Nat.le_refl _))
              have HJ1 := hid (show j + 1 ≤ k by omega)
              clear p0 p1 p2 p3 q0 q1 q2 q3
              go_wp2_with fail
              go_loopw [18] (fun i wx => ∃ l : Nat, l ≤ m + 3 ∧ i = .int .i64 (l : Int) ∧ Hid (Below V.heap.size V wx)) (fun i _ => m + 3 - (intOf i).toNat)
              case atStart => exact ⟨0, Nat.zero_le _, rfl, hid (Below.refl _ _)⟩
              case round => as_aux_lemma =>
                obtain ⟨l, hl, rfl, HBX⟩ := hrel
                try clear HVA
                try clear HNA
                try clear HTA
                try clear HRV
                try clear HAW
                try clear HTV
                try clear HGD
                try clear HB0
                try clear HX0
                try clear L1
                try clear HX1
                try clear HT1
                try clear HW2
                try clear HX2
                try clear HS
                try clear HLT
                try clear HE1
                try clear HE2
                try clear HM1
                try clear HT3
                try clear L7
                try clear L8
                try clear L9
                try clear HF9
                try clear HFR
                try clear HX9
                try clear HXI9
                try clear HXI6
                try clear HB6
                try clear HB5
                try clear HB9
                try clear HBW
                try clear HTR
                try clear HT
                try clear HL
                try clear hcp
                try clear hcp'
                try clear hk0
                try clear hgl
                try clear hb2
                try clear hw0
                try clear hji
                try clear hj2
                try clear hj4
                try clear OK
                try clear RK
                try clear hc3
                have q3 := (cells4 ((HBX.out.block _ (lt_blk HQB.out)).trans HQB.out)).2.2.2
                have hl0 : (0 : Int) ≤ (l : Int) := by omega
                by_cases hlm : l < m + 3
                · have hlm' : (l : Int) < (m : Int) + 3 := by omega
                  have hlen : (m + 3) = (zs ++ [-7, -8, -9]).length := by rw [HM.out]; simp
                  have kc0 := (own_cell (own_low OKV.out HBX.out) hlen l hlm).1
                  clear hlen
                  have HL1 := hid (show l + 1 ≤ m + 3 by omega)
                  by_cases hl2 : l < m
                  · as_aux_lemma =>
                    have hl2' : (l : Int) < (m : Int) := by omega
                    have hl2n : ¬ (m : Int) ≤ (l : Int) := by omega
                    rcases RKV.out.low HBX.out (Nat.le_refl _) with h0 | ⟨b1, o1, e0, hb1, hc1⟩
                    · have := HM.out; omega
                    subst e0
                    have z0 := hc1 l (by rw [← HM.out]; exact hl2)
                    rw [kid_get HM.out hl2] at kc0
                    generalize zs.getD l 0 = y at *
                    clear hc1 hb1
                    go_upto_region 29 with (fail)
                    go_quiet (fail)
                    have HBX2 := hid (show Below V.heap.size V (wr.drewN nq) from below_drewN HBX.out nq)
                    generalize wr.drewN nq = Wq at *
                    clear q3 kc0 z0
                    have q3 := (cells4 ((HBX2.out.block _ (lt_blk HQB.out)).trans HQB.out)).2.2.2
                    go_upto_region 31 with (fail)
                    go_quiet (fail)
                    go_wp2_with fail
                    refine ⟨⟨l + 1, HL1.out, by go_num, hid (below_drewN HBX2.out _)⟩, ?_⟩
                    have h3 := HL1.out
                    simp [intOf]
                    omega
                  · have hl2' : ¬ (l : Int) < (m : Int) := by omega
                    have hl2n : (m : Int) ≤ (l : Int) := by omega
                    rw [mark_get HM.out (by omega) hlm] at kc0
                    obtain ⟨d, hd⟩ : ∃ d : Int, (l : Int) - (m : Int) = d := ⟨_, rfl⟩
                    have hd0 : 0 ≤ d ∧ d ≤ 2 := by omega
                    obtain ⟨y, hy⟩ : ∃ y : Int, -7 - d = y := ⟨_, rfl⟩
                    have hwd : IntKind.i64.wrap d = d := by unfold IntKind.wrap; simp [IntKind.bits, IntKind.signed]; omega
                    have hwy : IntKind.i64.wrap y = y := by unfold IntKind.wrap; simp [IntKind.bits, IntKind.signed]; omega
                    rw [hd, hy] at kc0
                    go_upto_region 29 with (fail)
                    go_quiet (fail)
                    have HBX2 := hid (show Below V.heap.size V (wr.drewN nq) from below_drewN HBX.out nq)
                    have kc1 : (wr.drewN nq).cell? ⟨gk, l, none⟩ = some (.int .i64 y) := kc0
                    generalize wr.drewN nq = Wq at *
                    clear q3 kc0
                    have q3 := (cells4 ((HBX2.out.block _ (lt_blk HQB.out)).trans HQB.out)).2.2.2
                    go_upto_region 31 with (fail)
                    go_quiet (fail)
                    go_wp2_with fail
                    refine ⟨⟨l + 1, HL1.out, by go_num, hid (below_drewN HBX2.out _)⟩, ?_⟩
                    have h3 := HL1.out
                    simp [intOf]
                    omega
                · have hlm' : ¬ (l : Int) < (m : Int) + 3 := by omega
                  go_wp2_with fail
                  refine ⟨⟨j + 1, HJ1.out, by go_num, hid (bch HBV.out HBX.out)⟩, ?_⟩
                  have h3 := HJ1.out
                  simp [intOf]
                  omega
            · as_aux_lemma =>
              have b1 := belowA wr (.cells #[.int .i64 kd, .string tx, .int .i64 nu, .slice ka m kc] 33)
              have b2' := belowA (wr.alloc (.cells #[.int .i64 kd, .string tx, .int .i64 nu, .slice ka m kc] 33)) (.cells #[.int .i64 kd, .string tx, .int .i64 nu, .slice (some ⟨gk, 0, none⟩) m c3] 33)
              have HV := hid (show Below wr.heap.size wr ((wr.alloc (.cells #[.int .i64 kd, .string tx, .int .i64 nu, .slice ka m kc] 33)).alloc (.cells #[.int .i64 kd, .string tx, .int .i64 nu, .slice (some ⟨gk, 0, none⟩) m c3] 33)).drew from (bch b1 b2').drew)
              have h1 := (b2'.block _ (lt_blk (heap_alloc_new wr (.cells #[.int .i64 kd, .string tx, .int .i64 nu, .slice ka m kc] 33)))).trans (heap_alloc_new wr (.cells #[.int .i64 kd, .string tx, .int .i64 nu, .slice ka m kc] 33))
              have h2 := heap_alloc_new (wr.alloc (.cells #[.int .i64 kd, .string tx, .int .i64 nu, .slice ka m kc] 33)) (.cells #[.int .i64 kd, .string tx, .int .i64 nu, .slice (some ⟨gk, 0, none⟩) m c3] 33)
              rw [World.size_alloc] at h2
              have HQB := hid (show ((wr.alloc (.cells #[.int .i64 kd, .string tx, .int .i64 nu, .slice ka m kc] 33)).alloc (.cells #[.int .i64 kd, .string tx, .int .i64 nu, .slice (some ⟨gk, 0, none⟩) m c3] 33)).drew.heap[wr.heap.size]? = _ from h1)
              have HPB := hid (show ((wr.alloc (.cells #[.int .i64 kd, .string tx, .int .i64 nu, .slice ka m kc] 33)).alloc (.cells #[.int .i64 kd, .string tx, .int .i64 nu, .slice (some ⟨gk, 0, none⟩) m c3] 33)).drew.heap[wr.heap.size + 1]? = _ from h2)
              clear b1 b2' h1 h2 f0 f1 f2 f3 q0 q1 q2 q3 xt xi
              generalize ((wr.alloc (.cells #[.int .i64 kd, .string tx, .int .i64 nu, .slice ka m kc] 33)).alloc (.cells #[.int .i64 kd, .string tx, .int .i64 nu, .slice (some ⟨gk, 0, none⟩) m c3] 33)).drew = V at *
              generalize wr.heap.size + 1 = pb at *
              obtain ⟨qb, hqb⟩ : ∃ qb, qb = wr.heap.size := ⟨_, rfl⟩
              rw [← hqb] at HQB ⊢
              clear hqb
              have ⟨p0, p1, p2, p3⟩ := cells4 HPB.out
              have ⟨q0, q1, q2, q3⟩ := cells4 HQB.out
              go_upto_region 25 with (fail)
              go_upto_region 26 with (fail)
              have HBV := hid (show Below w9.heap.size w9 V from bch HBR.out HV.out)
              have OKV := hid (own_low OK.out HV.out)
              have RKV := hid (RK.out.low HV.out (Nat.le_refl _))
              have HJ1 := hid (show j + 1 ≤ k by omega)
              clear p0 p1 p2 p3 q0 q1 q2 q3
              go_wp2_with fail
              go_loopw [18] (fun i wx => ∃ l : Nat, l ≤ m + 3 ∧ i = .int .i64 (l : Int) ∧ Hid (Below V.heap.size V wx)) (fun i _ => m + 3 - (intOf i).toNat)
              case atStart => exact ⟨0, Nat.zero_le _, rfl, hid (Below.refl _ _)⟩
              case round => as_aux_lemma =>
                obtain ⟨l, hl, rfl, HBX⟩ := hrel
                try clear HVA
                try clear HNA
                try clear HTA
                try clear HRV
                try clear HAW
                try clear HTV
                try clear HGD
                try clear HB0
                try clear HX0
                try clear L1
                try clear HX1
                try clear HT1
                try clear HW2
                try clear HX2
                try clear HS
                try clear HLT
                try clear HE1
                try clear HE2
                try clear HM1
                try clear HT3
                try clear L7
                try clear L8
                try clear L9
                try clear HF9
                try clear HFR
                try clear HX9
                try clear HXI9
                try clear HXI6
                try clear HB6
                try clear HB5
                try clear HB9
                try clear HBW
                try clear HTR
                try clear HT
                try clear HL
                try clear hcp
                try clear hcp'
                try clear hk0
                try clear hgl
                try clear hb2
                try clear hw0
                try clear hji
                try clear hj2
                try clear hj4
                try clear OK
                try clear RK
                try clear hc3
                have q3 := (cells4 ((HBX.out.block _ (lt_blk HQB.out)).trans HQB.out)).2.2.2
                have hl0 : (0 : Int) ≤ (l : Int) := by omega
                by_cases hlm : l < m + 3
                · have hlm' : (l : Int) < (m : Int) + 3 := by omega
                  have hlen : (m + 3) = (zs ++ [-7, -8, -9]).length := by rw [HM.out]; simp
                  have kc0 := (own_cell (own_low OKV.out HBX.out) hlen l hlm).1
                  clear hlen
                  have HL1 := hid (show l + 1 ≤ m + 3 by omega)
                  by_cases hl2 : l < m
                  · as_aux_lemma =>
                    have hl2' : (l : Int) < (m : Int) := by omega
                    have hl2n : ¬ (m : Int) ≤ (l : Int) := by omega
                    rcases RKV.out.low HBX.out (Nat.le_refl _) with h0 | ⟨b1, o1, e0, hb1, hc1⟩
                    · have := HM.out; omega
                    subst e0
                    have z0 := hc1 l (by rw [← HM.out]; exact hl2)
                    rw [kid_get HM.out hl2] at kc0
                    generalize zs.getD l 0 = y at *
                    clear hc1 hb1
                    go_upto_region 29 with (fail)
                    go_quiet (fail)
                    have HBX2 := hid (show Below V.heap.size V (wr.drewN nq) from below_drewN HBX.out nq)
                    generalize wr.drewN nq = Wq at *
                    clear q3 kc0 z0
                    have q3 := (cells4 ((HBX2.out.block _ (lt_blk HQB.out)).trans HQB.out)).2.2.2
                    go_upto_region 31 with (fail)
                    go_quiet (fail)
                    go_wp2_with fail
                    refine ⟨⟨l + 1, HL1.out, by go_num, hid (below_drewN HBX2.out _)⟩, ?_⟩
                    have h3 := HL1.out
                    simp [intOf]
                    omega
                  · have hl2' : ¬ (l : Int) < (m : Int) := by omega
                    have hl2n : (m : Int) ≤ (l : Int) := by omega
                    rw [mark_get HM.out (by omega) hlm] at kc0
                    obtain ⟨d, hd⟩ : ∃ d : Int, (l : Int) - (m : Int) = d := ⟨_, rfl⟩
                    have hd0 : 0 ≤ d ∧ d ≤ 2 := by omega
                    obtain ⟨y, hy⟩ : ∃ y : Int, -7 - d = y := ⟨_, rfl⟩
                    have hwd : IntKind.i64.wrap d = d := by unfold IntKind.wrap; simp [IntKind.bits, IntKind.signed]; omega
                    have hwy : IntKind.i64.wrap y = y := by unfold IntKind.wrap; simp [IntKind.bits, IntKind.signed]; omega
                    rw [hd, hy] at kc0
                    go_upto_region 29 with (fail)
                    go_quiet (fail)
                    have HBX2 := hid (show Below V.heap.size V (wr.drewN nq) from below_drewN HBX.out nq)
                    have kc1 : (wr.drewN nq).cell? ⟨gk, l, none⟩ = some (.int .i64 y) := kc0
                    generalize wr.drewN nq = Wq at *
                    clear q3 kc0
                    have q3 := (cells4 ((HBX2.out.block _ (lt_blk HQB.out)).trans HQB.out)).2.2.2
                    go_upto_region 31 with (fail)
                    go_quiet (fail)
                    go_wp2_with fail
                    refine ⟨⟨l + 1, HL1.out, by go_num, hid (below_drewN HBX2.out _)⟩, ?_⟩
                    have h3 := HL1.out
                    simp [intOf]
                    omega
                · have hlm' : ¬ (l : Int) < (m : Int) + 3 := by omega
                  go_wp2_with fail
                  refine ⟨⟨j + 1, HJ1.out, by go_num, hid (bch HBV.out HBX.out)⟩, ?_⟩
                  have h3 := HJ1.out
                  simp [intOf]
                  omega
          · have ejk : j = k := by omega
            subst ejk
            obtain ⟨hgl, _, c77, c78⟩ := HFR.out.cells
            rw [← HL.out] at c77 c78
            have hk4 : ((j : Int) * 4).toNat = j * 4 := by omega
            have hk5 : (((j : Int) + 1) * 4).toNat = (j + 1) * 4 := by omega
            have i1 : (j : Int) < (j : Int) + 2 := by omega
            have i2 : (j : Int) + 1 < (j : Int) + 2 := by omega
            have HPI := hid HFR.out.pl
            have HXI := hid (boxed_low HXI9.out HBR.out)
            have HXT := hid (boxed_low HX9.out HBR.out)
            have HTR := hid (HT.out.low HBW.out)
            clear xt hgl
            go_upto_region 36 with (go_at_call 6; refine (HVA.out _ _ _ HPI.out.pl).mono ?_; rintro e w10 ⟨e2, rfl, l10, he⟩; have HE4 := hid he; have L10 := hid l10; clear l10 he)
            clear xi c77 c78
            have HP10 := hid (HPI.out.low L10.out)
            have xi := (boxed_low HXI.out L10.out).cell
            go_upto_region 37 with (go_at_call 7; refine (HNA.out _ _ _ HP10.out.pl).mono ?_; rintro e w11 ⟨n2, f2, rfl, l11, he, hm⟩; have HE5 := hid he; have HM5 := hid hm; have L11 := hid (show Below wr.heap.size wr w11 from bch L10.out l11); have HE4b := hid (HE4.out.low l11 (Nat.le_refl _)); clear l11 he hm)
            clear xi
            have HP11 := hid (HPI.out.low L11.out)
            have xi := (boxed_low HXI.out L11.out).cell
            go_upto_region 38 with (go_at_call 8; refine (HTA.out _ _ _ HP11.out.pl (HTV.out.low (bch HBW.out L11.out))).mono ?_; rintro e w12 ⟨s2, g2, rfl, l12, ht⟩; have HT6 := hid ht; have L12 := hid (show Below wr.heap.size wr w12 from bch L11.out l12); have HE4c := hid (HE4b.out.low l12 (Nat.le_refl _)); clear l12 ht)
            clear xi
            have HT12 := hid (HTR.out.low L12.out)
            have xt := (boxed_low HXT.out L12.out).cell
            go_upto_region 39 with (go_at_call 9; refine (HRV.out _ HT12.out.pl).mono ?_; rintro e w13 ⟨c, i, rfl, hr, l13⟩; have HRC := hid hr; have HBF := hid (show Below w.heap.size w w13 from bch (bch HBW.out L12.out) l13); have HE4d := hid (HE4c.out.low l13 (Nat.le_refl _)); clear l13 hr)
            clear xt
            obtain ⟨en, es, hcs⟩ := own_uni HRC.out HE1.out HE2.out HM1.out HT3.out HE4.out HE5.out HM5.out HT6.out
            have HRF := hid (refusal_any HE4d.out HRC.out)
            subst en
            subst es
            rcases hcs with ⟨hc, he1, hf1, he2, hf2, hgg⟩ | ⟨hc, N1, N2, N3, N4, N5, N6, he1, hf1, hg1, he2, hf2, hg2⟩
            · subst hc he1 hf1 he2 hf2
              rw [show ((0 : Nat) : Int) = 0 from rfl] at HRF ⊢
              rcases hgg with ⟨hg1, hg2⟩ | ⟨N3, N6, hg1, hg2⟩
              · subst hg1 hg2
                go_upto_region 41 with (go_at_call 10; refine HRF.out.mono ?_; rintro e w14 ⟨rfl, l14⟩; have L14 := hid l14; clear l14)
                go_quiet (fail)
                go_wp2_with fail
                exact bodyPost_ret (v := .bool true) (by simp [results, Tryd.results3]) rfl ⟨rfl, below_drewN (bch HBF.out L14.out) nq⟩
              · subst hg1 hg2
                unfold fv
                go_upto_region 41 with (go_at_call 10; refine HRF.out.mono ?_; rintro e w14 ⟨rfl, l14⟩; have L14 := hid l14; clear l14)
                go_quiet (fail)
                go_wp2_with fail
                exact bodyPost_ret (v := .bool true) (by simp [results, Tryd.results3]) rfl ⟨rfl, below_drewN (bch HBF.out L14.out) nq⟩
            · subst he1 hf1 hg1 he2 hf2 hg2
              have hc' : ((c : Int) == 0) = false := by simp; omega
              have hc2 : ¬ (c : Int) = 0 := by omega
              unfold fv at HRF ⊢
              go_upto_region 41 with (go_at_call 10; refine HRF.out.mono ?_; rintro e w14 ⟨rfl, l14⟩; have L14 := hid l14; clear l14)
              go_quiet (fail)
              go_wp2_with fail
              exact bodyPost_ret (v := .bool true) (by simp [results, Tryd.results3]) rfl ⟨rfl, below_drewN (bch HBF.out L14.out) nq⟩
  · have HW2 := hid (show Below w.heap.size w w2 from bch L1.out l2)
    have HX2 := hid (boxed_low HX1.out l2)
    have HT2 := hid (HT1.out.low l2)
    have HS := hid hs
    clear hs l2 xt HLG
    have HVX := hid (show ∀ W, PL W a T → Calls Tryd.prog 6 #[.agg #[.slice a L cap]] W fun e w' => ∃ N, e = .returned (fv N) ∧ Below W.heap.size W w' from fun W h => (HVA.out a cap W h).mono (fun e w' ⟨ev, he, hl, hr⟩ => by
      rcases hr with ⟨_, hres⟩ | ⟨N, c, i, e2, _⟩
      · exact absurd hres (fun h => large_bad (by rw [← HL.out]; exact HS.out) h)
      · exact ⟨N, by rw [he, e2], hl⟩))
    unfold fv at HVX
    · go_wp2_with (go_at_call 6; refine (HVX.out _ HT2.out.pl).mono ?_; rintro e w3 ⟨N, rfl, l3⟩; have L3 := hid l3; clear l3)
      exact bodyPost_ret (v := .bool true) (by simp [results, Tryd.results3]) rfl ⟨rfl, bch HW2.out L3.out⟩
end Go.Proofs.YtdnoagebcolgbabDoor.L
