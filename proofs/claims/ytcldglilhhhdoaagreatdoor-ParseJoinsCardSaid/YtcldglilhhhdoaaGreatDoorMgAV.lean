import Derived.Test.YtcldglilhhhdoaaGreatDoorMgAU
import Derived.Test.YtcldglilhhhdoaaGreatDoorMgAR
namespace Go.Proofs.YtcldglilhhhdoaaGreatDoor.L
open Go.RowKit Go.Shelf
set_option linter.unusedVariables false
set_option linter.unusedSimpArgs false
theorem pt_sh (T : List Pt) (b : Int) {j : Nat} (h : j < T.length) : pt (T.map (shK b)) j = shK b (pt T j) := by
  unfold pt
  rw [List.getD_eq_getElem?_getD, List.getD_eq_getElem?_getD, List.getElem?_map, List.getElem?_eq_getElem h]
  rfl
theorem rd_one (w : World) (z : Int) : RdI (w.alloc (.cells #[.int .i64 z] 3)) (some ⟨w.heap.size, 0, none⟩) [z] := by
  refine Or.inr ⟨w.heap.size, 0, rfl, by simp, fun j hj => ?_⟩
  obtain rfl : j = 0 := by simpa using hj
  exact cell_of_row _ _ 0 _ _ _ (heap_alloc_new w _)
theorem take_sh {zs : List Int} {b : Int} {q : Nat} (h : q < zs.length) : (zs.take (q + 1)).map (· + b) = (zs.take q).map (· + b) ++ [zs.getD q 0 + b] := by
  rw [List.take_add_one, List.map_append, List.getD_eq_getElem?_getD, List.getElem?_eq_getElem h]
  rfl
/-- Kids whose numbers are small. -/
def Smk (T : List Pt) : Prop := ∀ j, j < T.length → (pt T j).kids.length ≤ 100000 ∧ ∀ q, q < (pt T j).kids.length → 0 ≤ (pt T j).kids.getD q 0 ∧ (pt T j).kids.getD q 0 ≤ 1000
set_option maxHeartbeats 4000000 in
set_option maxRecDepth 100000 in
theorem shifted_any (a : Option Addr) (T : List Pt) (cap n : Nat) (w : World) (hT : PL w a T) (hl : T.length ≤ 1000) (hS : Smk T) (hn : n ≤ 1000) :
    Calls Tryz.prog 19 #[.agg #[.slice a T.length cap], .int .i64 (n : Int)] w fun e w' => ∃ v ks, e = .returned v ∧ OwnP w' w.heap.size v (T.map (shK n)) ks T.length ∧ Below w.heap.size w w' := by
  obtain ⟨L, hLe⟩ : ∃ L, L = T.length := ⟨_, rfl⟩
  have HT := hid hT
  have HL := hid hLe
  have HS := hid hS
  rw [← hLe] at hl ⊢
  have hLm : L ≤ maxLen := by unfold maxLen; omega
  have HB1 := hid (belowA w (.cells #[.slice a L cap] 25))
  have HX0 := hid (heap_alloc_new w (.cells #[.slice a L cap] 25))
  have HXS := hid (show (w.alloc (.cells #[.slice a L cap] 25)).heap.size = w.heap.size + 1 by simp)
  clear hT hLe hS
  go_enter Tryz.func19, Tryz.ntmps19
  go_upto_region 1 with (fail)
  have HTX := hid (HT.out.low HB1.out)
  generalize w.alloc (.cells #[.slice a L cap] 25) = X at *
  have HLT := hid (show w.heap.size < X.heap.size by rw [HXS.out]; exact Nat.lt_succ_self _)
  go_wp2_with fail
  go_loopw [5, 6] (fun v i wr => ∃ (k : Nat) (ks : Nat → Value), k ≤ L ∧ i = .int .i64 (k : Int) ∧ Hid (Below X.heap.size X wr) ∧ Hid (OwnP wr X.heap.size v (T.map (shK n)) ks k)) (fun _ i _ => L - (intOf i).toNat)
  case atStart => exact ⟨0, fun _ => undef, Nat.zero_le _, rfl, hid (Below.refl _ _), hid ⟨⟨rfl, .inl ⟨rfl, rfl⟩⟩, fun j hj => absurd hj (Nat.not_lt_zero j)⟩⟩
  case round =>
    obtain ⟨k, ks, hk, rfl, HB, HO⟩ := hrel
    have xt : wr.cell? ⟨w.heap.size, 0, none⟩ = some (.slice a L cap) := cell_of_row _ _ 0 _ _ _ ((HB.out.block _ HLT.out).trans HX0.out)
    by_cases hkl : k < L
    · have hki : (k : Int) < (L : Int) := by omega
      have hk0 : (0 : Int) ≤ (k : Int) := by omega
      have hts := HTX.out.low HB.out
      obtain ⟨hs1, hs2⟩ := HS.out k (by rw [← HL.out]; exact hkl)
      rcases hts with h0 | ⟨b2, o2, rfl, hb2, hc2⟩
      · have := HL.out; omega
      obtain ⟨ka, kc, q0, q1, q2, q3, rk⟩ := hc2 k (by rw [← HL.out]; exact hkl)
      obtain ⟨p, hp⟩ : ∃ p, p = pt T k := ⟨_, rfl⟩
      rw [← hp] at q0 q1 q2 q3 rk hs1 hs2
      have HPT := hid hp
      obtain ⟨kd, tx, nu, zs⟩ := p
      simp only at q0 q1 q2 q3 rk hs1 hs2
      obtain ⟨m, hm⟩ : ∃ m, m = zs.length := ⟨_, rfl⟩
      rw [← hm] at q3 hs1 hs2
      have HM := hid hm
      have RK := hid rk
      have HZ := hid hs2
      have hk4 : ((k : Int) * 4).toNat = k * 4 := by omega
      have HVB := hid (belowA wr (.cells #[.int .i64 kd, .string tx, .int .i64 nu, .slice ka m kc] 46))
      have HVP := hid (heap_alloc_new wr (.cells #[.int .i64 kd, .string tx, .int .i64 nu, .slice ka m kc] 46))
      have HVS := hid (show (wr.alloc (.cells #[.int .i64 kd, .string tx, .int .i64 nu, .slice ka m kc] 46)).heap.size = wr.heap.size + 1 by simp)
      clear hc2 rk hp hm hs2
      go_upto_region 6 with (fail)
      have RV := hid (RK.out.low HVB.out (Nat.le_refl _))
      clear q0 q1 q2 q3 hb2 xt hki hk0 hk4
      generalize wr.alloc (.cells #[.int .i64 kd, .string tx, .int .i64 nu, .slice ka m kc] 46) = V at *
      have HWB := hid (show X.heap.size ≤ wr.heap.size from HB.out.size)
      have HPV := hid (show wr.heap.size < V.heap.size by rw [HVS.out]; exact Nat.lt_succ_self _)
      have HOV := hid (HO.out.low HVB.out)
      have HBV := hid (HB.out.trans (HVB.out.mono HWB.out))
      have HBU := hid HB.out
      clear HB
      generalize hPe : wr.heap.size = P at *
      have HPE := hid hPe
      clear hPe HOV HBV
      generalize wr = U at *
      have hmm : m ≤ maxLen := by unfold maxLen; omega
      go_wp2_with fail
      go_loopw [8, 9] (fun kv j wr => ∃ q : Nat, q ≤ m ∧ j = .int .i64 (q : Int) ∧ Hid (Below V.heap.size V wr) ∧ Hid (OwnI wr V.heap.size kv ((zs.take q).map (· + (n : Int))))) (fun _ j _ => m - (intOf j).toNat)
      case atStart => exact ⟨0, Nat.zero_le _, rfl, hid (Below.refl _ _), hid (own_nil _ _)⟩
      case round =>
        obtain ⟨q, hq, rfl, HB, HK⟩ := hrel
        have x3 : wr.cell? ⟨P, 3, none⟩ = some (.slice ka m kc) := (HB.out.cell (p := ⟨P, 3, none⟩) HPV.out).trans (cells4 HVP.out).2.2.2
        by_cases hqm : q < m
        · have hqi : (q : Int) < (m : Int) := by omega
          have hq0 : (0 : Int) ≤ (q : Int) := by omega
          have hz := HZ.out q hqm
          rcases RV.out.low HB.out (Nat.le_refl _) with h0 | ⟨b3, o3, rfl, hb3, hc3⟩
          · have := HM.out; omega
          have q5 := hc3 q (by rw [← HM.out]; exact hqm)
          obtain ⟨z, hze⟩ : ∃ z, z = zs.getD q 0 := ⟨_, rfl⟩
          have HZE := hid hze
          rw [← hze] at q5 hz
          have hw : IntKind.i64.wrap (z + (n : Int)) = z + (n : Int) := by (simp [IntKind.wrap, IntKind.bits, IntKind.signed]; omega)
          have HKA := hid (own_low HK.out (belowA wr (.cells #[.int .i64 (z + (n : Int))] 3)))
          have HRD := hid (rd_one wr (z + (n : Int)))
          have HBD := hid (show ((zs.take q).map (· + (n : Int))).length + [z + (n : Int)].length ≤ 17592186044000 by simp; omega)
          have HSZ := hid (show V.heap.size ≤ (wr.alloc (.cells #[.int .i64 (z + (n : Int))] 3)).heap.size by have := HB.out.size; simp; omega)
          clear hc3 hze hz
          go_wp2_with (at_builtin; refine append_src rfl _ _ rfl V.heap.size _ _ rfl HKA.out _ 1 1 [z + (n : Int)] rfl rfl (fun h => by cases h) HRD.out HBD.out HSZ.out ?_)
          intro kv1 w1 o1 g1
          have HO1 := hid (show OwnI w1 V.heap.size kv1 ((zs.take (q + 1)).map (· + (n : Int))) by rw [take_sh (by rw [← HM.out]; exact hqm), ← HZE.out, List.map_take]; exact o1)
          have HB1' := hid (show Below V.heap.size V w1 from (HB.out.alloc HB.out.size _).grown g1 HSZ.out (fun j e => (own_block HK.out j e).1))
          clear o1 g1 q5 x3 hw
          go_wp2_with fail
          exact ⟨⟨q + 1, by omega, by go_num, HB1', HO1⟩, by simp [intOf]; omega⟩
        · obtain rfl : q = m := by omega
          have HKK := hid (show OwnI wr V.heap.size u8 (zs.map (· + (n : Int))) by have h9 := HK.out; rw [HM.out, List.take_length] at h9; exact h9)
          clear HK
          obtain ⟨ka1, kc1, hkf⟩ := own_form HKK.out
          rw [List.length_map, ← HM.out] at hkf
          subst hkf
          have e3 : wr.heap[P]? = some (.cells #[.int .i64 kd, .string tx, .int .i64 nu, .slice ka q kc] 46 (0, 0)) := (HB.out.block P HPV.out).trans HVP.out
          have f3 : wr.frozen? ⟨P, 3, none⟩ = false := by simp [World.frozen?, e3]
          have HE3 := hid e3
          have hqi : ¬ ((q : Int) < (q : Int)) := by omega
          go_upto_region 12 with (fail)
          have e4 : (wr.setCell ⟨P, 3, none⟩ (.slice ka1 q kc1)).heap[P]? = some (.cells #[.int .i64 kd, .string tx, .int .i64 nu, .slice ka1 q kc1] 46 (0, 0)) := by
            rw [setCell_eq_setRow _ _ _ _ _ _ _ HE3.out, setRow_heap _ _ _ _ _ _ HE3.out]
            rfl
          have b4 : Below P U (wr.setCell ⟨P, 3, none⟩ (.slice ka1 q kc1)) := (HVB.out.trans (HB.out.mono (Nat.le_of_lt HPV.out))).setCell (p := ⟨P, 3, none⟩) (Nat.le_refl _) _
          have HB4 := hid b4
          have HO4 := hid (HO.out.low (show Below U.heap.size U _ by rw [HPE.out]; exact b4))
          have OK4 := hid (show OwnI (wr.setCell ⟨P, 3, none⟩ (.slice ka1 q kc1)) X.heap.size (.slice ka1 q kc1) (zs.map (· + (n : Int))) from row_base (ownsRow_setCell_below HKK.out (a := ⟨P, 3, none⟩) HPV.out _) (by have := HWB.out; have := HPV.out; omega))
          have ⟨x0, x1, x2, x4⟩ := cells4 e4
          have HW4 := hid (show X.heap.size ≤ (wr.setCell ⟨P, 3, none⟩ (.slice ka1 q kc1)).heap.size by have h1 := b4.size; have h2 := HWB.out; rw [HPE.out] at h1; omega)
          clear e4 b4 f3 x3 e3
          generalize wr.setCell ⟨P, 3, none⟩ (.slice ka1 q kc1) = W4 at *
          obtain ⟨i0, hi, hz0, hz1, hz2⟩ := info_parts infoP
          have HRW := hid (HO4.out.row.alloc (.cells #[.int .i64 kd, .string tx, .int .i64 nu, .slice ka1 q kc1] 46))
          have HFN := hid (cell_four_new W4 (.int .i64 kd) (.string tx) (.int .i64 nu) (.slice ka1 q kc1) 46)
          have HA4 := hid (belowA W4 (.cells #[.int .i64 kd, .string tx, .int .i64 nu, .slice ka1 q kc1] 46))
          have HO5 := hid (HO4.out.low HA4.out)
          have OK5 := hid (own_low OK4.out HA4.out)
          go_wp2_with (at_builtin; refine wpList_append_own _ rfl _ _ 23 rfl X.heap.size 46 i0 (.agg #[.int .i64 0, .string ByteArray.empty, .int .i64 0, .slice none 0 0]) 4 56 Tryz.underlying23 hi hz0 hz1 hz2 rfl (by decide) _ _ _ rfl HRW.out ⟨W4.heap.size, 0, none⟩ 1 1 [.int .i64 kd, .string tx, .int .i64 nu, .slice ka1 q kc1] rfl rfl HFN.out (fun x hx => by simp at hx; rcases hx with rfl | rfl | rfl | rfl <;> rfl) (by unfold maxLen; omega) (by omega) (Nat.le_trans HW4.out HA4.out.size) ?_)
          intro v5 w5 hr5 hg5 hn5
          have HEP := hid (show pt (T.map (shK n)) k = ⟨kd, tx, nu, zs.map (· + (n : Int))⟩ by rw [pt_sh _ _ (by rw [← HL.out]; exact hkl), ← HPT.out]; rfl)
          have HMR := hid (OwnP.more HO5.out (show OwnI _ X.heap.size (.slice ka1 q kc1) (pt (T.map (shK n)) k).kids by rw [HEP.out]; exact OK5.out) (by rw [HEP.out]; exact hr5) hg5)
          have HB5 := hid (show Below X.heap.size X w5 by
            have h1 : Below X.heap.size X W4 := HBU.out.trans (HB4.out.mono HWB.out)
            refine (h1.trans (HA4.out.mono HW4.out)).grown hg5 (Nat.le_trans HW4.out HA4.out.size) (fun k hk => ?_)
            exact (HO5.out.row.lt k hk).1)
          clear hr5 hg5 hn5 hi hz0 hz1 hz2 x0 x1 x2 x4
          go_wp2_with fail
          refine ⟨⟨k + 1, _, by omega, by simp, HB5, HMR⟩, ?_⟩
          show L - ((k : Int) + 1).toNat < L - ((k : Int)).toNat
          omega
    · have hki : ¬ ((k : Int) < (L : Int)) := by omega
      obtain rfl : k = L := by omega
      go_wp2_with fail
      go_ret
      exact ⟨_, rfl, ⟨ks, HO.out.base (Nat.le_of_lt HLT.out)⟩, HB1.out.trans (HB.out.mono (Nat.le_of_lt HLT.out))⟩
end Go.Proofs.YtcldglilhhhdoaaGreatDoor.L
namespace Go.Proofs.YtcldglilhhhdoaaGreatDoor.L
open Go.RowKit
set_option linter.unusedVariables false
set_option linter.unusedSimpArgs false
/-- Is it a fault of a limit? -/
def limB (c : Int) : Bool := decide (c = 110) || decide (c = 122) || decide (c = 123)
set_option maxHeartbeats 4000000 in
set_option maxRecDepth 100000 in
theorem limited_any (c x : Int) (w : World) : Calls Tryz.prog 30 #[.agg (f19 c x)] w fun e w' => e = .returned (.bool (limB c)) ∧ Below w.heap.size w w' := by
  obtain ⟨CS, hcs⟩ : ∃ CS : Array Value, CS = f19 c x := ⟨_, rfl⟩
  have HCS := hid hcs
  rw [← hcs]
  clear hcs
  by_cases h0 : c = 110
  · subst h0
    have e9 : limB 110 = true := by decide
    rw [e9]
    go_enter Tryz.func30, Tryz.ntmps30
    go_upto_region 1 with fail
    (try rw [e1])
    have HX := hid (heap_alloc_new w (.cells CS 35))
    have HB := hid (belowA w (.cells CS 35))
    generalize w.alloc (.cells CS 35) = X at *
    have k0 : X.cell? ⟨w.heap.size, 0, none⟩ = some (.int .i64 110) := (cell_of_row _ _ 0 _ _ _ HX.out).trans (by rw [HCS.out]; rfl)
    go_wp2_with fail
    go_ret
    exact ⟨rfl, HB.out⟩
  by_cases h1 : c = 122
  · subst h1
    have e9 : limB 122 = true := by decide
    rw [e9]
    go_enter Tryz.func30, Tryz.ntmps30
    go_upto_region 1 with fail
    (try rw [e1])
    have HX := hid (heap_alloc_new w (.cells CS 35))
    have HB := hid (belowA w (.cells CS 35))
    generalize w.alloc (.cells CS 35) = X at *
    have k0 : X.cell? ⟨w.heap.size, 0, none⟩ = some (.int .i64 122) := (cell_of_row _ _ 0 _ _ _ HX.out).trans (by rw [HCS.out]; rfl)
    go_wp2_with fail
    go_ret
    exact ⟨rfl, HB.out⟩
  by_cases h2 : c = 123
  · subst h2
    have e9 : limB 123 = true := by decide
    rw [e9]
    go_enter Tryz.func30, Tryz.ntmps30
    go_upto_region 1 with fail
    (try rw [e1])
    have HX := hid (heap_alloc_new w (.cells CS 35))
    have HB := hid (belowA w (.cells CS 35))
    generalize w.alloc (.cells CS 35) = X at *
    have k0 : X.cell? ⟨w.heap.size, 0, none⟩ = some (.int .i64 123) := (cell_of_row _ _ 0 _ _ _ HX.out).trans (by rw [HCS.out]; rfl)
    go_wp2_with fail
    go_ret
    exact ⟨rfl, HB.out⟩
  have e9 : limB c = false := by unfold limB; simp [h0, h1, h2]
  rw [e9]
  have g0 : (c == 110) = false := by simpa using h0
  have g1 : (c == 122) = false := by simpa using h1
  have g2 : (c == 123) = false := by simpa using h2
  go_enter Tryz.func30, Tryz.ntmps30
  go_upto_region 1 with fail
  (try rw [e1])
  have HX := hid (heap_alloc_new w (.cells CS 35))
  have HB := hid (belowA w (.cells CS 35))
  generalize w.alloc (.cells CS 35) = X at *
  have k0 : X.cell? ⟨w.heap.size, 0, none⟩ = some (.int .i64 c) := (cell_of_row _ _ 0 _ _ _ HX.out).trans (by rw [HCS.out]; rfl)
  go_wp2_with fail
  go_ret
  exact ⟨rfl, HB.out⟩
end Go.Proofs.YtcldglilhhhdoaaGreatDoor.L
