import Derived.Test.YtlhlpamciafocaaGreatDoorMgAY
import Derived.Laws.OwnMore
import Derived.Laws.MakeOwn
import Derived.Deep.CutRange
import Derived.RangeFuncNested
import Derived.RangeFuncBound
import Derived.RangeFuncCalls
import Derived.RangeFuncLeaves
import Derived.Shelf.RegionOpen
import Derived.WalkKit
import Derived.WalkMore
import Derived.OwnWalkIn
import Derived.TacticsInMore
import Derived.LoopNIn
import Derived.LoopIn
import Derived.Deep.Cut
namespace Go.Proofs.YtlhlpamciafocaaGreatDoor.L.Sw
open Go.RowKit
set_option linter.unusedVariables false
set_option maxHeartbeats 16000000 in
set_option maxRecDepth 100000 in
theorem barred_any (a : Option Addr) (T : List Pt) (cap : Nat) (w : World) (hT : PL w a T) (h1 : 1 ≤ T.length) (hL : T.length ≤ 1000) (hG : GdT T) :
    Calls Tryz.prog 26 #[.slice a T.length cap] w fun e w' => ∃ i : Int, e = .returned (.int .i64 i) ∧ BarR T i ∧ Below w.heap.size w w' := by
  obtain ⟨i3, hi, hz0, hz1i, hz2⟩ := info_parts info3
  obtain ⟨L, hLe⟩ : ∃ L, L = T.length := ⟨_, rfl⟩
  have HT := hid hT
  have HL := hid hLe
  have HG := hid hG
  have HEQ := hid equal_any
  have HRI := hid right_any
  have HFO := hid formof_any
  have RC := run_cl
  rw [← hLe] at hL h1 ⊢
  clear hT hLe hG
  go_enter Tryz.func26, Tryz.ntmps26
  go_wp2_with fail
  go_loopw [3, 10] (fun v i wr => ∃ k : Nat, k ≤ L ∧ i = .int .i64 k ∧ Hid (Below w.heap.size w wr) ∧ Hid (OwnI wr w.heap.size v (fre T k)) ∧ Hid (∀ j, j < k → OkA T j)) (fun _ i _ => L - (intOf i).toNat)
  case atStart => exact ⟨0, Nat.zero_le _, rfl, hid (Below.refl _ _), hid (World.ownsRow_nil _ _ _ _), hid (fun j hj => by omega)⟩
  case round =>
    obtain ⟨k, hk, rfl, HB, OW, HE⟩ := hrel
    obtain ⟨va, vc, rfl⟩ := own_form OW.out
    have hfl := fre_len T k
    obtain ⟨m, hm⟩ : ∃ m, m = (fre T k).length := ⟨_, rfl⟩
    rw [← hm] at OW hfl ⊢
    have HM := hid hm
    clear hm
    by_cases hlt : k < L
    · have r2 := HT.out.low HB.out
      rcases r2 with h0 | ⟨b2, o2, rfl, hb2, hc2⟩
      · have := HL.out; omega
      have hgk := HG.out.2 k (by rw [← HL.out]; exact hlt)
      obtain ⟨ka, kc, q0, q1, q2, q3, rk⟩ := hc2 k (by rw [← HL.out]; exact hlt)
      clear hc2
      have HOK := hid (ok_iff (T := T) (k := k) (by omega))
      obtain ⟨p, hp⟩ : ∃ p, p = pt T k := ⟨_, rfl⟩
      rw [← hp] at q0 q1 q2 q3 rk hgk HOK
      have HPT := hid hp
      obtain ⟨kd, tx, nu, ks⟩ := p
      simp only at q0 q1 q2 q3 rk hgk HOK
      obtain ⟨n, hn⟩ : ∃ n, n = ks.length := ⟨_, rfl⟩
      rw [← hn] at q3 hgk HOK
      have HN := hid hn
      have RK := hid rk
      clear hp hn rk
      have g1 : (k : Int) < (L : Int) := by omega
      have g2 : (0 : Int) ≤ (k : Int) := by omega
      by_cases hA : m < n
      · have d1 : decide ((m : Int) - (n : Int) < 0) = true := by simp; omega
        go_wp2_with fail
        go_quiet (fail)
        go_wp2_with fail
        go_ret
        refine ⟨_, rfl, .inl ⟨k, rfl, by have := HL.out; omega, fun h => ?_, HE.out⟩, below_drewN (HB.out.alloc HB.out.size _) nq⟩
        have := (HOK.out.1 h).1
        rw [← HM.out] at this
        omega
      · obtain ⟨h, hh⟩ : ∃ h, m = h + n := ⟨m - n, by omega⟩
        have hmn : (m : Int) - (n : Int) = (h : Int) := by omega
        have d1 : decide ((h : Int) < 0) = false := by simp
        obtain ⟨tx1, tc1, TR, TRD⟩ := tail_run OW.out HM.out hh
        have bx := belowA wr (.cells #[.int .i64 kd, .string tx, .int .i64 nu, .slice ka n kc] 50)
        have HBX := hid bx
        have HXC := hid (heap_alloc_new wr (.cells #[.int .i64 kd, .string tx, .int .i64 nu, .slice ka n kc] 50))
        have HXS := hid (show (wr.alloc (.cells #[.int .i64 kd, .string tx, .int .i64 nu, .slice ka n kc] 50)).heap.size = wr.heap.size + 1 by simp)
        have HD := hid (TRD _ bx)
        have RK2 := hid (RK.out.low bx (Nat.le_refl _))
        have HPL := hid (HT.out.low (HB.out.trans (bx.mono HB.out.size)))
        have hdl : ((fre T k).drop h).length = n := by rw [List.length_drop, ← HM.out]; omega
        have HQ := HEQ.out ka tx1 ks ((fre T k).drop h) kc tc1
        rw [hdl, ← HN.out] at HQ
        have HQ2 := hid HQ
        have HH := hid hh
        have HGK := hid hgk
        clear TRD HQ hh bx hdl
        go_wp2_with fail
        generalize wr.alloc (.cells #[.int .i64 kd, .string tx, .int .i64 nu, .slice ka n kc] 50) = X at *
        generalize hwr : wr.heap.size = bx at *
        have HWR := hid hwr
        clear hwr q0 q1 q2 q3
        have ⟨x0, x1, x2, x3⟩ := cells4 HXC.out
        by_cases hEq : ks = (fre T k).drop h
        · have eD : decide (ks = (fre T k).drop h) = true := by simp [hEq]
          rw [eD] at HQ2
          have HNE := hid hEq
          have HR := fun W (hb : Below X.heap.size X W) => HRI.out (some ⟨b2, o2, none⟩) T cap ⟨kd, tx, nu, ks⟩ ka kc W (HPL.out.low hb) (RK2.out.low hb (Nat.le_refl _)) (fun y hy => by rw [hEq] at hy; have := fre_mem T k y (List.mem_of_mem_drop hy); have := HL.out; omega) (by simp only; rw [← HN.out]; omega) (by rw [← HL.out]; exact hL)
          simp only at HR
          rw [← HN.out, ← HL.out] at HR
          have HR2 := hid HR
          clear hEq eD HR
          go_region_held3 (fun Y => Y.cell? ⟨bx, 0, none⟩ = some (.int .i64 kd) ∧ Y.cell? ⟨bx, 1, none⟩ = some (.string tx) ∧ Y.cell? ⟨bx, 2, none⟩ = some (.int .i64 nu) ∧ Y.cell? ⟨bx, 3, none⟩ = some (.slice ka n kc))
            (first | exact ⟨x0, x1, x2, x3⟩ | exact T2 | exact T3)
            (first
              | (go_at_call 37; refine (HQ2.out _ (RK2.out.low ?k1 (Nat.le_refl _)) (HD.out.low ?k1 (Nat.le_refl _)) HGK.out).mono ?_
                 case k1 => exact ⟨rfl, rfl, rfl, Nat.le_refl _, fun _ _ => rfl⟩
                 rintro e w2 ⟨rfl, m2, hm2⟩
                 have L2 := hid (show Below X.heap.size X w2 by rw [hm2]; exact ⟨rfl, rfl, rfl, Nat.le_refl _, fun _ _ => rfl⟩)
                 have T2 := cells4 ((L2.out.block _ (lt_blk HXC.out)).trans HXC.out)
                 clear hm2)
              | (go_at_call 38; refine (HR2.out _ (show Below X.heap.size X _ from ⟨L2.out.os, L2.out.tape, L2.out.output, L2.out.size, L2.out.block⟩)).mono ?_
                 rintro e w3 ⟨bb, rfl, hbb, l3⟩
                 have L3 := hid (show Below X.heap.size X w3 from L2.out.trans (l3.mono L2.out.size))
                 have HBB := hid hbb
                 have T3 := cells4 ((L3.out.block _ (lt_blk HXC.out)).trans HXC.out)
                 clear l3 hbb))
          have BW3 := hid (show Below w.heap.size w w3 from (HB.out.trans (HBX.out.mono (by have := HB.out.size; have := HWR.out; omega))).trans (L3.out.mono (by have := HB.out.size; have := HWR.out; have := HXS.out; omega)))
          have BR3 := hid (show Below wr.heap.size wr w3 from (show Below wr.heap.size wr X by rw [HWR.out]; exact HBX.out).trans (L3.out.mono (by have := HWR.out; have := HXS.out; omega)))
          clear T2 T3 L2 x0 x1 x2 x3 HR2 HQ2 TR
          cases bb
          · go_wp2_with fail
            go_ret
            refine ⟨_, rfl, .inl ⟨k, rfl, by have := HL.out; omega, fun ho => ?_, HE.out⟩, BW3.out⟩
            have h2 := HBB.out.2 (HOK.out.1 ho).2.2
            cases h2
          · have HRN := head_run (h := h) OW.out HM.out (by have := HH.out; omega)
            have O0 := hid (own_take (show OwnI w3 w.heap.size (.slice va (fre T k).length vc) (fre T k) by rw [← HM.out]; exact own_low OW.out BR3.out) h (by have := HH.out; have := HM.out; omega))
            have own0 := hid (own_block O0.out)
            have hhm : h ≤ 1000 := by have := HH.out; omega
            have hok : OkA T k := HOK.out.2 ⟨by have := HM.out; have := HH.out; omega, by rw [← HM.out, show m - n = h by have := HH.out; omega]; exact HNE.out, HBB.out.1 rfl⟩
            have HFR := hid (show fre T (k + 1) = (fre T k).take h ++ [(k : Int)] by
              show (fre T k).take ((fre T k).length - (pt T k).kids.length) ++ _ = _
              rw [← HPT.out]
              simp only
              rw [← HM.out, ← HN.out, show m - n = h by have := HH.out; omega])
            have HOKK := hid hok
            have hth : ((fre T k).take h).length = h := by rw [List.length_take, ← HM.out]; have := HH.out; omega
            have O1 : w3.ownsRow w.heap.size 3 1 (.slice va h vc) h (((fre T k).take h).map (Value.int .i64)) := by
              have := O0.out
              unfold OwnI at this
              rw [hth] at this
              exact this
            have O2 := hid O1
            clear hok hmn O1 hth
            go_wp2_with (at_builtin; refine wpList_append_own _ rfl _ _ 34 rfl w.heap.size 3 i3 (.int .i64 0) 1 8 Tryz.underlying34 hi hz0 hz1i hz2 rfl (by decide) _ _ _ rfl (O2.out.alloc _) ⟨w3.heap.size, 0, none⟩ 1 1 [.int .i64 k] rfl rfl ?c1 ?c2 ?c3 ?c4 ?c5 ?_)
            case c2 => rfl
            case c3 => unfold maxLen; omega
            case c4 => omega
            case c5 => have := BW3.out.size; simp; omega
            intro v' w4 hown' hgrow _
            have B4 := hid (show Below w.heap.size w w4 from (BW3.out.alloc BW3.out.size _).grown hgrow (by have := BW3.out.size; simp; omega) (fun j e => (own0.out j e).1))
            have O4 := hid (show OwnI w4 w.heap.size v' (fre T (k + 1)) by
              rw [HFR.out]
              unfold OwnI
              rw [List.map_append, List.length_append, List.length_take, ← HM.out, show min h m = h by have := HH.out; omega]
              rw [List.map_take]
              exact hown')
            clear hown' hgrow
            go_wp2_with fail
            refine ⟨⟨k + 1, by omega, by go_num, B4, O4, hid (fun j hj => ?_)⟩, by simp [intOf]; omega⟩
            by_cases e : j = k
            · rw [e]; exact HOKK.out
            · exact HE.out j (by omega)
        · have eD : decide (ks = (fre T k).drop h) = false := by simp [hEq]
          rw [eD] at HQ2
          have HNE := hid hEq
          clear hEq eD
          go_quiet ((go_at_call 37; exact Calls.quiet_of (HQ2.out _ (RK2.out.drew _) (HD.out.drew _) HGK.out)))
          go_wp2_with fail
          go_ret
          refine ⟨_, rfl, .inl ⟨k, rfl, by have := HL.out; omega, fun ho => ?_, HE.out⟩, below_drewN (HB.out.trans (HBX.out.mono (by have := HB.out.size; have := HWR.out; omega))) nq⟩
          have h2 := (HOK.out.1 ho).2.1
          rw [← HM.out, show m - n = h by have := HH.out; omega] at h2
          exact HNE.out h2
    · obtain rfl : k = L := by omega
      have HOK0 := hid (show Ok0 T from fun j hj => HE.out j (by rw [HL.out]; exact hj))
      have hll : ((k : Int) - 1) = ((k - 1 : Nat) : Int) := by omega
      have HLS := hid (show ((T.length - 1 : Nat) : Int) = ((k - 1 : Nat) : Int) by rw [← HL.out])
      by_cases h1m : 1 < m
      · have d1 : decide ((1 : Int) < (m : Int)) = true := by simp; omega
        go_wp2_with fail
        go_ret
        refine ⟨_, rfl, .inr (.inl ⟨HLS.out.symm, HOK0.out, .inr ?_⟩), HB.out⟩
        rw [← HL.out, ← HM.out]
        exact h1m
      · have d1 : decide ((1 : Int) < (m : Int)) = false := by simp; omega
        have r2 := HT.out.low HB.out
        rcases r2 with h0 | ⟨b2, o2, rfl, hb2, hc2⟩
        · have := HL.out; omega
        obtain ⟨ka, kc, q0, _⟩ := hc2 (k - 1) (by rw [← HL.out]; omega)
        clear hc2
        obtain ⟨kk, hkk⟩ : ∃ kk, kk = (pt T (k - 1)).kind := ⟨_, rfl⟩
        rw [← hkk] at q0
        have HKK := hid hkk
        clear hkk
        have g1 : ((k - 1 : Nat) : Int) < (k : Int) := by omega
        have g2 : (0 : Int) ≤ ((k - 1 : Nat) : Int) := by omega
        generalize hkm : k - 1 = km at *
        have HKM := hid hkm
        clear hkm
        unfold fmv at HFO
        by_cases hc : (fmO kk).cl = 1
        · have e1 : ((fmO kk).cl != 1) = false := by simp [hc]
          have HC := hid hc
          clear hc
          go_wp2_with (go_at_call 39; refine (HFO.out _ _).mono ?_; rintro e w1 ⟨rfl, l1⟩; have L1 := hid l1; clear l1)
          go_ret
          refine ⟨_, rfl, .inr (.inr ⟨rfl, HOK0.out, ?_⟩), HB.out.trans (L1.out.mono HB.out.size)⟩
          rintro (h | h)
          · have h3 := (cl_one kk).1 HC.out
            rw [← HL.out, HKM.out, ← HKK.out] at h
            exact h h3
          · rw [← HL.out, ← HM.out] at h
            exact h1m h
        · have e1 : ((fmO kk).cl != 1) = true := by simp [hc]
          have HC := hid hc
          clear hc
          go_wp2_with (go_at_call 39; refine (HFO.out _ _).mono ?_; rintro e w1 ⟨rfl, l1⟩; have L1 := hid l1; clear l1)
          go_ret
          refine ⟨_, rfl, .inr (.inl ⟨HLS.out.symm, HOK0.out, .inl ?_⟩), HB.out.trans (L1.out.mono HB.out.size)⟩
          intro h
          rw [← HL.out, HKM.out, ← HKK.out] at h
          exact HC.out ((cl_one kk).2 h)
end Go.Proofs.YtlhlpamciafocaaGreatDoor.L.Sw
namespace Go.Proofs.YtlhlpamciafocaaGreatDoor.L.Sw
open Go.RowKit
set_option linter.unusedVariables false
theorem own_set {W : World} {base g L cap : Nat} {zs : List Int} (h : OwnI W base (.slice (some ⟨g, 0, none⟩) L cap) zs) (hL : L = zs.length) (x : Nat) (v : Int) :
    OwnI (W.setCell ⟨g, x, none⟩ (.int .i64 v)) base (.slice (some ⟨g, 0, none⟩) L cap) (zs.set x v) ∧ W.grownBy (W.setCell ⟨g, x, none⟩ (.int .i64 v)) (some g) := by
  subst hL
  have := World.ownsRow.stored h x (.int .i64 v)
  refine ⟨?_, this.2⟩
  unfold OwnI
  rw [List.length_set, List.map_set]
  exact this.1
theorem own_cell {W : World} {base g L cap : Nat} {zs : List Int} (h : OwnI W base (.slice (some ⟨g, 0, none⟩) L cap) zs) (hL : L = zs.length) (j : Nat) (hj : j < L) : W.cell? ⟨g, j, none⟩ = some (.int .i64 (zs.getD j 0)) ∧ W.frozen? ⟨g, j, none⟩ = false := by
  subst hL
  refine ⟨?_, World.ownsRow.frozenAt h j⟩
  rw [World.ownsRow.cellAt h j (by omega), List.getElem?_map, List.getElem?_eq_getElem hj, List.getD_eq_getElem?_getD, List.getElem?_eq_getElem hj]
  rfl
theorem make_ints (n : Nat) (hn : n ≤ 1000) (w : World) : (Instr.makeSlice 34 (.int .i64 (n : Int)) (.int .i64 (n : Int))).run Tryz.prog w = .ok (.slice (some ⟨w.heap.size, 0, none⟩) n n) (w.alloc (.cells (madeCells #[.int .i64 0] n) 3)) := by
  obtain ⟨i, hi, hz, hs, hb⟩ := info_parts info3
  have h := run_makeSlice (P := Tryz.prog) w 34 3 i (.int .i64 0) Tryz.underlying34 hi hz .i64 .i64 n n (by omega) (by omega) (by rw [hs]; omega) (by rw [hb]; omega) (by omega)
  rw [hs] at h
  simpa [Value.cells] using h
theorem own_made (w : World) (n base : Nat) (hn : n ≤ 1000) (hb : base ≤ w.heap.size) : OwnI (w.alloc (.cells (madeCells #[.int .i64 0] n) 3)) base (.slice (some ⟨w.heap.size, 0, none⟩) n n) (List.replicate n 0) := by
  have h := World.ownsRow_lit (base := base) (e := 3) (size := 1) w (madeCells #[.int .i64 0] n) n hb (by unfold maxLen; omega) (by rw [size_madeCells]; simp)
  unfold OwnI
  rw [List.length_replicate, List.map_replicate, ← toList_madeCells_one]
  exact h
theorem own_mono {W : World} {base base' : Nat} {v : Value} {zs : List Int} (h : OwnI W base v zs) (hb : base' ≤ base) : OwnI W base' v zs := by
  refine ⟨h.1, ?_⟩
  rcases h.2 with e | ⟨g, cap, cur, e, hg, r⟩
  · exact .inl e
  · exact .inr ⟨g, cap, cur, e, Nat.le_trans hb hg, r⟩
theorem inn_cons (T : List Pt) (i : Nat) (x : Int) (ks n : List Int) : inn T i (x :: ks) n = inn T i ks (n.set x.toNat (n.getD i 0 + btw (pt T i).kind (pt T x.toNat).kind)) := rfl
end Go.Proofs.YtlhlpamciafocaaGreatDoor.L.Sw
namespace Go.Proofs.YtlhlpamciafocaaGreatDoor.L.Sw
open Go.RowKit
set_option linter.unusedVariables false
/-- The greatest nest. -/
def NestR (T : List Pt) (v : Int) : Prop := (∀ j, j < T.length → (nests T).getD j 0 ≤ v) ∧ ∃ j, j < T.length ∧ (nests T).getD j 0 = v
theorem NestR.one {T : List Pt} {u v : Int} (h : NestR T u) (k : NestR T v) : u = v := by
  obtain ⟨h1, i, hi, rfl⟩ := h
  obtain ⟨k1, j, hj, rfl⟩ := k
  have a := h1 j hj
  have b := k1 i hi
  omega
theorem _root_.Go.Proofs.YtlhlpamciafocaaGreatDoor.L.Res.ok {T : List Pt} {i : Nat} (h : Res T 0 i) : 1 ≤ T.length ∧ T.length ≤ 1000 ∧ Ok0 T ∧ i = 0 := by
  rcases h with ⟨_, e, _⟩ | ⟨_, e, _⟩ | ⟨h1, h2, ⟨_, e⟩ | ⟨_, _, e, _⟩ | ⟨ho, _, ⟨_, e⟩ | ⟨_, _, e⟩⟩⟩
  · cases e
  · cases e
  · cases e
  · cases e
  · cases e
  · exact ⟨h1, h2, ho, e⟩
end Go.Proofs.YtlhlpamciafocaaGreatDoor.L.Sw
namespace Go.Proofs.YtlhlpamciafocaaGreatDoor.L.Sw
open Go.RowKit Go.Shelf
set_option linter.unusedVariables false
attribute [local go_sem] Oper.semAt_some
/-- A part as a value. -/
def ptv (p : Pt) (ka : Option Addr) (kc : Nat) : Value := .agg #[.int .i64 p.kind, .string p.text, .int .i64 p.num, .slice ka p.kids.length kc]
/-- Backward's func over the box X. -/
def backB (X : Nat) : Value := .func (.func 57) #[] #[.pointer (some ⟨X, 0, none⟩)]
set_option maxHeartbeats 2000000 in
theorem back_any (va : Option Addr) (vn vc : Nat) (w : World) : Calls Tryz.prog 40 #[.slice va vn vc] w fun e w' => e = .returned (backB w.heap.size) ∧ Boxed w' w.heap.size 22 (.slice va vn vc) ∧ Below w.heap.size w w' := by
  go_enter Tryz.func40, Tryz.ntmps40
  go_wp2_with fail
  go_ret
  exact ⟨rfl, Boxed.new w _ _, belowA w _⟩
set_option maxHeartbeats 4000000 in
set_option maxRecDepth 100000 in
theorem back_px (n : Nat) (hn : 1 ≤ n) (l X : Nat) (T : List Pt) (pa : Option Addr) (cap : Nat) (hL : T.length ≤ 1000) (h1 : 1 ≤ T.length) (J : Nat → World → Prop)
    (hJ : ∀ k W, J k W → PL W pa T ∧ W.cell? ⟨X, 0, none⟩ = some (.slice pa T.length cap))
    (hY : ∀ m i ka kc W, J (i + 1) W → i < T.length → RdI W ka (pt T i).kids → (∃ b off, pa = some ⟨b, off, none⟩ ∧ W.cell? ⟨b, off + i * 4 + 3, none⟩ = some (.slice ka (pt T i).kids.length kc)) → YieldAt Fence.wide m Tryz.prog l #[.int .i64 (i : Int), ptv (pt T i) ka kc] W fun e W' => e = .returned (.bool true) ∧ J i W')
    (W : World) (h0 : J T.length W) :
    CallsIn Fence.wide n Tryz.prog 57 #[.func (.yield l) #[] #[], .pointer (some ⟨X, 0, none⟩)] W fun e W' => (∃ v, e = .returned v) ∧ J 0 W' := by
  have HY := hid hY
  have HJ := hid hJ
  have H0 := hid h0
  obtain ⟨L, hLe⟩ : ∃ L, L = T.length := ⟨_, rfl⟩
  have HL := hid hLe
  have q0 := (hJ _ _ h0).2
  rw [← hLe] at hL h1 q0
  have HLI : ((L : Int) - 1) = ((L - 1 : Nat) : Int) := by omega
  clear hY hJ h0 hLe
  refine callsIn_wide.2 ?_
  go_enter Tryz.func57, Tryz.ntmps57
  go_wp2_with fail
  go_loopw [3] (fun i wr => ∃ k : Nat, k ≤ L ∧ i = .int .i64 ((k : Int) - 1) ∧ Hid (J k wr)) (fun i _ => (intOf i + 1).toNat)
  case atStart => exact ⟨L, Nat.le_refl _, by rw [HLI], by rw [HL.out]; exact H0⟩
  case round =>
    clear q0
    obtain ⟨k, hk, rfl, HK⟩ := hrel
    cases k with
    | zero =>
      rw [show (((0 : Nat) : Int) - 1) = -1 from rfl]
      go_wp2_with fail
      go_end0
      exact ⟨⟨_, rfl⟩, HK.out⟩
    | succ i =>
      have hki : (((i + 1 : Nat) : Int) - 1) = (i : Int) := by omega
      rw [hki]
      clear hki
      obtain ⟨r2, q0⟩ := HJ.out _ _ HK.out
      rw [← HL.out] at q0
      rcases r2 with h0 | ⟨b2, o2, rfl, hb2, hc2⟩
      · have := HL.out; omega
      obtain ⟨ka, kc, c0, c1, c2, c3, rk⟩ := hc2 i (by rw [← HL.out]; omega)
      obtain ⟨fn, tmps, assign, body, hy, hR⟩ := HY.out (n - 1) i ka kc wr HK.out (by rw [← HL.out]; omega) rk ⟨b2, o2, rfl, c3⟩
      have HR := hid hR
      unfold ptv at hy
      generalize (pt T i).kids.length = nk at *
      generalize (pt T i).kind = kd at *
      generalize (pt T i).text = tx at *
      generalize (pt T i).num = nu at *
      clear hc2 hR rk
      have g1 : (i : Int) < (L : Int) := by omega
      have g2 : (0 : Int) ≤ (i : Int) := by omega
      go_upto_region 3 with (fail)
      refine (wpIn_wide (n := n)).1 ?_
      gi_wp2
      refine HR.out.mono ?_
      rintro e W2 ⟨rfl, hJ2⟩
      have HJ2 := hid hJ2
      clear hJ2 HR hy c0 c1 c2 c3 q0
      gi_wp2
      go_wp2_with fail
      exact ⟨⟨i, by omega, by first | rfl | go_num, HJ2⟩, by simp only [intOf]; omega⟩
set_option maxHeartbeats 4000000 in
/-- A walk over Backward's func; its body runs to its end. -/
theorem backO {n : Nat} (hn : 2 ≤ n) {gf : Operand} {ps : Array Tmp} {assign body : Code} {Q : Exit → Act → World → Prop} {a : Act} {w : World} (X : Nat) (T : List Pt) (pa : Option Addr) (cap : Nat) (hL : T.length ≤ 1000) (h1 : 1 ≤ T.length)
    (hg : a.eval gf = backB X) (hps : ps.size = 2)
    (I : Nat → World → Prop) (hI : ∀ k W, I k W → PL W pa T ∧ W.cell? ⟨X, 0, none⟩ = some (.slice pa T.length cap)) (h0 : ∀ W', Below w.heap.size w W' → I T.length W')
    (hput : ∀ k W l r r', I k W → w.heap.size ≤ l → W.heap[l]? = some (.loop r) → I k (W.putObj l (.loop r')))
    (A : Nat → Value → Act → World → Prop) (hA : ∀ t v a' W l r r', A t v a' W → W.heap[l]? = some (.loop r) → A t v a' (W.putObj l (.loop r')))
    (hassign : ∀ m l i ka kc W K, w.heap.size ≤ W.heap.size → (∀ a' W', A i (ptv (pt T i) ka kc) a' W' → Below W.heap.size W W' → K a' W') → assign.wpIn (Fence.wide.inRound l) m Tryz.prog (Exit.then K (fun _ _ _ => False)) { tmps := (ps.zip #[.int .i64 (i : Int), ptv (pt T i) ka kc]).foldl (fun t (p, v) => t.setIfInBounds p v) a.tmps, defers := [] } W)
    (hbody : ∀ m l i ka kc a' W0 W, A i (ptv (pt T i) ka kc) a' W → w.heap.size ≤ l → (∃ r, W0.heap[l]? = some (.loop r)) → Lk l W0 W → I (i + 1) W0 → i < T.length → RdI W0 ka (pt T i).kids → (∃ b off, pa = some ⟨b, off, none⟩ ∧ W0.cell? ⟨b, off + i * 4 + 3, none⟩ = some (.slice ka (pt T i).kids.length kc)) → body.wpIn (Fence.wide.inRound l) m Tryz.prog (fun e _ W' => e = .normal ∧ Kb w.heap.size W W' ∧ I i W') a' W)
    (hdone : ∀ D W, w.heap.size ≤ D → I 0 W → W.heap[D]? = some (.deferred (some [])) → Q .normal { a with defers := { target := .collected D, args := #[] } :: a.defers } W) :
    (Code.rangeFunc gf ps assign body).wpIn Fence.wide n Tryz.prog Q a w := by
  refine wpIn_rangeFunc ?_
  intro fn hfn
  obtain ⟨rc, hrc⟩ : ∃ rc : LoopState → Option Code → Loop, rc = fun s p => { state := s, pending := p, fn, tmps := a.tmps, params := ps, assign, body, defers := w.heap.size } := ⟨_, rfl⟩
  obtain ⟨V, hV'⟩ : ∃ V, V = (w.alloc (.deferred (some []))).alloc (.loop (rc .ready none)) := ⟨_, rfl⟩
  have al : Below w.heap.size w V := by rw [hV']; exact ((Below.refl _ w).alloc (Nat.le_refl _) _).alloc (by simp) _
  have vd : V.heap[w.heap.size]? = some (.deferred (some [])) := by
    rw [hV']; exact (Below.heap_alloc _ _ _ (by simp)).trans (World.alloc_heap_new w _)
  have vl : V.heap[w.heap.size + 1]? = some (.loop (rc .ready none)) := by
    rw [hV']
    have := World.alloc_heap_new (w.alloc (.deferred (some []))) (.loop (rc .ready none))
    rwa [World.size_alloc] at this
  -- one round
  have ONE : ∀ m i ka kc (W : World) (RO : Ending → World → Prop), W.heap[w.heap.size + 1]? = some (.loop (rc .ready none)) → W.heap[w.heap.size]? = some (.deferred (some [])) →
      (∀ a' W2, A i (ptv (pt T i) ka kc) a' W2 → Lk (w.heap.size + 1) W W2 → body.wpIn (Fence.wide.inRound (w.heap.size + 1)) m Tryz.prog (fun e _ W' => Kb w.heap.size W2 W' ∧ e = .normal ∧ (W'.heap[w.heap.size + 1]? = some (.loop (rc .busy none)) → W'.heap[w.heap.size]? = some (.deferred (some [])) → RO (.returned (.bool true)) (W'.putObj (w.heap.size + 1) (.loop (rc .ready none))))) a' W2) →
      YieldAt Fence.wide m Tryz.prog (w.heap.size + 1) #[.int .i64 (i : Int), ptv (pt T i) ka kc] W RO := by
    intro m i ka kc W RO hL hD hbd
    have hy := run_yield (P := Tryz.prog) (args := #[.int .i64 (i : Int), ptv (pt T i) ka kc]) hL (by rw [hrc]; simp [hps])
    rw [hrc] at hy
    refine ⟨fn, _, assign, body, hy, roundIn_of_wpIn hfn (hassign m _ i ka kc W _ (by have := lt_blk hL; omega) ?_)⟩
    intro a' W1 ha' hW1
    have hltW := lt_blk hL
    have hDW := lt_blk hD
    replace hD := (hW1.block _ hDW).trans hD
    replace hL := (hW1.block _ hltW).trans hL
    have hlt := lt_blk hL
    refine ⟨_, run_beginRound hL (by rw [hrc]), ?_⟩
    have L2 : (W1.putObj (w.heap.size + 1) (.loop { rc .ready none with state := .busy })).heap[w.heap.size + 1]? = some (.loop { rc .ready none with state := .busy }) := World.putObj_heap_same hlt
    have D2 : (W1.putObj (w.heap.size + 1) (.loop { rc .ready none with state := .busy })).heap[w.heap.size]? = some (.deferred (some [])) := (World.putObj_heap_other (by omega)).trans hD
    have hlk : Lk (w.heap.size + 1) W (W1.putObj (w.heap.size + 1) (.loop { rc .ready none with state := .busy })) := by
      refine ⟨hW1.os, hW1.tape, hW1.output, by rw [World.putObj_size]; exact hW1.size, fun k hk hne => ?_⟩
      rw [World.putObj_heap_other hne, hW1.block k hk]
    refine wpIn_mono (hbd a' _ (hA _ _ _ _ _ _ _ ha' hL) hlk) ?_
    rintro e a3 W3 ⟨hk, rfl, hi3⟩
    have L3 := hk.same _ _ (by omega) L2 rfl
    have D3 := hk.same _ _ (Nat.le_refl _) D2 rfl
    have L3' : W3.heap[w.heap.size + 1]? = some (.loop (rc .busy none)) := by rw [L3, hrc]
    have hr := run_endRound (P := Tryz.prog) none L3'
    refine ⟨_, _, hr, ?_⟩
    have := hi3 L3' D3
    rw [hrc] at this ⊢
    exact this
  refine ⟨w.heap.size + 1, [{ target := .collected w.heap.size, args := #[] }], V, { target := .fn (.func 57) #[.pointer (some ⟨X, 0, none⟩)], args := #[.func (.yield (w.heap.size + 1)) #[] #[]] }, V, 57,
    #[.func (.yield (w.heap.size + 1)) #[] #[], .pointer (some ⟨X, 0, none⟩)], V, ?_, ?_, fun f' _ => trivial, ?_, fun _ => by omega, ?_⟩
  · rw [hV', hrc]
    exact run_enterLoop_outer _ _ _ _ _
  · simp only [resolve, hg, backB]
    simp [go_sem]
  · simp [invoke, go_sem]
  · refine (back_px (n - 1) (by omega) (w.heap.size + 1) X T pa cap hL h1
      (fun k W => I k W ∧ W.heap[w.heap.size + 1]? = some (.loop (rc .ready none)) ∧ W.heap[w.heap.size]? = some (.deferred (some [])))
      (fun k W h => hI k W h.1) ?_ V ⟨h0 _ al, vl, vd⟩).mono ?_
    · rintro m i ka kc W ⟨hi, hL, hD⟩ hil hrd hce
      refine ONE m i ka kc W _ hL hD ?_
      intro a' W2 hA2 hlk
      refine wpIn_mono (hbody m (w.heap.size + 1) i ka kc a' W W2 hA2 (by omega) ⟨_, hL⟩ hlk hi hil hrd hce) ?_
      rintro e a3 W' ⟨he, hk, hi'⟩
      exact ⟨hk, he, fun L3 D3 => ⟨rfl, hput _ _ _ _ _ hi' (by omega) L3, World.putObj_heap_same (lt_blk L3), (World.putObj_heap_other (by omega)).trans D3⟩⟩
    · rintro e W2 ⟨⟨v', rfl⟩, hi, hL, hD⟩
      have he := run_endLoop (P := Tryz.prog) hL (by rw [hrc]; simp)
      rw [hrc] at he
      exact ⟨none, _, he, hdone _ _ (Nat.le_refl _) (hput _ _ _ _ _ hi (by omega) hL) ((World.putObj_heap_other (by omega)).trans hD)⟩
end Go.Proofs.YtlhlpamciafocaaGreatDoor.L.Sw
