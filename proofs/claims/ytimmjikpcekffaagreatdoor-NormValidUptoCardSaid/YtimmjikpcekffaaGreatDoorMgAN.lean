import Derived.Test.YtimmjikpcekffaaGreatDoorMgAM
import Derived.WideShapes
namespace Go.Proofs.YtimmjikpcekffaaGreatDoor.L
open Go.RowKit
set_option linter.unusedVariables false
theorem RdI.drew {w : World} {a : Option Addr} {zs : List Int} (h : RdI w a zs) (n : Nat) : RdI (w.drewN n) a zs := h
/-- What barred answers. -/
def BarR (T : List Pt) (i : Int) : Prop := (∃ j : Nat, i = j ∧ Bar T j) ∨ (i = ((T.length - 1 : Nat) : Int) ∧ Ok0 T ∧ Lst T) ∨ (i = -1 ∧ Ok0 T ∧ ¬ Lst T)
theorem ok_iff {T : List Pt} {k : Nat} (hk : k < 1000) : OkA T k ↔ (pt T k).kids.length ≤ (fre T k).length ∧ (pt T k).kids = (fre T k).drop ((fre T k).length - (pt T k).kids.length) ∧ tabP T (pt T k) := by
  constructor
  · intro h
    have h1 := h.many
    have h2 := fre_len T k
    exact ⟨h.many, h.kids, (tab_iff T _ (by omega)).2 h.tab⟩
  · rintro ⟨h1, h2, h3⟩
    have h4 := fre_len T k
    exact ⟨h1, h2, (tab_iff T _ (by omega)).1 h3⟩
set_option maxRecDepth 100000 in
theorem tail_nil (W : World) : (Instr.slice 29 (.slice none 0 0) (some (.int .i64 ((0 : Nat) : Int))) none none).run Tryz.prog W = .ok (.slice none 0 0) W := by kernel_rfl
set_option maxRecDepth 100000 in
/-- The end of an own row, from place h on. -/
theorem tail_run {w : World} {base : Nat} {va : Option Addr} {m vc h n : Nat} {zs : List Int} (o : OwnI w base (.slice va m vc) zs) (hz : m = zs.length) (hm : m = h + n) : ∃ x c', (∀ W, (Instr.slice 29 (.slice va m vc) (some (.int .i64 (h : Int))) none none).run Tryz.prog W = .ok (.slice x n c') W) ∧ ∀ W, Below w.heap.size w W → RdI W x (zs.drop h) := by
  rcases o.2 with ⟨e, n0⟩ | ⟨g, cap, cur, e, hb, hg, h3, h4, h5, h6⟩
  · injection e with e1 e2 e3
    subst e1 e3
    have h0 : h = 0 := by omega
    have nn : n = 0 := by omega
    have mm : m = 0 := by omega
    subst h0 nn mm
    exact ⟨none, 0, tail_nil, fun W _ => .inl (by rw [List.length_drop]; omega)⟩
  · injection e with e1 e2 e3
    subst e1 e3
    have k1 : (h : Int) ≤ (m : Int) := by omega
    refine ⟨if vc = h then some ⟨g, 0, none⟩ else some ⟨g, h, none⟩, vc - h, fun W => ?_, fun W hW => ?_⟩
    · have e1 : m - h = n := by omega
      have k2 : (0 : Int) ≤ (h : Int) := by omega
      have k3 : (m : Int) ≤ (vc : Int) := by omega
      clear hm hz e2
      go_simp
    · by_cases e : vc = h
      · exact .inl (by rw [List.length_drop]; omega)
      · rw [if_neg e]
        rw [hz] at o
        rcases (own_rd (own_low o hW) h (by omega)).2 with z | ⟨g', eg, _, _, _, _, r⟩
        · exact .inl (by rw [List.length_drop]; omega)
        · cases eg
          exact r
set_option maxRecDepth 100000 in
theorem head_nil (W : World) : (Instr.slice 29 (.slice none 0 0) none (some (.int .i64 ((0 : Nat) : Int))) none).run Tryz.prog W = .ok (.slice none 0 0) W := by kernel_rfl
set_option maxRecDepth 100000 in
theorem head_run {w : World} {base : Nat} {va : Option Addr} {m vc h : Nat} {zs : List Int} (o : OwnI w base (.slice va m vc) zs) (hz : m = zs.length) (hm : h ≤ m) : ∀ W, (Instr.slice 29 (.slice va m vc) none (some (.int .i64 (h : Int))) none).run Tryz.prog W = .ok (.slice va h vc) W := by
  rcases o.2 with ⟨e, n0⟩ | ⟨g, cap, cur, e, hb, hg, h3, h4, h5, h6⟩
  · injection e with e1 e2 e3
    subst e1 e3
    have h0 : h = 0 := by omega
    have mm : m = 0 := by omega
    subst h0 mm
    exact head_nil
  · injection e with e1 e2 e3
    subst e1 e3
    intro W
    have k1 : (h : Int) ≤ (vc : Int) := by omega
    have k2 : (0 : Int) ≤ (h : Int) := by omega
    clear hm hz e2
    go_simp
theorem cell_one_new (w : World) (a : Value) (t : TypeId) : ∀ (j : Nat) (u : Value), [a][j]? = some u → (w.alloc (.cells #[a] t)).cell? ((⟨w.heap.size, 0, none⟩ : Addr).add j) = some u := by
  intro j u h
  rw [Go.WideShapes.add_plain]
  rw [cell_of_row (w.alloc (.cells #[a] t)) w.heap.size (0 + j) _ _ _ (heap_alloc_new w _)]
  simpa using h
set_option maxHeartbeats 16000000 in
set_option maxRecDepth 100000 in
theorem barred_any (a : Option Addr) (T : List Pt) (cap : Nat) (w : World) (hT : PL w a T) (h1 : 1 ≤ T.length) (hL : T.length ≤ 1000) (hG : GdT T) :
    Calls Tryz.prog 62 #[.slice a T.length cap] w fun e w' => ∃ i : Int, e = .returned (.int .i64 i) ∧ BarR T i ∧ Below w.heap.size w w' := by
  obtain ⟨i3, hi, hz0, hz1i, hz2⟩ := info_parts info3
  obtain ⟨L, hLe⟩ : ∃ L, L = T.length := ⟨_, rfl⟩
  have HT := hid hT
  have HL := hid hLe
  have HG := hid hG
  have HEQ := hid equal_any
  have HRI := hid right_any
  have HFO := hid formof_any
  have RC := run_cl
  rw [← hLe] at hL h1 ⊢
  clear hT hLe hG
  go_enter Tryz.func62, Tryz.ntmps62
  go_wp2_with fail
  go_loopw [3, 10] (fun v i wr => ∃ k : Nat, k ≤ L ∧ i = .int .i64 k ∧ Hid (Below w.heap.size w wr) ∧ Hid (OwnI wr w.heap.size v (fre T k)) ∧ Hid (∀ j, j < k → OkA T j)) (fun _ i _ => L - (intOf i).toNat)
  case atStart => exact ⟨0, Nat.zero_le _, rfl, hid (Below.refl _ _), hid (World.ownsRow_nil _ _ _ _), hid (fun j hj => by omega)⟩
  case round =>
    obtain ⟨k, hk, rfl, HB, OW, HE⟩ := hrel
    obtain ⟨va, vc, rfl⟩ := own_form OW.out
    have hfl := fre_len T k
    obtain ⟨m, hm⟩ : ∃ m, m = (fre T k).length := ⟨_, rfl⟩
    rw [← hm] at OW hfl ⊢
    have HM := hid hm
    clear hm
    by_cases hlt : k < L
    · have r2 := HT.out.low HB.out
      rcases r2 with h0 | ⟨b2, o2, rfl, hb2, hc2⟩
      · have := HL.out; omega
      have hgk := HG.out.2 k (by rw [← HL.out]; exact hlt)
      obtain ⟨ka, kc, q0, q1, q2, q3, rk⟩ := hc2 k (by rw [← HL.out]; exact hlt)
      clear hc2
      have HOK := hid (ok_iff (T := T) (k := k) (by omega))
      obtain ⟨p, hp⟩ : ∃ p, p = pt T k := ⟨_, rfl⟩
      rw [← hp] at q0 q1 q2 q3 rk hgk HOK
      have HPT := hid hp
      obtain ⟨kd, tx, nu, ks⟩ := p
      simp only at q0 q1 q2 q3 rk hgk HOK
      obtain ⟨n, hn⟩ : ∃ n, n = ks.length := ⟨_, rfl⟩
      rw [← hn] at q3 hgk HOK
      have HN := hid hn
      have RK := hid rk
      clear hp hn rk
      have g1 : (k : Int) < (L : Int) := by omega
      have g2 : (0 : Int) ≤ (k : Int) := by omega
      by_cases hA : m < n
      · have d1 : decide ((m : Int) - (n : Int) < 0) = true := by simp; omega
        go_wp2_with fail
        go_quiet (fail)
        go_wp2_with fail
        go_ret
        refine ⟨_, rfl, .inl ⟨k, rfl, by have := HL.out; omega, fun h => ?_, HE.out⟩, below_drewN (HB.out.alloc HB.out.size _) nq⟩
        have := (HOK.out.1 h).1
        rw [← HM.out] at this
        omega
      · obtain ⟨h, hh⟩ : ∃ h, m = h + n := ⟨m - n, by omega⟩
        have hmn : (m : Int) - (n : Int) = (h : Int) := by omega
        have d1 : decide ((h : Int) < 0) = false := by simp
        obtain ⟨tx1, tc1, TR, TRD⟩ := tail_run OW.out HM.out hh
        have bx := belowA wr (.cells #[.int .i64 kd, .string tx, .int .i64 nu, .slice ka n kc] 31)
        have HBX := hid bx
        have HXC := hid (heap_alloc_new wr (.cells #[.int .i64 kd, .string tx, .int .i64 nu, .slice ka n kc] 31))
        have HXS := hid (show (wr.alloc (.cells #[.int .i64 kd, .string tx, .int .i64 nu, .slice ka n kc] 31)).heap.size = wr.heap.size + 1 by simp)
        have HD := hid (TRD _ bx)
        have RK2 := hid (RK.out.low bx (Nat.le_refl _))
        have HPL := hid (HT.out.low (HB.out.trans (bx.mono HB.out.size)))
        have hdl : ((fre T k).drop h).length = n := by rw [List.length_drop, ← HM.out]; omega
        have HQ := HEQ.out ka tx1 ks ((fre T k).drop h) kc tc1
        rw [hdl, ← HN.out] at HQ
        have HQ2 := hid HQ
        have HH := hid hh
        have HGK := hid hgk
        clear TRD HQ hh bx hdl
        go_wp2_with fail
        generalize wr.alloc (.cells #[.int .i64 kd, .string tx, .int .i64 nu, .slice ka n kc] 31) = X at *
        generalize hwr : wr.heap.size = bx at *
        have HWR := hid hwr
        clear hwr q0 q1 q2 q3
        have ⟨x0, x1, x2, x3⟩ := cells4 HXC.out
        by_cases hEq : ks = (fre T k).drop h
        · have eD : decide (ks = (fre T k).drop h) = true := by simp [hEq]
          rw [eD] at HQ2
          have HNE := hid hEq
          have HR := fun W (hb : Below X.heap.size X W) => HRI.out (some ⟨b2, o2, none⟩) T cap ⟨kd, tx, nu, ks⟩ ka kc W (HPL.out.low hb) (RK2.out.low hb (Nat.le_refl _)) (fun y hy => by rw [hEq] at hy; have := fre_mem T k y (List.mem_of_mem_drop hy); have := HL.out; omega) (by simp only; rw [← HN.out]; omega) (by rw [← HL.out]; exact hL)
          simp only at HR
          rw [← HN.out, ← HL.out] at HR
          have HR2 := hid HR
          clear hEq eD HR
          go_region_held3 (fun Y => Y.cell? ⟨bx, 0, none⟩ = some (.int .i64 kd) ∧ Y.cell? ⟨bx, 1, none⟩ = some (.string tx) ∧ Y.cell? ⟨bx, 2, none⟩ = some (.int .i64 nu) ∧ Y.cell? ⟨bx, 3, none⟩ = some (.slice ka n kc))
            (first | exact ⟨x0, x1, x2, x3⟩ | exact T2 | exact T3)
            (first
              | (go_at_call 32; refine (HQ2.out _ (RK2.out.low ?k1 (Nat.le_refl _)) (HD.out.low ?k1 (Nat.le_refl _)) HGK.out).mono ?_
                 case k1 => exact ⟨rfl, rfl, rfl, Nat.le_refl _, fun _ _ => rfl⟩
                 rintro e w2 ⟨rfl, m2, hm2⟩
                 have L2 := hid (show Below X.heap.size X w2 by rw [hm2]; exact ⟨rfl, rfl, rfl, Nat.le_refl _, fun _ _ => rfl⟩)
                 have T2 := cells4 ((L2.out.block _ (lt_blk HXC.out)).trans HXC.out)
                 clear hm2)
              | (go_at_call 95; refine (HR2.out _ (show Below X.heap.size X _ from ⟨L2.out.os, L2.out.tape, L2.out.output, L2.out.size, L2.out.block⟩)).mono ?_
                 rintro e w3 ⟨bb, rfl, hbb, l3⟩
                 have L3 := hid (show Below X.heap.size X w3 from L2.out.trans (l3.mono L2.out.size))
                 have HBB := hid hbb
                 have T3 := cells4 ((L3.out.block _ (lt_blk HXC.out)).trans HXC.out)
                 clear l3 hbb))
          have BW3 := hid (show Below w.heap.size w w3 from (HB.out.trans (HBX.out.mono (by have := HB.out.size; have := HWR.out; omega))).trans (L3.out.mono (by have := HB.out.size; have := HWR.out; have := HXS.out; omega)))
          have BR3 := hid (show Below wr.heap.size wr w3 from (show Below wr.heap.size wr X by rw [HWR.out]; exact HBX.out).trans (L3.out.mono (by have := HWR.out; have := HXS.out; omega)))
          clear T2 T3 L2 x0 x1 x2 x3 HR2 HQ2 TR
          cases bb
          · go_wp2_with fail
            go_ret
            refine ⟨_, rfl, .inl ⟨k, rfl, by have := HL.out; omega, fun ho => ?_, HE.out⟩, BW3.out⟩
            have h2 := HBB.out.2 (HOK.out.1 ho).2.2
            cases h2
          · have HRN := head_run (h := h) OW.out HM.out (by have := HH.out; omega)
            have O0 := hid (own_take (show OwnI w3 w.heap.size (.slice va (fre T k).length vc) (fre T k) by rw [← HM.out]; exact own_low OW.out BR3.out) h (by have := HH.out; have := HM.out; omega))
            have own0 := hid (own_block O0.out)
            have hhm : h ≤ 1000 := by have := HH.out; omega
            have hok : OkA T k := HOK.out.2 ⟨by have := HM.out; have := HH.out; omega, by rw [← HM.out, show m - n = h by have := HH.out; omega]; exact HNE.out, HBB.out.1 rfl⟩
            have HFR := hid (show fre T (k + 1) = (fre T k).take h ++ [(k : Int)] by
              show (fre T k).take ((fre T k).length - (pt T k).kids.length) ++ _ = _
              rw [← HPT.out]
              simp only
              rw [← HM.out, ← HN.out, show m - n = h by have := HH.out; omega])
            have HOKK := hid hok
            have hth : ((fre T k).take h).length = h := by rw [List.length_take, ← HM.out]; have := HH.out; omega
            have O1 : w3.ownsRow w.heap.size 3 1 (.slice va h vc) h (((fre T k).take h).map (Value.int .i64)) := by
              have := O0.out
              unfold OwnI at this
              rw [hth] at this
              exact this
            have O2 := hid O1
            clear hok hmn O1 hth
            go_wp2_with (at_builtin; refine wpList_append_own _ rfl _ _ 29 rfl w.heap.size 3 i3 (.int .i64 0) 1 8 Tryz.underlying29 hi hz0 hz1i hz2 rfl (by decide) _ _ _ rfl (O2.out.alloc _) ⟨w3.heap.size, 0, none⟩ 1 1 [.int .i64 k] rfl rfl ?c1 ?c2 ?c3 ?c4 ?c5 ?_)
            case c2 => rfl
            case c3 => unfold maxLen; omega
            case c4 => omega
            case c5 => have := BW3.out.size; simp; omega
            intro v' w4 hown' hgrow _
            have B4 := hid (show Below w.heap.size w w4 from (BW3.out.alloc BW3.out.size _).grown hgrow (by have := BW3.out.size; simp; omega) (fun j e => (own0.out j e).1))
            have O4 := hid (show OwnI w4 w.heap.size v' (fre T (k + 1)) by
              rw [HFR.out]
              unfold OwnI
              rw [List.map_append, List.length_append, List.length_take, ← HM.out, show min h m = h by have := HH.out; omega]
              rw [List.map_take]
              exact hown')
            clear hown' hgrow
            go_wp2_with fail
            refine ⟨⟨k + 1, by omega, by go_num, B4, O4, hid (fun j hj => ?_)⟩, by simp [intOf]; omega⟩
            by_cases e : j = k
            · rw [e]; exact HOKK.out
            · exact HE.out j (by omega)
        · have eD : decide (ks = (fre T k).drop h) = false := by simp [hEq]
          rw [eD] at HQ2
          have HNE := hid hEq
          clear hEq eD
          go_quiet ((go_at_call 32; exact Calls.quiet_of (HQ2.out _ (RK2.out.drew _) (HD.out.drew _) HGK.out)))
          go_wp2_with fail
          go_ret
          refine ⟨_, rfl, .inl ⟨k, rfl, by have := HL.out; omega, fun ho => ?_, HE.out⟩, below_drewN (HB.out.trans (HBX.out.mono (by have := HB.out.size; have := HWR.out; omega))) nq⟩
          have h2 := (HOK.out.1 ho).2.1
          rw [← HM.out, show m - n = h by have := HH.out; omega] at h2
          exact HNE.out h2
    · obtain rfl : k = L := by omega
      have HOK0 := hid (show Ok0 T from fun j hj => HE.out j (by rw [HL.out]; exact hj))
      have hll : ((k : Int) - 1) = ((k - 1 : Nat) : Int) := by omega
      have HLS := hid (show ((T.length - 1 : Nat) : Int) = ((k - 1 : Nat) : Int) by rw [← HL.out])
      by_cases h1m : 1 < m
      · have d1 : decide ((1 : Int) < (m : Int)) = true := by simp; omega
        go_wp2_with fail
        go_ret
        refine ⟨_, rfl, .inr (.inl ⟨HLS.out.symm, HOK0.out, .inr ?_⟩), HB.out⟩
        rw [← HL.out, ← HM.out]
        exact h1m
      · have d1 : decide ((1 : Int) < (m : Int)) = false := by simp; omega
        have r2 := HT.out.low HB.out
        rcases r2 with h0 | ⟨b2, o2, rfl, hb2, hc2⟩
        · have := HL.out; omega
        obtain ⟨ka, kc, q0, _⟩ := hc2 (k - 1) (by rw [← HL.out]; omega)
        clear hc2
        obtain ⟨kk, hkk⟩ : ∃ kk, kk = (pt T (k - 1)).kind := ⟨_, rfl⟩
        rw [← hkk] at q0
        have HKK := hid hkk
        clear hkk
        have g1 : ((k - 1 : Nat) : Int) < (k : Int) := by omega
        have g2 : (0 : Int) ≤ ((k - 1 : Nat) : Int) := by omega
        generalize hkm : k - 1 = km at *
        have HKM := hid hkm
        clear hkm
        unfold fmv at HFO
        by_cases hc : (fmO kk).cl = 1
        · have e1 : ((fmO kk).cl != 1) = false := by simp [hc]
          have HC := hid hc
          clear hc
          go_wp2_with (go_at_call 96; refine (HFO.out _ _).mono ?_; rintro e w1 ⟨rfl, l1⟩; have L1 := hid l1; clear l1)
          go_ret
          refine ⟨_, rfl, .inr (.inr ⟨rfl, HOK0.out, ?_⟩), HB.out.trans (L1.out.mono HB.out.size)⟩
          rintro (h | h)
          · have h3 := (cl_one kk).1 HC.out
            rw [← HL.out, HKM.out, ← HKK.out] at h
            exact h h3
          · rw [← HL.out, ← HM.out] at h
            exact h1m h
        · have e1 : ((fmO kk).cl != 1) = true := by simp [hc]
          have HC := hid hc
          clear hc
          go_wp2_with (go_at_call 96; refine (HFO.out _ _).mono ?_; rintro e w1 ⟨rfl, l1⟩; have L1 := hid l1; clear l1)
          go_ret
          refine ⟨_, rfl, .inr (.inl ⟨HLS.out.symm, HOK0.out, .inl ?_⟩), HB.out.trans (L1.out.mono HB.out.size)⟩
          intro h
          rw [← HL.out, HKM.out, ← HKK.out] at h
          exact HC.out ((cl_one kk).2 h)
end Go.Proofs.YtimmjikpcekffaaGreatDoor.L
namespace Go.Proofs.YtimmjikpcekffaaGreatDoor.L
open Go.RowKit
set_option linter.unusedVariables false
theorem cell_nq {W W6 : World} {n : Nat} {a : Addr} {v : Option Value} (h : W.cell? a = v) (e : W6 = W.drewN n) : W6.cell? a = v := by rw [e]; exact h
/-- What the document asks of a part with these parts free ahead of it. -/
def PartD (T : List Pt) (p : Pt) (fr : List Int) : Prop := p.kids.length ≤ fr.length ∧ p.kids = fr.drop (fr.length - p.kids.length) ∧ tabD T p
theorem getD_mem {l : List Int} {k : Nat} (h : k < l.length) : l.getD k 0 ∈ l := by
  rw [List.getD_eq_getElem?_getD, List.getElem?_eq_getElem h]
  exact List.getElem_mem h
theorem drop_getD (l : List Int) (h k : Nat) : (l.drop h).getD k 0 = l.getD (h + k) 0 := by
  rw [List.getD_eq_getElem?_getD, List.getD_eq_getElem?_getD, List.getElem?_drop]
theorem eq_of_getD {A B : List Int} (hl : A.length = B.length) (h : ∀ j, j < A.length → A.getD j 0 = B.getD j 0) : A = B := by
  refine List.ext_getElem hl fun j h1 h2 => ?_
  have := h j h1
  rw [List.getD_eq_getElem?_getD, List.getD_eq_getElem?_getD, List.getElem?_eq_getElem h1, List.getElem?_eq_getElem h2] at this
  exact this
end Go.Proofs.YtimmjikpcekffaaGreatDoor.L
namespace Go.Proofs.YtimmjikpcekffaaGreatDoor.L
open Go.RowKit
set_option linter.unusedVariables false
theorem append_src {w : World} {ops : Array Oper} {rest : List Oper} {o : Oper} {a : Act} {Q : Exit → Act → World → Prop} (hgd : o.guard = none) (s x : Operand)
    (ho : o.op = .call { callee := .builtin .append, args := #[s, x], argTypes := #[29, 29] })
    (base : Nat) (v : Value) (zs : List Int) (hs : a.eval s = v) (hown : OwnI w base v zs) (xa : Option Addr) (n xc : Nat) (ys : List Int) (hn : n = ys.length) (hx : a.eval x = .slice xa n xc) (hno : xa = none → xc = 0) (hsrc : RdI w xa ys) (hbound : zs.length + ys.length ≤ 17592186044000) (hbase : base ≤ w.heap.size)
    (h : ∀ v'' w', OwnI w' base v'' (zs ++ ys) → w.grownBy w' v.ownBlock → wpList Tryz.prog ops Q rest (a.put o.dst v'') w') : wpList Tryz.prog ops Q (o :: rest) a w := by
  obtain ⟨i0, hi, hz0, hz1, hz2⟩ := info_parts info3
  subst hn
  cases xa with
  | none =>
    have hl : ys.length = 0 := by
      rcases hsrc with h | ⟨b, off, e, _⟩
      · exact h
      · cases e
    have he : ys = [] := List.length_eq_zero_iff.1 hl
    subst he
    rw [hno rfl] at hx
    refine wpList_append_own_none hgd s x 29 ho base 3 i0 1 Tryz.underlying29 hi v _ _ hs hown hx ?_
    exact h v w (by rw [List.append_nil]; exact hown) ⟨rfl, rfl, rfl, Nat.le_refl _, fun _ _ _ => rfl⟩
  | some ad =>
    refine wpList_append_own w hgd s x 29 ho base 3 i0 (.int .i64 0) 1 8 Tryz.underlying29 hi hz0 hz1 hz2 rfl (by decide) v _ _ hs hown ad ys.length xc (ys.map (Value.int .i64)) hx (by simp) ?_ (by intro u hu; simp at hu; obtain ⟨z, _, rfl⟩ := hu; rfl) (by unfold maxLen; omega) (by omega) hbase ?_
    · intro j u hu
      rw [List.getElem?_map] at hu
      by_cases hj : j < ys.length
      · rw [List.getElem?_eq_getElem hj] at hu
        cases hu
        rcases hsrc with h0 | ⟨b, off, e, hb, hc⟩
        · omega
        · cases e
          have := hc j hj
          rw [List.getD_eq_getElem?_getD, List.getElem?_eq_getElem hj] at this
          rw [Go.WideShapes.add_plain]
          exact this
      · rw [List.getElem?_eq_none (by omega)] at hu
        cases hu
    · intro v'' w' ho' hg _
      refine h v'' w' ?_ hg
      unfold OwnI
      rw [List.length_append, List.map_append]
      exact ho'
theorem own_rdI {w : World} {base : Nat} {a : Option Addr} {n cap : Nat} {zs : List Int} (h : OwnI w base (.slice a n cap) zs) : n = zs.length ∧ RdI w a zs ∧ (a = none → cap = 0) := by
  rcases h.2 with ⟨e, n0⟩ | ⟨g, cap', cur, e, hb, hg, h3, h4, h5, h6⟩
  · injection e with e1 e2 e3
    exact ⟨by omega, .inl n0, fun _ => e3⟩
  · obtain ⟨h1, h2⟩ := own_rd h 0 (Nat.zero_le _)
    injection e with e1 e2 e3
    subst e1
    refine ⟨h1, ?_, fun e => by cases e⟩
    rcases h2 with h2 | ⟨g', e', _, _, _, _, r⟩
    · exact .inl h2
    · cases e'
      exact r
theorem own_new0 (w : World) (base : Nat) (hb : base ≤ w.heap.size) : OwnI (w.alloc (.cells #[] 3)) base (.slice (some ⟨w.heap.size, 0, none⟩) 0 0) [] := World.ownsRow_made w #[] 0 hb (Nat.zero_le _) rfl
/-- What form answers. -/
def FrmR (T : List Pt) (c a : Int) : Prop :=
  (T.length = 0 ∧ c = 130 ∧ a = 0) ∨ (1000 < T.length ∧ c = 130 ∧ a = 1000) ∨
  (1 ≤ T.length ∧ T.length ≤ 1000 ∧ ((∃ i : Nat, a = i ∧ Bar T i ∧ c = 130) ∨ (Ok0 T ∧ Lst T ∧ c = 130 ∧ a = ((T.length - 1 : Nat) : Int)) ∨ (Ok0 T ∧ ¬ Lst T ∧ c = 0 ∧ a = 0)))
theorem okD_iff {T : List Pt} {k : Nat} : OkA T k ↔ PartD T (pt T k) (fre T k) := ⟨fun h => ⟨h.many, h.kids, h.tab⟩, fun h => ⟨h.1, h.2.1, h.2.2⟩⟩
end Go.Proofs.YtimmjikpcekffaaGreatDoor.L
