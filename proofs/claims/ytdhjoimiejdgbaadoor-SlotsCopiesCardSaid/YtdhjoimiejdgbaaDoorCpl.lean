import Derived.Test.YtdhjoimiejdgbaaDoorCpw
namespace Go.Proofs.YtdhjoimiejdgbaaDoor.L
open Go.RowKit Bs Go.Maps
set_option linter.unusedVariables false
set_option maxHeartbeats 8000000 in
set_option maxRecDepth 100000 in
theorem copies_law (v1 v2 v3 : Value) (s1 s2 s3 : List Opd) (w : World) (i1 : ItemsO w v1 s1) (g1 : GoodO s1) (i2 : ItemsO w v2 s2) (g2 : GoodO s2) (i3 : ItemsO w v3 s3) (g3 : GoodO s3) (ht : Tab w) :
    Calls Tryd.prog 8 #[v1, v2, v3] w fun e w' => e = .returned (.bool true) ∧ Below w.heap.size w w' := by
  have hmf : ∀ (fn : Fn) (first cap : Array Value) (w : World), (Instr.makeFunc fn first cap).run Tryd.prog w = .ok (.func fn first cap) w := fun _ _ _ _ => rfl
  have FX := hid (fixed_any w ht)
  have TG : Hid (∀ (W : World) (F : List Nat), Below w.heap.size w W → (∀ k ∈ F, w.heap.size ≤ k) → TabG W F) := hid (fun W F hb hF W' hx => ht.low (hb.trans (hx.below hb.size hF)))
  obtain ⟨a1, k1, e1, j1⟩ := i1
  obtain ⟨a2, k2, e2, j2⟩ := i2
  obtain ⟨a3, k3, e3, j3⟩ := i3
  have I1 : Hid (ItemsO w (.slice a1 s1.length k1) s1) := hid ⟨a1, k1, rfl, j1⟩
  have I2 : Hid (ItemsO w (.slice a2 s2.length k2) s2) := hid ⟨a2, k2, rfl, j2⟩
  have I3 : Hid (ItemsO w (.slice a3 s3.length k3) s3) := hid ⟨a3, k3, rfl, j3⟩
  subst e1 e2 e3
  have G1 := hid g1
  have G2 := hid g2
  have G3 := hid g3
  clear g1 g2 g3 j1 j2 j3 ht
  generalize hQ : (fun (e : Ending) (w' : World) => e = .returned (.bool true) ∧ Below w.heap.size w w') = Q
  have HQ := hid hQ
  clear hQ
  generalize s1.length = n1 at *
  generalize s2.length = n2 at *
  generalize s3.length = n3 at *
  have en : newD (5 : Int) = .tuple #[.agg #[.int .i64 5, .slice none 0 0], .int .i64 0] := if_neg (by omega)
  have RN := hid (fun W => rnew_any (5 : Int) W)
  rw [en] at RN
  clear en
  go_enter Tryd.func8, Tryd.ntmps8
  go_wp2_with (first
    | (go_at_call 9; refine FX.out.mono ?_; rintro e w1 ⟨rfl, hb1⟩; have B1 := hid hb1; clear hb1)
    | (go_at_call 34; refine (new_any 5 _ (by omega)).mono ?_; rintro e w2 ⟨p, F, rfl, hT, hF, hb2⟩; have B2 := hid (B1.out.trans (hb2.mono B1.out.size)); have T2 := hid hT; have F2 : Hid (∀ k ∈ F, w.heap.size ≤ k) := hid (fun k hk => Nat.le_trans B1.out.size (hF k hk)); clear hT hF hb2)
    | (go_at_call 15; refine (RN.out _).mono ?_; rintro e w3 ⟨rfl, hb3⟩; have B3 := hid (B2.out.trans (hb3.mono B2.out.size)); have T3 := hid (T2.out.low hb3); clear hb3))
  have C3 := hid (show Ct w (w3.alloc (.cells #[.int .i64 5, .slice none 0 0] 35)) p [] F (.slice none 0 0) [] from ⟨T3.out.low ((Below.refl _ w3).alloc (Nat.le_refl _) _), ⟨rfl, Or.inl ⟨rfl, rfl⟩⟩, Rel.nil, F2.out⟩)
  have B4 := hid (B3.out.alloc B3.out.size (.cells #[.int .i64 5, .slice none 0 0] 35))
  generalize w3.alloc (.cells #[.int .i64 5, .slice none 0 0] 35) = X3 at *
  refine (Ct.after (L := 0) (d := []) rfl C3.out B4.out (TG.out _ _ B4.out F2.out) _ s1 I1.out G1.out).mono ?_
  rintro e w4 ⟨l1, F1, vm, d1, rfl, hC, M1⟩
  have B5 := hid (B4.out.trans (M1.below B4.out.size F2.out))
  obtain ⟨ma, mc, hvm⟩ := own_len hC.o
  subst hvm
  have C5 := hid hC
  clear hC M1 C3 T3 T2 B2 B1 RN FX F2
  generalize hLm : d1.length = Lm at *
  have HLM := hid hLm.symm
  clear hLm
  have b5 : Below w4.heap.size w4 ((w4.alloc (.cells #[.int .i64 5, .slice ma Lm mc] 35)).alloc (.cells #[.slice none 0 0] 84)) := ((Below.refl _ w4).alloc (Nat.le_refl _) _).alloc (by simp) _
  have C6 := hid (C5.out.low b5)
  have B6 := hid (B5.out.trans (b5.mono B5.out.size))
  have BC : Hid (Boxed ((w4.alloc (.cells #[.int .i64 5, .slice ma Lm mc] 35)).alloc (.cells #[.slice none 0 0] 84)) (w4.heap.size + 1) 84 (.slice none 0 0)) := hid (heap_alloc2_new w4 _ _)
  have BM : Hid (((w4.alloc (.cells #[.int .i64 5, .slice ma Lm mc] 35)).alloc (.cells #[.slice none 0 0] 84)).heap[w4.heap.size]? = some (.cells #[.int .i64 5, .slice ma Lm mc] 35 (0, 0))) := hid ((((Below.refl (w4.alloc (.cells #[.int .i64 5, .slice ma Lm mc] 35)).heap.size _).alloc (Nat.le_refl _) _).block w4.heap.size (by simp)).trans (heap_alloc_new w4 _))
  have hz6 : Hid (((w4.alloc (.cells #[.int .i64 5, .slice ma Lm mc] 35)).alloc (.cells #[.slice none 0 0] 84)).heap.size = w4.heap.size + 2) := hid (by simp)
  have FL : Hid (∀ k ∈ F1, k < w4.heap.size) := hid C5.out.t.lt
  have OL : Hid (∀ g, (Value.slice ma Lm mc).ownBlock = some g → g < w4.heap.size) := hid (fun g hg => (C5.out.o.lt g hg).2)
  have W4 := hid B5.out.size
  clear b5
  go_wp2_with fail
  generalize (w4.alloc (.cells #[.int .i64 5, .slice ma Lm mc] 35)).alloc (.cells #[.slice none 0 0] 84) = X5 at *
  refine (copy_fn p 5 l1 F1 X5 C6.out.t (w4.heap.size + 1) BC.out).mono ?_
  rintro e w6 ⟨pu, Fu, base, cv, rfl, hTu, hFu, hCl, hbs, hbx⟩
  have C7 : Hid (Ct w w6 p l1 F1 (.slice ma Lm mc) d1) := hid ⟨C6.out.t.frame (fun k hk => hbx.block k (C6.out.t.lt k hk) (fun c => by have := FL.out k hk; simp at c; omega)), own_stays C6.out.o (fun g hg => hbx.block g (C6.out.o.lt g hg).2 (fun c => by have := OL.out g hg; simp at c; omega)), C6.out.r, C6.out.fa⟩
  have BM7 := hid ((hbx.block w4.heap.size (by have := hz6.out; omega) (fun c => by simp at c)).trans BM.out)
  have B7 := hid (B6.out.trans (hbx.below B6.out.size (fun k hk => by have := W4.out; simp at hk; omega)))
  have TU := hid hTu
  have FU := hid hFu
  have CL := hid hCl
  have HBS := hid hbs
  have AP : Hid (∀ k ∈ F1, k ∉ Fu) := hid (fun k hk c => by have := FL.out k hk; have := FU.out k c; have := hz6.out; omega)
  have ok := C7.out.t.ok
  have hdl : Lm ≤ 65536 := by rw [HLM.out, C7.out.r.len]; exact Nat.le_trans ok.ct ok.mm
  have RB := hid (fun W (hb : Below w6.heap.size w6 W) => rbyslotL (5 : Int) ma mc Lm d1 HLM.out W (C7.out.o.low hb) hdl (C7.out.r.slots ok))
  have m0 : w6.cell? ⟨w4.heap.size, 0, none⟩ = some (.int .i64 5) := (by rw [cell_of_row w6 _ 0 _ _ _ BM7.out]; rfl)
  have m1 : w6.cell? ⟨w4.heap.size, 1, none⟩ = some (.slice ma Lm mc) := (by rw [cell_of_row w6 _ 1 _ _ _ BM7.out]; rfl)
  have NR := hid (C7.out.r.anew ok)
  have BA := hid (C7.out.r.bsAt (spanD d1))
  have LE : (clK l1 l1.length).length = (bsD d1 (spanD d1)).length := by
    have := congrArg List.length (C7.out.r.bys_all ok.tr)
    unfold prD at this
    rw [List.length_map] at this
    rw [clK_len, this]
    unfold idx tk
    rw [bs_len]
  obtain ⟨ca, cc, hcv⟩ := own_len hCl.ow
  rw [LE] at hcv
  subst hcv
  have LEH := hid LE
  clear LE
  have LL : Hid ((bsD d1 (spanD d1)).length ≤ 65536) := hid (Nat.le_trans (bsD_len _ _) (by rw [C7.out.r.span ok.tr]; exact Nat.le_trans ok.le ok.mm))
  clear ok hTu hFu hCl hbs hbx C6 C5 B6 B5 BC BM
  generalize hbd : bsD d1 (spanD d1) = bd at *
  have HBD := hid hbd
  clear hbd
  generalize hNN : bd.length = NN at *
  have HNN := hid hNN
  clear hNN
  go_wp2_with (go_at_call 42; refine (RB.out _ (Below.refl _ _)).mono ?_; rintro e w7 ⟨vr, rfl, hor, hbr⟩; have R7 := hid hor; have D7 := hid hbr; obtain ⟨ra, rc, hvr⟩ := own_len hor; subst hvr; clear m0 m1; have m0 : w7.cell? ⟨w4.heap.size, 0, none⟩ = some (.int .i64 5) := (by rw [cell_of_row w7 _ 0 _ _ _ ((hbr.block _ (lt_of_block BM7.out)).trans BM7.out)]; rfl); have m1 : w7.cell? ⟨w4.heap.size, 1, none⟩ = some (.slice ma Lm mc) := (by rw [cell_of_row w7 _ 1 _ _ _ ((hbr.block _ (lt_of_block BM7.out)).trans BM7.out)]; rfl); have q0 : w7.cell? ⟨w4.heap.size + 1, 0, none⟩ = some (.slice ca NN cc) := ((hbr.cell (p := ⟨w4.heap.size + 1, 0, none⟩) CL.out.bx.lt).trans CL.out.bx.cell); have hz7 : w4.heap.size + 1 < w7.heap.size := (Nat.lt_of_lt_of_le CL.out.bx.lt hbr.size); clear hor hbr)
  have CV : Hid (∀ q, q < NN → (cellsI (clK l1 l1.length))[q]? = some (.int .i64 (dl bd q))) := hid (fun q hq => by
    have e := C7.out.r.bys_all C7.out.t.ok.tr
    rw [HBD.out] at e
    have hqb : q < bd.length := by rw [HNN.out]; exact hq
    have b := BA.out q hq
    have e2 : (clK l1 l1.length)[q]? = some (dl bd q) := by
      unfold clK
      rw [show tkK (bs l1) l1.length = prD bd by rw [e]; unfold tk; rw [bs_len]]
      unfold prD
      rw [List.getElem?_map, List.getElem?_map, List.getElem?_eq_getElem hqb]
      show some (vlu l1 (bd[q]).1) = some (dl bd q)
      rw [← ds_at hqb, b.2.2.1]
    unfold cellsI
    rw [List.getElem?_map, e2]
    rfl)
  have hNN2 := LL.out
  have BN0 : Hid ((w7.alloc (.cells #[.int .i64 5, .slice none 0 0] 35)).heap[w7.heap.size]? = some (.cells #[.int .i64 5, .slice none 0 0] 35 (0, 0))) := hid (heap_alloc_new w7 _)
  have LO0 : Hid (Below w7.heap.size w7 (w7.alloc (.cells #[.int .i64 5, .slice none 0 0] 35))) := hid ((Below.refl _ w7).alloc (Nat.le_refl _) _)
  obtain ⟨i0, hi0, hz0, hz1, hz2⟩ := info_parts infoD
  go_loopw [63] (fun i wr => ∃ k : Nat, k ≤ NN ∧ i = .int .i64 k ∧ Hid (∃ na nc, Below w7.heap.size w7 wr ∧ wr.heap[w7.heap.size]? = some (.cells #[.int .i64 5, .slice na k nc] 35 (0, 0)) ∧ wr.ownsRow (w7.heap.size + 1) 63 3 (.slice na k nc) k (cellsD (nwD bd k)))) (fun i _ => NN - (intOf i).toNat)
  case atStart => exact ⟨0, Nat.zero_le _, rfl, hid ⟨none, 0, LO0.out, BN0.out, rfl, Or.inl ⟨rfl, rfl⟩⟩⟩
  case round =>
    clear BN0 LO0 m0 m1 q0
    obtain ⟨k, hk, rfl, HX⟩ := hrel
    obtain ⟨na, nc, hlo, hbn, hnv⟩ := HX.out
    have LO := hid hlo
    have BN := hid hbn
    have NV := hid hnv
    have hsz : w7.heap.size < wr.heap.size := lt_of_block hbn
    clear HX hlo hbn hnv
    have n0 : wr.cell? ⟨w7.heap.size, 1, none⟩ = some (.slice na k nc) := (by rw [cell_of_row wr _ 1 _ _ _ BN.out]; rfl)
    have f0 : wr.frozen? ⟨w7.heap.size, 1, none⟩ = false := frozen_of_row wr _ 1 _ _ BN.out
    by_cases hlt : k < NN
    · have OR : OwnD wr (.slice ra NN rc) bd := OwnD.low (by have := own_base R7.out; rw [← HNN.out] at this ⊢; exact this) LO.out
      rcases own_form OR with ⟨e0, h0⟩ | ⟨g, cap', e0, hle, hmx, hg⟩
      · rw [HNN.out] at h0; omega
      injection e0 with e1 em e3
      clear em hle hmx
      subst e1 e3
      obtain ⟨r0, r1, r2⟩ := rowsD HNN.out.symm OR k hlt
      have q0 : wr.cell? ⟨w4.heap.size + 1, 0, none⟩ = some (.slice ca NN cc) := (LO.out.cell (p := ⟨w4.heap.size + 1, 0, none⟩) (by omega)).trans ((D7.out.cell (p := ⟨w4.heap.size + 1, 0, none⟩) CL.out.bx.lt).trans CL.out.bx.cell)
      have OC : wr.ownsRow base 3 1 (.slice ca NN cc) NN (cellsI (clK l1 l1.length)) := own_low (own_low (by have := CL.out.ow; rw [LEH.out] at this; exact this) D7.out) LO.out
      rcases own_form OC with ⟨e0, h0⟩ | ⟨cg, cap2, e0, hle, hmx, hcg⟩
      · omega
      injection e0 with e1 em e3
      clear em hle hmx
      subst e1 e3
      have q1 : wr.cell? ⟨cg, k, none⟩ = some (.int .i64 (dl bd k)) := by
        have := OC.cells (g := cg) rfl _ _ (CV.out k hlt)
        rw [Go.WideShapes.add_plain] at this
        simpa using this
      have ST : Hid (nwD bd (k + 1) = nwD bd k ++ [(ds bd k, dn bd k, nwV (dl bd k) k)]) := hid rfl
      have VL : Hid (wrap64 (wrap64 (wrap64 (3 * dl bd k) + (k : Int)) + 1) = nwV (dl bd k) k) := hid (by rw [wrap64_eq, wrap64_eq, wrap64_eq]; exact nwV_law _ _ (by omega))
      clear OR OC
      generalize ds bd k = sl at *
      generalize dn bd k = nk at *
      generalize dl bd k = vk at *
      have AL : Below wr.heap.size wr (wr.alloc (.cells #[.int .i64 (sl : Int), .string nk, .int .i64 vk] 63)) := (Below.refl _ wr).alloc (Nat.le_refl _) _
      have y0 := (AL.cell (p := ⟨w4.heap.size + 1, 0, none⟩) (by show w4.heap.size + 1 < _; omega)).trans q0
      have y1 := (AL.cell (p := ⟨cg, k, none⟩) hcg).trans q1
      have HR : (wr.alloc (.cells #[.int .i64 (sl : Int), .string nk, .int .i64 vk] 63)).heap[wr.heap.size]? = some (.cells #[.int .i64 (sl : Int), .string nk, .int .i64 vk] 63 (0, 0)) := heap_alloc_new wr _
      have y2 := cell_of_row _ _ 0 _ _ _ HR
      have y3 := cell_of_row _ _ 1 _ _ _ HR
      have y4 := cell_of_row _ _ 2 _ _ _ HR
      have LX := hid (LO.out.trans (AL.mono (Nat.le_of_lt hsz)))
      have BX := hid ((AL.block w7.heap.size hsz).trans BN.out)
      have NX := hid (own_low NV.out AL)
      have hsx : wr.heap.size < (wr.alloc (.cells #[.int .i64 (sl : Int), .string nk, .int .i64 vk] 63)).heap.size := lt_of_block HR
      go_wp2_with fail
      generalize wr.alloc (.cells #[.int .i64 (sl : Int), .string nk, .int .i64 vk] 63) = X at *
      generalize wr.heap.size = zr at *
      clear AL HR q0 q1 r0 r1 r2 n0 f0 LO BN NV
      have n0 : X.cell? ⟨w7.heap.size, 1, none⟩ = some (.slice na k nc) := (by rw [cell_of_row X _ 1 _ _ _ BX.out]; rfl)
      have f0 : X.frozen? ⟨w7.heap.size, 1, none⟩ = false := frozen_of_row X _ 1 _ _ BX.out
      go_quiet (fail)
      go_wp2_with (at_builtin; refine Classical.byContradiction (fun hgoal => ?_))
      apply hgoal
      clear hgoal
      have DY : Below X.heap.size X (X.drewN nq) := ⟨rfl, rfl, rfl, Nat.le_refl _, fun _ _ => rfl⟩
      have LY := hid (LX.out.trans (DY.mono LX.out.size))
      have BY := hid ((DY.block w7.heap.size (by omega)).trans BX.out)
      have NY := hid (own_low NX.out DY)
      have hsy : zr < (X.drewN nq).heap.size := Nat.lt_of_lt_of_le hsx DY.size
      clear DY LX BX NX y0 y1 y2 y3 y4 n0 f0
      refine wpList_append_own _ rfl _ _ 33 rfl (w7.heap.size + 1) 63 i0 (.agg #[.int .i64 0, .string ByteArray.empty, .int .i64 0]) 3 32 Tryd.underlying33 hi0 hz0 hz1 hz2 rfl (by decide) _ _ _ rfl (NY.out.alloc _) ⟨X.heap.size, 0, none⟩ 1 1 [.int .i64 (sl : Int), .string nk, .int .i64 (wrap64 (wrap64 (wrap64 (3 * vk) + (k : Int)) + 1))] rfl rfl (cell_three_new (X.drewN nq) _ _ _ _) (fun u hu => by simp at hu; rcases hu with rfl | rfl | rfl <;> rfl) (by unfold maxLen; omega) (by omega) (by simp; omega) ?_
      intro v' w8 hown' hgrow hnil
      clear hnil
      obtain ⟨g', cap', e7⟩ := own_some hown' (by omega)
      subst e7
      have D8 : Below (w7.heap.size + 1) (X.drewN nq) w8 := own_grown2 (Below.refl _ (X.drewN nq)) (by show w7.heap.size + 1 ≤ (X.drewN nq).heap.size; omega) NY.out hgrow
      have B8 := (D8.block w7.heap.size (by omega)).trans BY.out
      have L8 := LY.out.trans (D8.mono (Nat.le_succ _))
      have n8 : w8.cell? ⟨w7.heap.size, 1, none⟩ = some (.slice na k nc) := (by rw [cell_of_row w8 _ 1 _ _ _ B8]; rfl)
      have f8 : w8.frozen? ⟨w7.heap.size, 1, none⟩ = false := frozen_of_row w8 _ 1 _ _ B8
      have hg7 : w7.heap.size + 1 ≤ g' := (hown'.lt g' rfl).1
      have END : Hid (∃ na nc, Below w7.heap.size w7 (w8.setCell ⟨w7.heap.size, 1, none⟩ (.slice (some ⟨g', 0, none⟩) (k + 1) cap')) ∧ (w8.setCell ⟨w7.heap.size, 1, none⟩ (.slice (some ⟨g', 0, none⟩) (k + 1) cap')).heap[w7.heap.size]? = some (.cells #[.int .i64 5, .slice na (k + 1) nc] 35 (0, 0)) ∧ (w8.setCell ⟨w7.heap.size, 1, none⟩ (.slice (some ⟨g', 0, none⟩) (k + 1) cap')).ownsRow (w7.heap.size + 1) 63 3 (.slice na (k + 1) nc) (k + 1) (cellsD (nwD bd (k + 1)))) := hid ⟨some ⟨g', 0, none⟩, cap', below_set L8 _ _ _ (Nat.le_refl _), cellSet B8 1 _, by
        rw [ST.out, ← VL.out, cellsD_app]
        exact own_stays hown' (fun g hg => set_other _ _ (by have e : g' = g := Option.some.inj hg; show g ≠ w7.heap.size; omega))⟩
      clear hown' hgrow D8 B8 L8 LY BY NY
      go_wp2_with fail
      exact ⟨⟨k + 1, by omega, by go_num, by exact END.out |> hid⟩, by simp [intOf]; omega⟩
    · have hkN : NN = k := by omega
      subst hkN
      have ML := hid (D7.out.trans (LO.out.mono D7.out.size))
      have CW : Hid (Cw w wr p pu w4.heap.size w7.heap.size l1 (rnK l1 l1.length) F1 Fu (.slice ma Lm mc) (.slice na NN nc) d1 (nwD bd NN)) := hid ⟨C7.out.low ML.out, ⟨TU.out.low ML.out, by
          have := own_base NV.out
          unfold OwnD
          rw [nwD_len]
          exact this, NR.out, fun k hk => by have := FU.out k hk; have := W4.out; have := hz6.out; omega⟩, AP.out, (ML.out.block _ (lt_of_block BM7.out)).trans BM7.out, BN.out, by omega, W4.out, by have := W4.out; omega, B7.out.trans (ML.out.mono B7.out.size)⟩
      have EN := hid (nwD_len bd NN)
      clear ML LO BN NV n0 f0 C7 TU NR CL BM7 D7 R7 B7 BA RB CV LL AP FU FL OL W4 HBS LEH hz6
      generalize rnK l1 l1.length = lu at *
      generalize nwD bd NN = du at *
      obtain ⟨m0, m1, fm0, fm1⟩ := CW.out.cm
      obtain ⟨c0, c1, fc0, fc1⟩ := CW.out.cn
      go_wp2_with fail
      refine (told_any _ _ _ _ _ _ _ _ _ _ HLM.out CW.out.t.sd).mono ?_
      rintro e w9 ⟨rfl, hh⟩
      have C9 := hid (CW.out.low hh)
      clear hh m0 m1 fm0 fm1 c0 c1 fc0 fc1
      obtain ⟨m0, m1, fm0, fm1⟩ := C9.out.cm
      obtain ⟨c0, c1, fc0, fc1⟩ := C9.out.cn
      go_wp2_with fail
      refine (told_any _ _ _ _ _ _ _ _ _ _ EN.out.symm C9.out.u.sd).mono ?_
      rintro e w10 ⟨rfl, hh⟩
      have C10 := hid (C9.out.low hh)
      clear hh m0 m1 fm0 fm1 c0 c1 fc0 fc1
      obtain ⟨m0, m1, fm0, fm1⟩ := C10.out.cm
      obtain ⟨c0, c1, fc0, fc1⟩ := C10.out.cn
      go_wp2_with fail
      refine (Ct.after (L := Lm) (d := d1) HLM.out C10.out.t C10.out.lo (TG.out _ _ C10.out.lo C10.out.t.fa) _ s2 I2.out G2.out).mono ?_
      rintro e w11 ⟨l2, F2, vm2, d2, rfl, hC2, M2⟩
      obtain ⟨xa, xc, hvm2⟩ := own_len hC2.o
      subst hvm2
      generalize hL2 : d2.length = L2 at *
      have HL2 := hid hL2.symm
      clear hL2
      have b11 := (M2.1.block _ (lt_of_block C10.out.bm) C10.out.notM.1.1).trans C10.out.bm
      have C12 := hid (C10.out.onT hC2 M2)
      have b12 := cellSet b11 0 (.int .i64 5)
      clear m0 m1 fm0 fm1 c0 c1 fc0 fc1 hC2 M2
      have z0 : w11.cell? ⟨w4.heap.size, 0, none⟩ = some (.int .i64 5) := by rw [cell_of_row w11 _ 0 _ _ _ b11]; rfl
      have z1 : w11.frozen? ⟨w4.heap.size, 0, none⟩ = false := frozen_of_row w11 _ 0 _ _ b11
      have z2 : (w11.setCell ⟨w4.heap.size, 0, none⟩ (.int .i64 5)).cell? ⟨w4.heap.size, 1, none⟩ = some (.slice ma Lm mc) := by rw [cell_of_row _ _ 1 _ _ _ b12]; rfl
      have z3 : (w11.setCell ⟨w4.heap.size, 0, none⟩ (.int .i64 5)).frozen? ⟨w4.heap.size, 1, none⟩ = false := frozen_of_row _ _ 1 _ _ b12
      have z4 : w11.cell? ⟨w4.heap.size, 1, none⟩ = some (.slice ma Lm mc) := by rw [cell_of_row w11 _ 1 _ _ _ b11]; rfl
      have z5 : w11.frozen? ⟨w4.heap.size, 1, none⟩ = false := frozen_of_row w11 _ 1 _ _ b11
      clear b11 b12
      obtain ⟨m0, m1, fm0, fm1⟩ := C12.out.cm
      obtain ⟨c0, c1, fc0, fc1⟩ := C12.out.cn
      go_wp2_with fail
      refine (told_any _ _ _ _ _ _ _ _ _ _ EN.out.symm C12.out.u.sd).mono ?_
      rintro e w13 ⟨rfl, hh⟩
      have C13 := hid (C12.out.low hh)
      clear hh m0 m1 fm0 fm1 c0 c1 fc0 fc1
      obtain ⟨m0, m1, fm0, fm1⟩ := C13.out.cm
      obtain ⟨c0, c1, fc0, fc1⟩ := C13.out.cn
      clear z0 z1 z2 z3 z4 z5
      go_wp2_with fail
      refine (Ct.after (L := NN) (d := du) EN.out.symm C13.out.u C13.out.lo (TG.out _ _ C13.out.lo C13.out.u.fa) _ s3 I3.out G3.out).mono ?_
      rintro e w14 ⟨l3, F3, vn3, d3, rfl, hC3, M3⟩
      obtain ⟨ya, yc, hvn3⟩ := own_len hC3.o
      subst hvn3
      generalize hL3 : d3.length = L3 at *
      have HL3 := hid hL3.symm
      clear hL3
      have b14 := (M3.1.block _ (lt_of_block C13.out.bn) C13.out.notM.2.2).trans C13.out.bn
      have C15 := hid (Cw.swap (C13.out.swap.onT hC3 M3))
      have b15 := cellSet b14 0 (.int .i64 5)
      clear m0 m1 fm0 fm1 c0 c1 fc0 fc1 hC3 M3
      have z0 : w14.cell? ⟨w7.heap.size, 0, none⟩ = some (.int .i64 5) := by rw [cell_of_row w14 _ 0 _ _ _ b14]; rfl
      have z1 : w14.frozen? ⟨w7.heap.size, 0, none⟩ = false := frozen_of_row w14 _ 0 _ _ b14
      have z2 : (w14.setCell ⟨w7.heap.size, 0, none⟩ (.int .i64 5)).cell? ⟨w7.heap.size, 1, none⟩ = some (.slice na NN nc) := by rw [cell_of_row _ _ 1 _ _ _ b15]; rfl
      have z3 : (w14.setCell ⟨w7.heap.size, 0, none⟩ (.int .i64 5)).frozen? ⟨w7.heap.size, 1, none⟩ = false := frozen_of_row _ _ 1 _ _ b15
      have z4 : w14.cell? ⟨w7.heap.size, 1, none⟩ = some (.slice na NN nc) := by rw [cell_of_row w14 _ 1 _ _ _ b14]; rfl
      have z5 : w14.frozen? ⟨w7.heap.size, 1, none⟩ = false := frozen_of_row w14 _ 1 _ _ b14
      clear b14 b15
      obtain ⟨m0, m1, fm0, fm1⟩ := C15.out.cm
      obtain ⟨c0, c1, fc0, fc1⟩ := C15.out.cn
      go_wp2_with fail
      refine (told_any _ _ _ _ _ _ _ _ _ _ HL2.out C15.out.t.sd).mono ?_
      rintro e w16 ⟨rfl, hh⟩
      have C16 := hid (C15.out.low hh)
      clear hh m0 m1 fm0 fm1 c0 c1 fc0 fc1
      obtain ⟨m0, m1, fm0, fm1⟩ := C16.out.cm
      obtain ⟨c0, c1, fc0, fc1⟩ := C16.out.cn
      go_wp2_with fail
      refine (told_any _ _ _ _ _ _ _ _ _ _ HL3.out C16.out.u.sd).mono ?_
      rintro e w17 ⟨rfl, hh⟩
      have C17 := hid (C16.out.low hh)
      clear hh m0 m1 fm0 fm1 c0 c1 fc0 fc1
      obtain ⟨m0, m1, fm0, fm1⟩ := C17.out.cm
      obtain ⟨c0, c1, fc0, fc1⟩ := C17.out.cn
      go_wp2_with fail
      rw [← HQ.out]
      exact ⟨rfl, C17.out.lo⟩
end Go.Proofs.YtdhjoimiejdgbaaDoor.L
