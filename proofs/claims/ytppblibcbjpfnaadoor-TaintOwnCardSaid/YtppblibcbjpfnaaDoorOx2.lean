import Derived.Test.YtppblibcbjpfnaaDoorOx3
import Derived.Test.YtppblibcbjpfnaaDoorAwk
import Derived.Deep.RegionHeld3
namespace Go.Proofs.YtppblibcbjpfnaaDoor.L
open Go.RowKit
set_option linter.unusedVariables false
set_option maxHeartbeats 8000000 in
set_option maxRecDepth 100000 in
theorem own_walk (kd : Int) (t : Tn) (o : To) (s key : ByteArray) (v vo : Value) (l : List Tn) (os : List To) (w : World) (hc : CameT w v l) (ho : CameO w vo os) (hg : GoodT l) (hgo : GoodO os) (ht : t.1.size ≤ 140737488351232 ∧ t.2.1.size ≤ 140737488351232 ∧ t.2.2.size ≤ 140737488351232) :
    Calls Tryd.prog 6 #[.agg #[.int .i64 kd, .string t.1, .string t.2.1, .string t.2.2, .string o.1, .string o.2.1, .string o.2.2.1, .string o.2.2.2, .string s, .string key, v, vo]] w fun e w' => e = .returned (.bool true) ∧ Below w.heap.size w w' := by
  obtain ⟨i0, hi0, hz0, hz1, hz2⟩ := info_parts infoT
  obtain ⟨j0, hj0, ho0, ho1, ho2⟩ := info_parts infoO
  have H0 := hid (op_new w kd t o s key v vo 29)
  have HW0 := hid (belowA w (.cells #[.int .i64 kd, .string t.1, .string t.2.1, .string t.2.2, .string o.1, .string o.2.1, .string o.2.2.1, .string o.2.2.2, .string s, .string key, v, vo] 29))
  have HC := hid hc
  have HO := hid ho
  have HG := hid hg
  have HGO := hid hgo
  have HTS := hid (show t.1.size ≤ maxLen ∧ t.2.1.size ≤ maxLen ∧ t.2.2.size ≤ maxLen by unfold maxLen; omega)
  have hl2 := hg.1.2
  have ho3 := hgo.1.2
  obtain ⟨av, cv, hv⟩ := came_form hc
  obtain ⟨ao, co, hvo⟩ := came_form ho
  have HL1 := hid hg.1.1
  have HO1 := hid hgo.1.1
  clear hc ho hg hgo ht
  generalize hln : l.length = ln at *
  generalize hlo : os.length = lo at *
  subst hv hvo
  have HLN := hid hln
  have HLO := hid hlo
  clear hln hlo
  go_enter Tryd.func6, Tryd.ntmps6
  go_wp2_with fail
  refine (awake_any _).mono ?_
  rintro e w1 ⟨rfl, b1⟩
  have hlt1 : w.heap.size ≤ w1.heap.size := Nat.le_trans HW0.out.size b1.size
  have OP := hid (H0.out.low b1); have BW := hid (HW0.out.trans (b1.mono HW0.out.size))
  have CL := hid (HC.out.low BW.out); have CO := hid (HO.out.low BW.out)
  clear b1 H0 HW0
  have x10 := OP.out.c10
  go_wp2_with fail
  refine (taints_any _ l _ CL.out HG.out).mono ?_
  rintro e w2 ⟨x1, rfl, o2, b2⟩
  have O2 := hid o2
  have D12 := hid b2
  have A2 := hid (belowA w2 (.cells #[.string ⟨#[115, 112, 97, 114, 101, 49]⟩, .string ⟨#[]⟩, .string ⟨#[]⟩, .string ⟨#[115, 112, 97, 114, 101, 50]⟩, .string ⟨#[]⟩, .string ⟨#[]⟩, .string ⟨#[115, 112, 97, 114, 101, 51]⟩, .string ⟨#[]⟩, .string ⟨#[]⟩] 23))
  have z12 := b2.size
  clear o2 b2 x10
  go_wp2_with (first
    | (at_builtin; refine wpList_append_own _ rfl _ _ 26 rfl w1.heap.size 23 i0 (.agg #[.string ByteArray.empty, .string ByteArray.empty, .string ByteArray.empty]) 3 48 Tryd.underlying26 hi0 hz0 hz1 hz2 rfl (by decide) _ _ _ rfl (ownG_low O2.out A2.out) ⟨w2.heap.size, 0, none⟩ 3 3 [.string ⟨#[115, 112, 97, 114, 101, 49]⟩, .string ⟨#[]⟩, .string ⟨#[]⟩, .string ⟨#[115, 112, 97, 114, 101, 50]⟩, .string ⟨#[]⟩, .string ⟨#[]⟩, .string ⟨#[115, 112, 97, 114, 101, 51]⟩, .string ⟨#[]⟩, .string ⟨#[]⟩] rfl rfl (block_at _ _ _) ?_ ?_ ?_ ?_ ?_)
    | fail)
  · intro x hx; simp at hx; rcases hx with rfl | rfl | rfl | rfl | rfl | rfl <;> rfl
  · have := HLN.out; have := HL1.out; rw [HLN.out] at *; unfold maxLen; omega
  · rw [HLN.out]; omega
  · simp; omega
  intro v3 w3 o3 g3 n3
  rw [HLN.out] at o3
  obtain ⟨g, cp, rfl, hcp, OF⟩ := own_some (l := l ++ sp3) (f := tf) o3 (by omega) (by rw [List.length_append, HLN.out]; rfl) (by rw [cellsG_app]; rfl)
  have D13 := hid ((D12.out.trans (A2.out.mono z12)).grown g3 (by simp; omega) (fun k hk => (O2.out.lt k hk).1))
  have z13 := D13.out.size
  have FU := hid OF
  clear o3 g3 n3 OF A2 O2 D12
  have OP_1 := hid (OP.out.low D13.out); have BW_1 := hid (BW.out.trans (D13.out.mono BW.out.size)); have CL_1 := hid (CL.out.low D13.out); have CO_1 := hid (CO.out.low D13.out)
  clear OP BW CL CO
  clear D13
  have x11 := OP_1.out.c11
  go_wp2_with fail
  refine (tols_any _ os _ CO_1.out HGO.out).mono ?_
  rintro e w4 ⟨x2, rfl, o4, b4⟩
  have O4 := hid o4
  have D34 := hid b4
  have A4 := hid (belowA w4 (.cells #[.string ⟨#[115, 112, 97, 114, 101, 52]⟩, .string ⟨#[]⟩, .string ⟨#[]⟩, .string ⟨#[]⟩, .string ⟨#[115, 112, 97, 114, 101, 53]⟩, .string ⟨#[]⟩, .string ⟨#[]⟩, .string ⟨#[]⟩] 25))
  have z34 := b4.size
  clear o4 b4 x11
  go_wp2_with (first
    | (at_builtin; refine wpList_append_own _ rfl _ _ 27 rfl w3.heap.size 25 j0 (.agg #[.string ByteArray.empty, .string ByteArray.empty, .string ByteArray.empty, .string ByteArray.empty]) 4 64 Tryd.underlying27 hj0 ho0 ho1 ho2 rfl (by decide) _ _ _ rfl (ownG_low O4.out A4.out) ⟨w4.heap.size, 0, none⟩ 2 2 [.string ⟨#[115, 112, 97, 114, 101, 52]⟩, .string ⟨#[]⟩, .string ⟨#[]⟩, .string ⟨#[]⟩, .string ⟨#[115, 112, 97, 114, 101, 53]⟩, .string ⟨#[]⟩, .string ⟨#[]⟩, .string ⟨#[]⟩] rfl rfl (block_at _ _ _) ?_ ?_ ?_ ?_ ?_)
    | fail)
  · intro x hx; simp at hx; rcases hx with rfl | rfl | rfl | rfl <;> rfl
  · have := HO1.out; rw [HLO.out] at *; unfold maxLen; omega
  · rw [HLO.out]; omega
  · simp; omega
  intro v5 w5 o5 g5 n5
  rw [HLO.out] at o5
  obtain ⟨h, cq, rfl, hcq, OG⟩ := own_some (l := os ++ sp2) (f := ofn) o5 (by omega) (by rw [List.length_append, HLO.out]; rfl) (by rw [cellsG_app]; rfl)
  have D35 := hid ((D34.out.trans (A4.out.mono z34)).grown g5 (by simp; omega) (fun k hk => (O4.out.lt k hk).1))
  have z35 := D35.out.size
  have OT := hid OG
  clear o5 g5 n5 OG A4 O4 D34
  have OP_2 := hid (OP_1.out.low D35.out); have BW_2 := hid (BW_1.out.trans (D35.out.mono BW_1.out.size)); have CL_2 := hid (CL_1.out.low D35.out); have CO_2 := hid (CO_1.out.low D35.out); have FU_2 := hid (ownG_low FU.out D35.out)
  clear OP_1 BW_1 CL_1 CO_1 FU
  clear D35
  have x10 := OP_2.out.c10
  have x11 := OP_2.out.c11
  have D5 := hid (show Below w5.heap.size w5 w5.drew from (Below.refl _ _).drew)
  go_wp2_with fail
  go_region
  clear x10 x11
  have OP_3 := hid (OP_2.out.low D5.out); have BW_3 := hid (BW_2.out.trans (D5.out.mono BW_2.out.size)); have CL_3 := hid (CL_2.out.low D5.out); have CO_3 := hid (CO_2.out.low D5.out); have FU_3 := hid (ownG_low FU_2.out D5.out); have OT_3 := hid (ownG_low OT.out D5.out)
  clear OP_2 BW_2 CL_2 CO_2 FU_2 OT
  clear D5
  have hw5 : w5.drew.heap.size = w5.heap.size := rfl
  generalize w5.drew = w6 at *
  go_wp2_with fail
  refine (taints_long _ (l ++ sp3) _ (ownG_came FU_3.out) (by have := HL1.out; rw [List.length_append, HLN.out]; unfold maxLen; simp [sp3]; omega) (by rw [List.length_append, HLN.out]; simp [sp3]; omega)).mono ?_
  rintro e w7 ⟨y1, rfl, o7, b7⟩
  have D7 := hid b7
  have WA := hid o7
  clear o7 b7
  have OP_4 := hid (OP_3.out.low D7.out); have BW_4 := hid (BW_3.out.trans (D7.out.mono BW_3.out.size)); have CL_4 := hid (CL_3.out.low D7.out); have CO_4 := hid (CO_3.out.low D7.out); have FU_4 := hid (ownG_low FU_3.out D7.out); have OT_4 := hid (ownG_low OT_3.out D7.out)
  clear OP_3 BW_3 CL_3 CO_3 FU_3 OT_3
  clear D7
  go_wp2_with fail
  refine (tols_long _ (os ++ sp2) _ (ownG_came OT_4.out) (by have := HO1.out; rw [List.length_append, HLO.out]; unfold maxLen; simp [sp2]; omega) (by rw [List.length_append, HLO.out]; simp [sp2]; omega)).mono ?_
  rintro e w8 ⟨y2, rfl, o8, b8⟩
  have D8 := hid b8
  unfold OwnO OwnG at o8
  rw [show (os ++ sp2).length = lo + 2 by rw [List.length_append, HLO.out]; rfl] at o8
  obtain ⟨h2, cq2, rfl, hcq2, OG2⟩ := own_some (l := os ++ sp2) (f := ofn) o8 (by omega) (by rw [List.length_append, HLO.out]; rfl) rfl
  have WO := hid OG2
  clear o8 b8 OG2
  have OP_5 := hid (OP_4.out.low D8.out); have BW_5 := hid (BW_4.out.trans (D8.out.mono BW_4.out.size)); have CL_5 := hid (CL_4.out.low D8.out); have CO_5 := hid (CO_4.out.low D8.out); have FU_5 := hid (ownG_low FU_4.out D8.out); have OT_5 := hid (ownG_low OT_4.out D8.out); have WA_5 := hid (ownG_low WA.out D8.out)
  clear OP_4 BW_4 CL_4 CO_4 FU_4 OT_4 WA
  clear D8
  have FC := hid (show CameT w8 (.slice (some ⟨g, 0, none⟩) ln cp) l by have := came_take FU_5.out (by rw [List.length_append, HLN.out]; rfl); rwa [HLN.out] at this)
  have OC := hid (show CameO w8 (.slice (some ⟨h, 0, none⟩) lo cq) os by have := came_take OT_5.out (by rw [List.length_append, HLO.out]; rfl); rwa [HLO.out] at this)
  have hcl : ln ≤ cp := by omega
  have hcm : lo ≤ cq := by omega
  have zg8 : g < w8.heap.size := (FU_5.out.lt g rfl).2
  have x10 := OP_5.out.c10
  go_wp2_with fail
  refine (qmake_o _ l _ (CL_5.out).items HG.out).mono ?_
  rintro e w9 ⟨u1, A1, at1, er1, rfl, i1, k1, b9⟩
  have D9 := hid b9
  have z9 : w8.heap.size ≤ w9.heap.size := b9.size
  have U1 := hid i1
  have qU1 := hid (fun k e => World.ownsRow.lt i1 k e)
  clear b9 i1 x10
  have OP_6 := hid (OP_5.out.low D9.out); have BW_6 := hid (BW_5.out.trans (D9.out.mono BW_5.out.size)); have CL_6 := hid (CL_5.out.low D9.out); have CO_6 := hid (CO_5.out.low D9.out); have FU_6 := hid (ownG_low FU_5.out D9.out); have OT_6 := hid (ownG_low OT_5.out D9.out); have WA_6 := hid (ownG_low WA_5.out D9.out); have WO_6 := hid (ownG_low WO.out D9.out); have FC_6 := hid (FC.out.low D9.out); have OC_6 := hid (OC.out.low D9.out)
  clear OP_5 BW_5 CL_5 CO_5 FU_5 OT_5 WA_5 WO FC OC
  clear D9
  have K1 := hid k1; clear k1
  have x10 := OP_6.out.c10; have x1 := OP_6.out.c1; have x2 := OP_6.out.c2; have x3 := OP_6.out.c3
  go_wp2_with fail
  refine (qput_o _ l t _ (CL_6.out).items HG.out HTS.out).mono ?_
  rintro e w10 ⟨u2, A2, er2, rfl, i2, k2, b10⟩
  have D10 := hid b10
  have z10 : w9.heap.size ≤ w10.heap.size := b10.size
  have U2 := hid i2
  have qU2 := hid (fun k e => World.ownsRow.lt i2 k e)
  clear b10 i2 x10 x1 x2 x3
  have OP_7 := hid (OP_6.out.low D10.out); have BW_7 := hid (BW_6.out.trans (D10.out.mono BW_6.out.size)); have CL_7 := hid (CL_6.out.low D10.out); have CO_7 := hid (CO_6.out.low D10.out); have FU_7 := hid (ownG_low FU_6.out D10.out); have OT_7 := hid (ownG_low OT_6.out D10.out); have WA_7 := hid (ownG_low WA_6.out D10.out); have WO_7 := hid (ownG_low WO_6.out D10.out); have FC_7 := hid (FC_6.out.low D10.out); have OC_7 := hid (OC_6.out.low D10.out); have U1_7 := hid (ownG_low U1.out D10.out)
  clear OP_6 BW_6 CL_6 CO_6 FU_6 OT_6 WA_6 WO_6 FC_6 OC_6 U1
  clear D10
  have K2 := hid k2; clear k2
  have x10 := OP_7.out.c10; have x9 := OP_7.out.c9; have x8 := OP_7.out.c8
  go_wp2_with fail
  refine (qdel_any _ l key s _ (CL_7.out).items HG.out).mono ?_
  rintro e w11 ⟨u3, rfl, i3, b11⟩
  have D11 := hid b11
  have z11 : w10.heap.size ≤ w11.heap.size := b11.size
  have U3 := hid i3
  have qU3 := hid (fun k e => World.ownsRow.lt i3 k e)
  clear b11 i3 x10 x9 x8
  have OP_8 := hid (OP_7.out.low D11.out); have BW_8 := hid (BW_7.out.trans (D11.out.mono BW_7.out.size)); have CL_8 := hid (CL_7.out.low D11.out); have CO_8 := hid (CO_7.out.low D11.out); have FU_8 := hid (ownG_low FU_7.out D11.out); have OT_8 := hid (ownG_low OT_7.out D11.out); have WA_8 := hid (ownG_low WA_7.out D11.out); have WO_8 := hid (ownG_low WO_7.out D11.out); have FC_8 := hid (FC_7.out.low D11.out); have OC_8 := hid (OC_7.out.low D11.out); have U1_8 := hid (ownG_low U1_7.out D11.out); have U2_8 := hid (ownG_low U2.out D11.out)
  clear OP_7 BW_7 CL_7 CO_7 FU_7 OT_7 WA_7 WO_7 FC_7 OC_7 U1_7 U2
  clear D11
  have x10 := OP_8.out.c10; have x11 := OP_8.out.c11; have x8 := OP_8.out.c8
  go_wp2_with fail
  refine (qleft_any _ _ l os s _ (CL_8.out).items (CO_8.out).items HG.out HGO.out.1.1).mono ?_
  rintro e w12 ⟨u4, rfl, i4, b12⟩
  have D12 := hid b12
  have z12 : w11.heap.size ≤ w12.heap.size := b12.size
  have U4 := hid i4
  have qU4 := hid (fun k e => World.ownsRow.lt i4 k e)
  clear b12 i4 x10 x11 x8
  have OP_9 := hid (OP_8.out.low D12.out); have BW_9 := hid (BW_8.out.trans (D12.out.mono BW_8.out.size)); have CL_9 := hid (CL_8.out.low D12.out); have CO_9 := hid (CO_8.out.low D12.out); have FU_9 := hid (ownG_low FU_8.out D12.out); have OT_9 := hid (ownG_low OT_8.out D12.out); have WA_9 := hid (ownG_low WA_8.out D12.out); have WO_9 := hid (ownG_low WO_8.out D12.out); have FC_9 := hid (FC_8.out.low D12.out); have OC_9 := hid (OC_8.out.low D12.out); have U1_9 := hid (ownG_low U1_8.out D12.out); have U2_9 := hid (ownG_low U2_8.out D12.out); have U3_9 := hid (ownG_low U3.out D12.out)
  clear OP_8 BW_8 CL_8 CO_8 FU_8 OT_8 WA_8 WO_8 FC_8 OC_8 U1_8 U2_8 U3
  clear D12
  go_wp2_with fail
  refine (make_o _ l _ FC_9.out HG.out).mono ?_
  rintro e w13 ⟨a1, B1, ta1, ea1, rfl, oa1, ka1, b13⟩
  have D13 := hid b13
  have z13 : w12.heap.size ≤ w13.heap.size := b13.size
  have RA1 := hid oa1
  have qRA1 := hid (fun k e => World.ownsRow.lt oa1 k e)
  clear b13 oa1
  have OP_10 := hid (OP_9.out.low D13.out); have BW_10 := hid (BW_9.out.trans (D13.out.mono BW_9.out.size)); have CL_10 := hid (CL_9.out.low D13.out); have CO_10 := hid (CO_9.out.low D13.out); have FU_10 := hid (ownG_low FU_9.out D13.out); have OT_10 := hid (ownG_low OT_9.out D13.out); have WA_10 := hid (ownG_low WA_9.out D13.out); have WO_10 := hid (ownG_low WO_9.out D13.out); have FC_10 := hid (FC_9.out.low D13.out); have OC_10 := hid (OC_9.out.low D13.out); have U1_10 := hid (ownG_low U1_9.out D13.out); have U2_10 := hid (ownG_low U2_9.out D13.out); have U3_10 := hid (ownG_low U3_9.out D13.out); have U4_10 := hid (ownG_low U4.out D13.out)
  clear OP_9 BW_9 CL_9 CO_9 FU_9 OT_9 WA_9 WO_9 FC_9 OC_9 U1_9 U2_9 U3_9 U4
  clear D13
  have KA1 := hid ka1; clear ka1
  have T0 : w13.drew.cell? ⟨w.heap.size, 1, none⟩ = some (.string t.1) ∧ w13.drew.cell? ⟨w.heap.size, 2, none⟩ = some (.string t.2.1) ∧ w13.drew.cell? ⟨w.heap.size, 3, none⟩ = some (.string t.2.2) := ⟨OP_10.out.c1, OP_10.out.c2, OP_10.out.c3⟩
  have D13d := hid (show Below w13.heap.size w13 w13.drew from (Below.refl _ _).drew)
  go_wp2_with fail
  go_region_held3 (fun W => W.cell? ⟨w.heap.size, 1, none⟩ = some (.string t.1) ∧ W.cell? ⟨w.heap.size, 2, none⟩ = some (.string t.2.1) ∧ W.cell? ⟨w.heap.size, 3, none⟩ = some (.string t.2.2))
    (first | exact T0 | exact T1)
    (first
      | (go_at_call 20; refine (put_o _ l t _ (FC_10.out.low (Below.refl _ _).drew) HG.out HTS.out).mono ?_; rintro e w14 ⟨b1', C1, eb1, rfl, ob1, kb1, b14⟩; have T1 : w14.cell? ⟨w.heap.size, 1, none⟩ = some (.string t.1) ∧ w14.cell? ⟨w.heap.size, 2, none⟩ = some (.string t.2.1) ∧ w14.cell? ⟨w.heap.size, 3, none⟩ = some (.string t.2.2) := ⟨(((OP_10.out.low D13d.out)).low b14).c1, (((OP_10.out.low D13d.out)).low b14).c2, (((OP_10.out.low D13d.out)).low b14).c3⟩; have D14 := hid (show Below w13.heap.size w13 w14 from D13d.out.trans (b14.mono D13d.out.size)); have N14 := hid ob1; clear b14 ob1))
  clear T0 T1 D13d
  have z14 : w13.heap.size ≤ w14.heap.size := D14.out.size
  have OP_11 := hid (OP_10.out.low D14.out); have BW_11 := hid (BW_10.out.trans (D14.out.mono BW_10.out.size)); have CL_11 := hid (CL_10.out.low D14.out); have CO_11 := hid (CO_10.out.low D14.out); have FU_11 := hid (ownG_low FU_10.out D14.out); have OT_11 := hid (ownG_low OT_10.out D14.out); have WA_11 := hid (ownG_low WA_10.out D14.out); have WO_11 := hid (ownG_low WO_10.out D14.out); have FC_11 := hid (FC_10.out.low D14.out); have OC_11 := hid (OC_10.out.low D14.out); have U1_11 := hid (ownG_low U1_10.out D14.out); have U2_11 := hid (ownG_low U2_10.out D14.out); have U3_11 := hid (ownG_low U3_10.out D14.out); have U4_11 := hid (ownG_low U4_10.out D14.out); have RA1_11 := hid (ownG_low RA1.out D14.out)
  clear OP_10 BW_10 CL_10 CO_10 FU_10 OT_10 WA_10 WO_10 FC_10 OC_10 U1_10 U2_10 U3_10 U4_10 RA1
  clear D14
  have RB1 := N14; have qRB1 := hid (show ∀ k, Value.ownBlock _ = some k → w13.heap.size ≤ k ∧ k < w14.heap.size from fun k e => World.ownsRow.lt RB1.out k e); have KB1 := hid kb1; clear kb1 N14
  have T0 : w14.drew.cell? ⟨w.heap.size, 9, none⟩ = some (.string key) ∧ w14.drew.cell? ⟨w.heap.size, 8, none⟩ = some (.string s) := ⟨OP_11.out.c9, OP_11.out.c8⟩
  have D14d := hid (show Below w14.heap.size w14 w14.drew from (Below.refl _ _).drew)
  go_wp2_with fail
  go_region_held3 (fun W => W.cell? ⟨w.heap.size, 9, none⟩ = some (.string key) ∧ W.cell? ⟨w.heap.size, 8, none⟩ = some (.string s))
    (first | exact T0 | exact T1)
    (first
      | (go_at_call 21; refine (del_any _ l key s _ (FC_11.out.low (Below.refl _ _).drew).items HG.out).mono ?_; rintro e w15 ⟨c1', rfl, oc1, b15⟩; have T1 : w15.cell? ⟨w.heap.size, 9, none⟩ = some (.string key) ∧ w15.cell? ⟨w.heap.size, 8, none⟩ = some (.string s) := ⟨(((OP_11.out.low D14d.out)).low b15).c9, (((OP_11.out.low D14d.out)).low b15).c8⟩; have D15 := hid (show Below w14.heap.size w14 w15 from D14d.out.trans (b15.mono D14d.out.size)); have N15 := hid oc1; clear b15 oc1))
  clear T0 T1 D14d
  have z15 : w14.heap.size ≤ w15.heap.size := D15.out.size
  have OP_12 := hid (OP_11.out.low D15.out); have BW_12 := hid (BW_11.out.trans (D15.out.mono BW_11.out.size)); have CL_12 := hid (CL_11.out.low D15.out); have CO_12 := hid (CO_11.out.low D15.out); have FU_12 := hid (ownG_low FU_11.out D15.out); have OT_12 := hid (ownG_low OT_11.out D15.out); have WA_12 := hid (ownG_low WA_11.out D15.out); have WO_12 := hid (ownG_low WO_11.out D15.out); have FC_12 := hid (FC_11.out.low D15.out); have OC_12 := hid (OC_11.out.low D15.out); have U1_12 := hid (ownG_low U1_11.out D15.out); have U2_12 := hid (ownG_low U2_11.out D15.out); have U3_12 := hid (ownG_low U3_11.out D15.out); have U4_12 := hid (ownG_low U4_11.out D15.out); have RA1_12 := hid (ownG_low RA1_11.out D15.out); have RB1_12 := hid (ownG_low RB1.out D15.out)
  clear OP_11 BW_11 CL_11 CO_11 FU_11 OT_11 WA_11 WO_11 FC_11 OC_11 U1_11 U2_11 U3_11 U4_11 RA1_11 RB1
  have RC1 := N15
  have qRC1 := hid (show ∀ k, Value.ownBlock _ = some k → w14.heap.size ≤ k ∧ k < w15.heap.size from fun k e => World.ownsRow.lt RC1.out k e)
  clear N15
  clear D15
  have T0 : w15.drew.cell? ⟨w.heap.size, 8, none⟩ = some (.string s) := OP_12.out.c8
  have D15d := hid (show Below w15.heap.size w15 w15.drew from (Below.refl _ _).drew)
  go_wp2_with fail
  go_region_held3 (fun W => W.cell? ⟨w.heap.size, 8, none⟩ = some (.string s))
    (first | exact T0 | exact T1)
    (first
      | (go_at_call 23; refine (left_any _ _ l os s _ (FC_12.out.low (Below.refl _ _).drew).items (OC_12.out.low (Below.refl _ _).drew).items HG.out HGO.out.1.1).mono ?_; rintro e w16 ⟨d1', rfl, od1, b16⟩; have T1 : w16.cell? ⟨w.heap.size, 8, none⟩ = some (.string s) := (((OP_12.out.low D15d.out)).low b16).c8; have D16 := hid (show Below w15.heap.size w15 w16 from D15d.out.trans (b16.mono D15d.out.size)); have N16 := hid od1; clear b16 od1))
  clear T0 T1 D15d
  have z16 : w15.heap.size ≤ w16.heap.size := D16.out.size
  have OP_13 := hid (OP_12.out.low D16.out); have BW_13 := hid (BW_12.out.trans (D16.out.mono BW_12.out.size)); have CL_13 := hid (CL_12.out.low D16.out); have CO_13 := hid (CO_12.out.low D16.out); have FU_13 := hid (ownG_low FU_12.out D16.out); have OT_13 := hid (ownG_low OT_12.out D16.out); have WA_13 := hid (ownG_low WA_12.out D16.out); have WO_13 := hid (ownG_low WO_12.out D16.out); have FC_13 := hid (FC_12.out.low D16.out); have OC_13 := hid (OC_12.out.low D16.out); have U1_13 := hid (ownG_low U1_12.out D16.out); have U2_13 := hid (ownG_low U2_12.out D16.out); have U3_13 := hid (ownG_low U3_12.out D16.out); have U4_13 := hid (ownG_low U4_12.out D16.out); have RA1_13 := hid (ownG_low RA1_12.out D16.out); have RB1_13 := hid (ownG_low RB1_12.out D16.out); have RC1_13 := hid (ownG_low RC1.out D16.out)
  clear OP_12 BW_12 CL_12 CO_12 FU_12 OT_12 WA_12 WO_12 FC_12 OC_12 U1_12 U2_12 U3_12 U4_12 RA1_12 RB1_12 RC1
  have RD1 := N16
  have qRD1 := hid (show ∀ k, Value.ownBlock _ = some k → w15.heap.size ≤ k ∧ k < w16.heap.size from fun k e => World.ownsRow.lt RD1.out k e)
  clear N16
  clear D16
  go_wp2_with fail
  refine (make_o _ l _ FC_13.out HG.out).mono ?_
  rintro e w17 ⟨a2, B2, ta2, ea2, rfl, oa2, ka2, b17⟩
  have D17 := hid b17
  have z17 : w16.heap.size ≤ w17.heap.size := b17.size
  have RA2 := hid oa2
  have qRA2 := hid (fun k e => World.ownsRow.lt oa2 k e)
  clear b17 oa2
  have OP_14 := hid (OP_13.out.low D17.out); have BW_14 := hid (BW_13.out.trans (D17.out.mono BW_13.out.size)); have CL_14 := hid (CL_13.out.low D17.out); have CO_14 := hid (CO_13.out.low D17.out); have FU_14 := hid (ownG_low FU_13.out D17.out); have OT_14 := hid (ownG_low OT_13.out D17.out); have WA_14 := hid (ownG_low WA_13.out D17.out); have WO_14 := hid (ownG_low WO_13.out D17.out); have FC_14 := hid (FC_13.out.low D17.out); have OC_14 := hid (OC_13.out.low D17.out); have U1_14 := hid (ownG_low U1_13.out D17.out); have U2_14 := hid (ownG_low U2_13.out D17.out); have U3_14 := hid (ownG_low U3_13.out D17.out); have U4_14 := hid (ownG_low U4_13.out D17.out); have RA1_14 := hid (ownG_low RA1_13.out D17.out); have RB1_14 := hid (ownG_low RB1_13.out D17.out); have RC1_14 := hid (ownG_low RC1_13.out D17.out); have RD1_14 := hid (ownG_low RD1.out D17.out)
  clear OP_13 BW_13 CL_13 CO_13 FU_13 OT_13 WA_13 WO_13 FC_13 OC_13 U1_13 U2_13 U3_13 U4_13 RA1_13 RB1_13 RC1_13 RD1
  clear D17
  have KA2 := hid ka2; clear ka2
  have T0 : w17.drew.cell? ⟨w.heap.size, 1, none⟩ = some (.string t.1) ∧ w17.drew.cell? ⟨w.heap.size, 2, none⟩ = some (.string t.2.1) ∧ w17.drew.cell? ⟨w.heap.size, 3, none⟩ = some (.string t.2.2) := ⟨OP_14.out.c1, OP_14.out.c2, OP_14.out.c3⟩
  have D17d := hid (show Below w17.heap.size w17 w17.drew from (Below.refl _ _).drew)
  go_wp2_with fail
  go_region_held3 (fun W => W.cell? ⟨w.heap.size, 1, none⟩ = some (.string t.1) ∧ W.cell? ⟨w.heap.size, 2, none⟩ = some (.string t.2.1) ∧ W.cell? ⟨w.heap.size, 3, none⟩ = some (.string t.2.2))
    (first | exact T0 | exact T1)
    (first
      | (go_at_call 20; refine (put_o _ l t _ (FC_14.out.low (Below.refl _ _).drew) HG.out HTS.out).mono ?_; rintro e w18 ⟨b2', C2, eb2, rfl, ob2, kb2, b18⟩; have T1 : w18.cell? ⟨w.heap.size, 1, none⟩ = some (.string t.1) ∧ w18.cell? ⟨w.heap.size, 2, none⟩ = some (.string t.2.1) ∧ w18.cell? ⟨w.heap.size, 3, none⟩ = some (.string t.2.2) := ⟨(((OP_14.out.low D17d.out)).low b18).c1, (((OP_14.out.low D17d.out)).low b18).c2, (((OP_14.out.low D17d.out)).low b18).c3⟩; have D18 := hid (show Below w17.heap.size w17 w18 from D17d.out.trans (b18.mono D17d.out.size)); have N18 := hid ob2; clear b18 ob2))
  clear T0 T1 D17d
  have z18 : w17.heap.size ≤ w18.heap.size := D18.out.size
  have OP_15 := hid (OP_14.out.low D18.out); have BW_15 := hid (BW_14.out.trans (D18.out.mono BW_14.out.size)); have CL_15 := hid (CL_14.out.low D18.out); have CO_15 := hid (CO_14.out.low D18.out); have FU_15 := hid (ownG_low FU_14.out D18.out); have OT_15 := hid (ownG_low OT_14.out D18.out); have WA_15 := hid (ownG_low WA_14.out D18.out); have WO_15 := hid (ownG_low WO_14.out D18.out); have FC_15 := hid (FC_14.out.low D18.out); have OC_15 := hid (OC_14.out.low D18.out); have U1_15 := hid (ownG_low U1_14.out D18.out); have U2_15 := hid (ownG_low U2_14.out D18.out); have U3_15 := hid (ownG_low U3_14.out D18.out); have U4_15 := hid (ownG_low U4_14.out D18.out); have RA1_15 := hid (ownG_low RA1_14.out D18.out); have RB1_15 := hid (ownG_low RB1_14.out D18.out); have RC1_15 := hid (ownG_low RC1_14.out D18.out); have RD1_15 := hid (ownG_low RD1_14.out D18.out); have RA2_15 := hid (ownG_low RA2.out D18.out)
  clear OP_14 BW_14 CL_14 CO_14 FU_14 OT_14 WA_14 WO_14 FC_14 OC_14 U1_14 U2_14 U3_14 U4_14 RA1_14 RB1_14 RC1_14 RD1_14 RA2
  clear D18
  have RB2 := N18; have qRB2 := hid (show ∀ k, Value.ownBlock _ = some k → w17.heap.size ≤ k ∧ k < w18.heap.size from fun k e => World.ownsRow.lt RB2.out k e); have KB2 := hid kb2; clear kb2 N18
  have T0 : w18.drew.cell? ⟨w.heap.size, 9, none⟩ = some (.string key) ∧ w18.drew.cell? ⟨w.heap.size, 8, none⟩ = some (.string s) := ⟨OP_15.out.c9, OP_15.out.c8⟩
  have D18d := hid (show Below w18.heap.size w18 w18.drew from (Below.refl _ _).drew)
  go_wp2_with fail
  go_region_held3 (fun W => W.cell? ⟨w.heap.size, 9, none⟩ = some (.string key) ∧ W.cell? ⟨w.heap.size, 8, none⟩ = some (.string s))
    (first | exact T0 | exact T1)
    (first
      | (go_at_call 21; refine (del_any _ l key s _ (FC_15.out.low (Below.refl _ _).drew).items HG.out).mono ?_; rintro e w19 ⟨c2', rfl, oc2, b19⟩; have T1 : w19.cell? ⟨w.heap.size, 9, none⟩ = some (.string key) ∧ w19.cell? ⟨w.heap.size, 8, none⟩ = some (.string s) := ⟨(((OP_15.out.low D18d.out)).low b19).c9, (((OP_15.out.low D18d.out)).low b19).c8⟩; have D19 := hid (show Below w18.heap.size w18 w19 from D18d.out.trans (b19.mono D18d.out.size)); have N19 := hid oc2; clear b19 oc2))
  clear T0 T1 D18d
  have z19 : w18.heap.size ≤ w19.heap.size := D19.out.size
  have OP_16 := hid (OP_15.out.low D19.out); have BW_16 := hid (BW_15.out.trans (D19.out.mono BW_15.out.size)); have CL_16 := hid (CL_15.out.low D19.out); have CO_16 := hid (CO_15.out.low D19.out); have FU_16 := hid (ownG_low FU_15.out D19.out); have OT_16 := hid (ownG_low OT_15.out D19.out); have WA_16 := hid (ownG_low WA_15.out D19.out); have WO_16 := hid (ownG_low WO_15.out D19.out); have FC_16 := hid (FC_15.out.low D19.out); have OC_16 := hid (OC_15.out.low D19.out); have U1_16 := hid (ownG_low U1_15.out D19.out); have U2_16 := hid (ownG_low U2_15.out D19.out); have U3_16 := hid (ownG_low U3_15.out D19.out); have U4_16 := hid (ownG_low U4_15.out D19.out); have RA1_16 := hid (ownG_low RA1_15.out D19.out); have RB1_16 := hid (ownG_low RB1_15.out D19.out); have RC1_16 := hid (ownG_low RC1_15.out D19.out); have RD1_16 := hid (ownG_low RD1_15.out D19.out); have RA2_16 := hid (ownG_low RA2_15.out D19.out); have RB2_16 := hid (ownG_low RB2.out D19.out)
  clear OP_15 BW_15 CL_15 CO_15 FU_15 OT_15 WA_15 WO_15 FC_15 OC_15 U1_15 U2_15 U3_15 U4_15 RA1_15 RB1_15 RC1_15 RD1_15 RA2_15 RB2
  have RC2 := N19
  have qRC2 := hid (show ∀ k, Value.ownBlock _ = some k → w18.heap.size ≤ k ∧ k < w19.heap.size from fun k e => World.ownsRow.lt RC2.out k e)
  clear N19
  clear D19
  have T0 : w19.drew.cell? ⟨w.heap.size, 8, none⟩ = some (.string s) := OP_16.out.c8
  have D19d := hid (show Below w19.heap.size w19 w19.drew from (Below.refl _ _).drew)
  go_wp2_with fail
  go_region_held3 (fun W => W.cell? ⟨w.heap.size, 8, none⟩ = some (.string s))
    (first | exact T0 | exact T1)
    (first
      | (go_at_call 23; refine (left_any _ _ l os s _ (FC_16.out.low (Below.refl _ _).drew).items (OC_16.out.low (Below.refl _ _).drew).items HG.out HGO.out.1.1).mono ?_; rintro e w20 ⟨d2', rfl, od2, b20⟩; have T1 : w20.cell? ⟨w.heap.size, 8, none⟩ = some (.string s) := (((OP_16.out.low D19d.out)).low b20).c8; have D20 := hid (show Below w19.heap.size w19 w20 from D19d.out.trans (b20.mono D19d.out.size)); have N20 := hid od2; clear b20 od2))
  clear T0 T1 D19d
  have z20 : w19.heap.size ≤ w20.heap.size := D20.out.size
  have OP_17 := hid (OP_16.out.low D20.out); have BW_17 := hid (BW_16.out.trans (D20.out.mono BW_16.out.size)); have CL_17 := hid (CL_16.out.low D20.out); have CO_17 := hid (CO_16.out.low D20.out); have FU_17 := hid (ownG_low FU_16.out D20.out); have OT_17 := hid (ownG_low OT_16.out D20.out); have WA_17 := hid (ownG_low WA_16.out D20.out); have WO_17 := hid (ownG_low WO_16.out D20.out); have FC_17 := hid (FC_16.out.low D20.out); have OC_17 := hid (OC_16.out.low D20.out); have U1_17 := hid (ownG_low U1_16.out D20.out); have U2_17 := hid (ownG_low U2_16.out D20.out); have U3_17 := hid (ownG_low U3_16.out D20.out); have U4_17 := hid (ownG_low U4_16.out D20.out); have RA1_17 := hid (ownG_low RA1_16.out D20.out); have RB1_17 := hid (ownG_low RB1_16.out D20.out); have RC1_17 := hid (ownG_low RC1_16.out D20.out); have RD1_17 := hid (ownG_low RD1_16.out D20.out); have RA2_17 := hid (ownG_low RA2_16.out D20.out); have RB2_17 := hid (ownG_low RB2_16.out D20.out); have RC2_17 := hid (ownG_low RC2.out D20.out)
  clear OP_16 BW_16 CL_16 CO_16 FU_16 OT_16 WA_16 WO_16 FC_16 OC_16 U1_16 U2_16 U3_16 U4_16 RA1_16 RB1_16 RC1_16 RD1_16 RA2_16 RB2_16 RC2
  have RD2 := N20
  have qRD2 := hid (show ∀ k, Value.ownBlock _ = some k → w19.heap.size ≤ k ∧ k < w20.heap.size from fun k e => World.ownsRow.lt RD2.out k e)
  clear N20
  clear D20
  go_wp2_with fail
  refine (check_any _ l _ (FC_17.out).items HG.out).mono ?_
  rintro e w21 ⟨er9, rfl, b21, -, -⟩
  have D21 := hid b21
  have z21 : w20.heap.size ≤ w21.heap.size := b21.size
  clear b21
  have OP_18 := hid (OP_17.out.low D21.out); have BW_18 := hid (BW_17.out.trans (D21.out.mono BW_17.out.size)); have CL_18 := hid (CL_17.out.low D21.out); have CO_18 := hid (CO_17.out.low D21.out); have FU_18 := hid (ownG_low FU_17.out D21.out); have OT_18 := hid (ownG_low OT_17.out D21.out); have WA_18 := hid (ownG_low WA_17.out D21.out); have WO_18 := hid (ownG_low WO_17.out D21.out); have FC_18 := hid (FC_17.out.low D21.out); have OC_18 := hid (OC_17.out.low D21.out); have U1_18 := hid (ownG_low U1_17.out D21.out); have U2_18 := hid (ownG_low U2_17.out D21.out); have U3_18 := hid (ownG_low U3_17.out D21.out); have U4_18 := hid (ownG_low U4_17.out D21.out); have RA1_18 := hid (ownG_low RA1_17.out D21.out); have RB1_18 := hid (ownG_low RB1_17.out D21.out); have RC1_18 := hid (ownG_low RC1_17.out D21.out); have RD1_18 := hid (ownG_low RD1_17.out D21.out); have RA2_18 := hid (ownG_low RA2_17.out D21.out); have RB2_18 := hid (ownG_low RB2_17.out D21.out); have RC2_18 := hid (ownG_low RC2_17.out D21.out); have RD2_18 := hid (ownG_low RD2.out D21.out)
  clear OP_17 BW_17 CL_17 CO_17 FU_17 OT_17 WA_17 WO_17 FC_17 OC_17 U1_17 U2_17 U3_17 U4_17 RA1_17 RB1_17 RC1_17 RD1_17 RA2_17 RB2_17 RC2_17 RD2
  clear D21
  go_wp2_with fail
  refine (ctols_any _ os _ (OC_18.out).items HGO.out).mono ?_
  rintro e w22 ⟨at8, er8, rfl, -, b22⟩
  have D22 := hid b22
  have z22 : w21.heap.size ≤ w22.heap.size := b22.size
  clear b22
  have OP_19 := hid (OP_18.out.low D22.out); have BW_19 := hid (BW_18.out.trans (D22.out.mono BW_18.out.size)); have CL_19 := hid (CL_18.out.low D22.out); have CO_19 := hid (CO_18.out.low D22.out); have FU_19 := hid (ownG_low FU_18.out D22.out); have OT_19 := hid (ownG_low OT_18.out D22.out); have WA_19 := hid (ownG_low WA_18.out D22.out); have WO_19 := hid (ownG_low WO_18.out D22.out); have FC_19 := hid (FC_18.out.low D22.out); have OC_19 := hid (OC_18.out.low D22.out); have U1_19 := hid (ownG_low U1_18.out D22.out); have U2_19 := hid (ownG_low U2_18.out D22.out); have U3_19 := hid (ownG_low U3_18.out D22.out); have U4_19 := hid (ownG_low U4_18.out D22.out); have RA1_19 := hid (ownG_low RA1_18.out D22.out); have RB1_19 := hid (ownG_low RB1_18.out D22.out); have RC1_19 := hid (ownG_low RC1_18.out D22.out); have RD1_19 := hid (ownG_low RD1_18.out D22.out); have RA2_19 := hid (ownG_low RA2_18.out D22.out); have RB2_19 := hid (ownG_low RB2_18.out D22.out); have RC2_19 := hid (ownG_low RC2_18.out D22.out); have RD2_19 := hid (ownG_low RD2_18.out D22.out)
  clear OP_18 BW_18 CL_18 CO_18 FU_18 OT_18 WA_18 WO_18 FC_18 OC_18 U1_18 U2_18 U3_18 U4_18 RA1_18 RB1_18 RC1_18 RD1_18 RA2_18 RB2_18 RC2_18 RD2_18
  clear D22
  have T0 : w22.drew.cell? ⟨w.heap.size, 8, none⟩ = some (.string s) := OP_19.out.c8
  have D22d := hid (show Below w22.heap.size w22 w22.drew from (Below.refl _ _).drew)
  go_wp2_with fail
  go_region_held3 (fun W => W.cell? ⟨w.heap.size, 8, none⟩ = some (.string s))
    (first | exact T0 | exact T1)
    (first
      | (go_at_call 26; refine (tolerated_any _ _ l os s _ (FC_19.out.low (Below.refl _ _).drew).items (OC_19.out.low (Below.refl _ _).drew).items HG.out HGO.out.1.1).mono ?_; rintro e w23 ⟨rfl, b23⟩; have T1 : w23.cell? ⟨w.heap.size, 8, none⟩ = some (.string s) := (((OP_19.out.low D22d.out)).low b23).c8; have D23 := hid (show Below w22.heap.size w22 w23 from D22d.out.trans (b23.mono D22d.out.size)); have N23 := hid True.intro; clear b23 ))
  clear T0 T1 D22d
  have z23 : w22.heap.size ≤ w23.heap.size := D23.out.size
  have OP_20 := hid (OP_19.out.low D23.out); have BW_20 := hid (BW_19.out.trans (D23.out.mono BW_19.out.size)); have CL_20 := hid (CL_19.out.low D23.out); have CO_20 := hid (CO_19.out.low D23.out); have FU_20 := hid (ownG_low FU_19.out D23.out); have OT_20 := hid (ownG_low OT_19.out D23.out); have WA_20 := hid (ownG_low WA_19.out D23.out); have WO_20 := hid (ownG_low WO_19.out D23.out); have FC_20 := hid (FC_19.out.low D23.out); have OC_20 := hid (OC_19.out.low D23.out); have U1_20 := hid (ownG_low U1_19.out D23.out); have U2_20 := hid (ownG_low U2_19.out D23.out); have U3_20 := hid (ownG_low U3_19.out D23.out); have U4_20 := hid (ownG_low U4_19.out D23.out); have RA1_20 := hid (ownG_low RA1_19.out D23.out); have RB1_20 := hid (ownG_low RB1_19.out D23.out); have RC1_20 := hid (ownG_low RC1_19.out D23.out); have RD1_20 := hid (ownG_low RD1_19.out D23.out); have RA2_20 := hid (ownG_low RA2_19.out D23.out); have RB2_20 := hid (ownG_low RB2_19.out D23.out); have RC2_20 := hid (ownG_low RC2_19.out D23.out); have RD2_20 := hid (ownG_low RD2_19.out D23.out)
  clear OP_19 BW_19 CL_19 CO_19 FU_19 OT_19 WA_19 WO_19 FC_19 OC_19 U1_19 U2_19 U3_19 U4_19 RA1_19 RB1_19 RC1_19 RD1_19 RA2_19 RB2_19 RC2_19 RD2_19
  clear D23
  clear N23
  go_wp2_with fail
  refine (same_any _ _ (l ++ sp3) _ (ownG_came FU_20.out).items (ownG_came WA_20.out).items (by have := HL1.out; rw [List.length_append, HLN.out]; unfold maxLen; simp [sp3]; omega)).mono ?_
  rintro e w24 ⟨rfl, b24⟩
  have D24 := hid b24
  have z24 : w23.heap.size ≤ w24.heap.size := b24.size
  clear b24
  have OP_21 := hid (OP_20.out.low D24.out); have BW_21 := hid (BW_20.out.trans (D24.out.mono BW_20.out.size)); have CL_21 := hid (CL_20.out.low D24.out); have CO_21 := hid (CO_20.out.low D24.out); have FU_21 := hid (ownG_low FU_20.out D24.out); have OT_21 := hid (ownG_low OT_20.out D24.out); have WA_21 := hid (ownG_low WA_20.out D24.out); have WO_21 := hid (ownG_low WO_20.out D24.out); have FC_21 := hid (FC_20.out.low D24.out); have OC_21 := hid (OC_20.out.low D24.out); have U1_21 := hid (ownG_low U1_20.out D24.out); have U2_21 := hid (ownG_low U2_20.out D24.out); have U3_21 := hid (ownG_low U3_20.out D24.out); have U4_21 := hid (ownG_low U4_20.out D24.out); have RA1_21 := hid (ownG_low RA1_20.out D24.out); have RB1_21 := hid (ownG_low RB1_20.out D24.out); have RC1_21 := hid (ownG_low RC1_20.out D24.out); have RD1_21 := hid (ownG_low RD1_20.out D24.out); have RA2_21 := hid (ownG_low RA2_20.out D24.out); have RB2_21 := hid (ownG_low RB2_20.out D24.out); have RC2_21 := hid (ownG_low RC2_20.out D24.out); have RD2_21 := hid (ownG_low RD2_20.out D24.out)
  clear OP_20 BW_20 CL_20 CO_20 FU_20 OT_20 WA_20 WO_20 FC_20 OC_20 U1_20 U2_20 U3_20 U4_20 RA1_20 RB1_20 RC1_20 RD1_20 RA2_20 RB2_20 RC2_20 RD2_20
  clear D24
  have hlt24 := OP_21.out.lt
  go_wp2_with fail
  go_loopw [33] (fun i wr => ∃ q : Nat, q ≤ lo + 2 ∧ i = .int .i64 q ∧ Hid (Below w24.heap.size w24 wr)) (fun i _ => lo + 2 - (intOf i).toNat)
  case atStart => exact ⟨0, Nat.zero_le _, rfl, hid (Below.refl _ _)⟩
  case round =>
    obtain ⟨q, hq, rfl, HB⟩ := hrel
    by_cases hlq : q < lo + 2
    · have g1 : (q : Int) < ((lo + 2 : Nat) : Int) := by omega
      have g1' : (q : Int) < (lo : Int) + 2 := by omega
      have g0 : (0 : Int) ≤ (q : Int) := by omega
      have hj : q < (os ++ sp2).length := by rw [List.length_append, HLO.out]; simpa [sp2] using hlq
      have OA := ownG_low OT_21.out HB.out
      have OB := ownG_low WO_21.out HB.out
      have c0 := (own_atG OA q hj 0 (by decide)).1
      have c1 := (own_atG OA q hj 1 (by decide)).1
      have c2 := (own_atG OA q hj 2 (by decide)).1
      have c3 := (own_atG OA q hj 3 (by decide)).1
      have e0 := (own_atG OB q hj 0 (by decide)).1
      have e1 := (own_atG OB q hj 1 (by decide)).1
      have e2 := (own_atG OB q hj 2 (by decide)).1
      have e3 := (own_atG OB q hj 3 (by decide)).1
      generalize (os ++ sp2)[q] = xx at *
      obtain ⟨x0, x1, x2, x3⟩ := xx
      simp only [ofn, Nat.add_zero] at c0 c1 c2 c3 e0 e1 e2 e3
      clear OA OB hj
      have N1 := hid (HB.out.drew)
      go_wp2_with fail
      go_region
      go_wp2_with fail
      exact ⟨⟨q + 1, by omega, by go_num, N1⟩, by simp [intOf]; omega⟩
    · obtain rfl : q = lo + 2 := by omega
      have g1 : ¬ ((lo + 2 : Nat) : Int) < ((lo + 2 : Nat) : Int) := by omega
      have g1' : ¬ (lo : Int) + 2 < (lo : Int) + 2 := by omega
      have DB := HB
      have z25 : w24.heap.size ≤ wr.heap.size := HB.out.size
      clear HB
      have OP_22 := hid (OP_21.out.low DB.out); have BW_22 := hid (BW_21.out.trans (DB.out.mono BW_21.out.size)); have CL_22 := hid (CL_21.out.low DB.out); have CO_22 := hid (CO_21.out.low DB.out); have FU_22 := hid (ownG_low FU_21.out DB.out); have OT_22 := hid (ownG_low OT_21.out DB.out); have WA_22 := hid (ownG_low WA_21.out DB.out); have WO_22 := hid (ownG_low WO_21.out DB.out); have FC_22 := hid (FC_21.out.low DB.out); have OC_22 := hid (OC_21.out.low DB.out); have U1_22 := hid (ownG_low U1_21.out DB.out); have U2_22 := hid (ownG_low U2_21.out DB.out); have U3_22 := hid (ownG_low U3_21.out DB.out); have U4_22 := hid (ownG_low U4_21.out DB.out); have RA1_22 := hid (ownG_low RA1_21.out DB.out); have RB1_22 := hid (ownG_low RB1_21.out DB.out); have RC1_22 := hid (ownG_low RC1_21.out DB.out); have RD1_22 := hid (ownG_low RD1_21.out DB.out); have RA2_22 := hid (ownG_low RA2_21.out DB.out); have RB2_22 := hid (ownG_low RB2_21.out DB.out); have RC2_22 := hid (ownG_low RC2_21.out DB.out); have RD2_22 := hid (ownG_low RD2_21.out DB.out)
      clear OP_21 BW_21 CL_21 CO_21 FU_21 OT_21 WA_21 WO_21 FC_21 OC_21 U1_21 U2_21 U3_21 U4_21 RA1_21 RB1_21 RC1_21 RD1_21 RA2_21 RB2_21 RC2_21 RD2_21
      clear DB OP_22 CL_22 CO_22 OT_22 WO_22 WA_22 FC_22 OC_22
      generalize wr = w25 at *
      have hl3 : ln ≤ maxLen := HL1.out
      have ML := hid (show (l ++ sp3).length = ln + 3 by rw [List.length_append, HLN.out]; rfl)
      go_wp2_with fail
      rename_i KK aK
      have HKK := hid aK
      clear aK
      go_loopw [34] (fun i wr => ∃ (q : Nat) (M : List Tn), q ≤ ln ∧ i = .int .i64 q ∧ Hid (OwnT wr w1.heap.size (.slice (some ⟨g, 0, none⟩) (ln + 3) cp) M ∧ M.length = ln + 3 ∧ Mkz M q) ∧ Hid (Fr g w25 wr) ∧ Hid (Below w.heap.size w wr)) (fun i _ => ln - (intOf i).toNat)
      case atStart => exact ⟨0, l ++ sp3, Nat.zero_le _, rfl, hid ⟨FU_22.out, ML.out, fun k hk => by omega⟩, hid (Fr.refl _ _), BW_22⟩
      case round =>
        obtain ⟨q, M, hq, rfl, HM, HF, HB⟩ := hrel
        by_cases hlq : q < ln
        · have g1 : (q : Int) < (ln : Int) := by omega
          have g0 : (0 : Int) ≤ (q : Int) := by omega
          have g2 : (q : Int) < (ln : Int) + 3 := by omega
          have g3 : (q : Int) < ((ln + 3 : Nat) : Int) := by omega
          have mk := marks_any 3 q wr (by omega) (by unfold maxLen at hl3; omega)
          rw [show ((3 : Nat) : Int) = 3 from rfl] at mk
          have MK := hid mk
          clear mk
          go_wp2_with fail
          refine MK.out.mono ?_
          rintro e w2 ⟨rfl, b2⟩
          obtain ⟨ms, hms⟩ : ∃ ms, ms = mk3 3 q := ⟨_, rfl⟩
          rw [← hms]
          have HMS := hid hms
          clear hms
          have own := ownG_low HM.out.1 b2
          have OW2 := hid own
          rcases own.2 with ⟨e, _⟩ | ⟨g', cap', cur', e, hbg, hh, hnc, hj1, hs, hj2⟩
          · cases e
          injection e with e1 eL e3
          injection e1 with e1
          injection e1 with e1 eo es
          subst e1 e3
          clear eL eo es hj1 hj2
          have hcz : q * 3 + 2 < cur'.size := by rw [hs]; omega
          obtain ⟨u0, e0⟩ : ∃ u, cur'[q * 3]? = some u := ⟨_, Array.getElem?_eq_getElem (by omega)⟩
          obtain ⟨u1, e1⟩ : ∃ u, cur'[q * 3 + 1]? = some u := ⟨_, Array.getElem?_eq_getElem (by omega)⟩
          obtain ⟨u2, e2⟩ : ∃ u, cur'[q * 3 + 2]? = some u := ⟨_, Array.getElem?_eq_getElem (by omega)⟩
          have k0 := (cell_of_row w2 g (q * 3) cur' _ _ hh).trans e0; have k1 := (cell_of_row w2 g (q * 3 + 1) cur' _ _ hh).trans e1; have k2 := (cell_of_row w2 g (q * 3 + 2) cur' _ _ hh).trans e2
          have f0 := frozen_of_row w2 g (q * 3) cur' _ hh; have f1 := frozen_of_row w2 g (q * 3 + 1) cur' _ hh; have f2 := frozen_of_row w2 g (q * 3 + 2) cur' _ hh
          have N1 := hid (show OwnT (put3 w2 g (q * 3) (.string sZ) (.string (ms)) (.string sNoS)) w1.heap.size (.slice (some ⟨g, 0, none⟩) (ln + 3) cp) (M.set q (sZ, ms, sNoS)) ∧ (M.set q (sZ, ms, sNoS)).length = ln + 3 ∧ Mkz (M.set q (sZ, ms, sNoS)) (q + 1) from ⟨by have := own_put3 (k := q) (l := M) (cp := cp) sZ (ms) sNoS (by rw [HM.out.2.1]; exact OW2.out) (by rw [HM.out.2.1]; omega); rwa [HM.out.2.1] at this, by rw [List.length_set]; exact HM.out.2.1, by rw [HMS.out]; exact mkz_next HM.out.2.2 (by rw [HM.out.2.1]; omega)⟩)
          have N2 := hid ((HF.out.low b2).put3 (o := q * 3) (.string sZ) (.string (ms)) (.string sNoS))
          have N3 := hid (below_put3 (o := q * 3) (HB.out.trans (b2.mono HB.out.size)) (show w.heap.size ≤ g by have := hlt1; omega) (.string sZ) (.string (ms)) (.string sNoS))
          clear hh own hs hnc e0 e1 e2 b2 hcz
          unfold put3 sZ sNoS at N1 N2 N3
          go_wp2_with fail
          exact ⟨⟨q + 1, _, by omega, by go_num, N1, N2, N3⟩, by simp [intOf]; omega⟩
        · obtain rfl : q = ln := by omega
          have g1 : ¬ (q : Int) < (q : Int) := by omega
          have z26 := HF.out.size
          have XRA1 := hid (own_fr RA1_22.out HF.out (fun e => by have := qRA1.out _ e; omega)); have XRB1 := hid (own_fr RB1_22.out HF.out (fun e => by have := qRB1.out _ e; omega)); have XRC1 := hid (own_fr RC1_22.out HF.out (fun e => by have := qRC1.out _ e; omega)); have XRD1 := hid (own_fr RD1_22.out HF.out (fun e => by have := qRD1.out _ e; omega)); have XRA2 := hid (own_fr RA2_22.out HF.out (fun e => by have := qRA2.out _ e; omega)); have XRB2 := hid (own_fr RB2_22.out HF.out (fun e => by have := qRB2.out _ e; omega)); have XRC2 := hid (own_fr RC2_22.out HF.out (fun e => by have := qRC2.out _ e; omega)); have XRD2 := hid (own_fr RD2_22.out HF.out (fun e => by have := qRD2.out _ e; omega)); have XU1 := hid (own_fr U1_22.out HF.out (fun e => by have := qU1.out _ e; omega)); have XU2 := hid (own_fr U2_22.out HF.out (fun e => by have := qU2.out _ e; omega)); have XU3 := hid (own_fr U3_22.out HF.out (fun e => by have := qU3.out _ e; omega)); have XU4 := hid (own_fr U4_22.out HF.out (fun e => by have := qU4.out _ e; omega))
          clear RA1_22 RB1_22 RC1_22 RD1_22 RA2_22 RB2_22 RC2_22 RD2_22 U1_22 U2_22 U3_22 U4_22 HF FU_22 BW_22
          have lgM := HM.out.1.lt g rfl
          have n1 : A1.length * 48 ≤ 140737488351232 := by have := mkl_len K1.out; rw [HLN.out] at this; omega
          have n2 : A2.length * 48 ≤ 140737488351232 := by have := ptl_len K2.out; omega
          have n3 : (dels l key s).length * 48 ≤ 140737488351232 := by have := dels_len l key s; rw [HLN.out] at this; omega
          have n4 : (lft l os s).length * 48 ≤ 140737488351232 := by have := lft_len l os s; rw [HLN.out] at this; omega
          have N1 := hid n1; have N2 := hid n2; have N3 := hid n3; have N4 := hid n4
          have hs8 : w20.heap.size ≤ wr.heap.size := by omega
          have hg0 : g < w12.heap.size := by omega
          clear n1 n2 n3 n4
          go_wp2_with fail
          refine HKK.out _ _ ?_
          exact own_rest w wr g q cp w1.heap.size M A1 A2 (dels l key s) (lft l os s) _ _ _ _ _ _ _ _ _ _ _ _ w12.heap.size w13.heap.size w14.heap.size w15.heap.size w16.heap.size w17.heap.size w18.heap.size w19.heap.size w20.heap.size _ _ _ _
            HB.out hlt1 HM.out.1 HM.out.2.1 HM.out.2.2 hl3 hl2 hg0 hs8
            (by rw [← mkl_one KA1.out K1.out]; exact XRA1.out) qRA1.out z13
            (by rw [← ptl_one KB1.out K2.out]; exact XRB1.out) qRB1.out z14
            XRC1.out qRC1.out z15 XRD1.out qRD1.out z16
            (by rw [← mkl_one KA2.out K1.out]; exact XRA2.out) qRA2.out z17
            (by rw [← ptl_one KB2.out K2.out]; exact XRB2.out) qRB2.out z18
            XRC2.out qRC2.out z19 XRD2.out qRD2.out z20
            XU1.out XU2.out XU3.out XU4.out N1.out N2.out N3.out N4.out (by omega)
end Go.Proofs.YtppblibcbjpfnaaDoor.L
