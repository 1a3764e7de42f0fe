import Derived.Test.YtkagdmhijjfnnabDoorLs5
namespace Go.Proofs.YtkagdmhijjfnnabDoor
open Go.RowKit Bs
set_option linter.unusedVariables false
theorem four_at (w : World) (a b c d : Value) (t : TypeId) : ∀ j u, [a, b, c, d][j]? = some u → (w.alloc (.cells #[a, b, c, d] t)).cell? ((⟨w.heap.size, 0, none⟩ : Addr).add j) = some u := by
  intro j u hu
  rw [Go.WideShapes.add_plain, Nat.zero_add]
  rw [cell_of_row (w.alloc (.cells #[a, b, c, d] t)) w.heap.size j #[a, b, c, d] t (0, 0) (heap_alloc_new w _)]
  simpa using hu
theorem vals_app (us vs : List Nat) : vals (us ++ vs) = vals us ++ vals vs := by simp [vals]
set_option maxRecDepth 100000 in
set_option maxHeartbeats 4000000 in
theorem wordlists_any (p q n : Nat) (ws : List Nat) (w : World) (h : IsSet w p q n ws) :
    Calls Tryd.prog 42 #[.pointer (some ⟨p, 0, none⟩), .int .i64 (n : Int)] w fun e w' => e = .returned (.bool true) ∧ Below w.heap.size w w' := by
  obtain ⟨i0, hi0, hz0, hz1, hz2⟩ := info_prts infoW
  have H := hid h
  have hlen := h.len
  have hL := hid h.hl
  have hWd := hid h.wd
  have hn := h.hn
  have hct := hid (cut_tidy n ws h.hl h.wd h.cl)
  clear h
  go_enter Tryd.func42, Tryd.ntmps42
  go_wp2_with fail
  refine (words_o p q n ws _ H.out).mono ?_
  rintro e w1 ⟨g1, c1, rfl, W1, B1⟩
  have HW1 := hid W1; have HB1 := hid B1; have H1 := hid (H.out.low B1)
  clear W1 B1
  go_wp2_with fail
  refine (words_o p q n ws _ H1.out).mono ?_
  rintro e w2 ⟨g2, c2, rfl, W2, B2⟩
  have HV2 := hid W2; have HW2 := hid (HW1.out.low B2); have HB2 := hid (belowT HB1.out B2); have H2 := hid (H1.out.low B2)
  clear W2 B2
  go_wp2_with fail
  refine (copy_o _ g1 c1 ws _ HW2.out (by omega)).mono ?_
  rintro e w3 ⟨g3, c3, rfl, W3, B3⟩
  have HX3 := hid W3; have HV3 := hid (HV2.out.low B3); have HW3 := hid (HW2.out.low B3); have HB3 := hid (belowT HB2.out B3); have H3 := hid (H2.out.low B3)
  clear W3 B3
  go_wp2_with fail
  refine (copy_o _ g1 c1 ws _ HW3.out (by omega)).mono ?_
  rintro e w4 ⟨g4, c4, rfl, W4, B4⟩
  have HF4 := hid W4; have HX4 := hid (HX3.out.low B4); have HV4 := hid (HV3.out.low B4); have HW4 := hid (HW3.out.low B4); have HB4 := hid (belowT HB3.out B4); have H4 := hid (H3.out.low B4)
  have hz4 : w3.heap.size ≤ w4.heap.size := B4.size
  clear W4 B4
  have A4 := hid (lowAlloc w4 (.cells #[.int .u64 5, .int .u64 6, .int .u64 7, .int .u64 8] 56))
  go_wp2_with (at_builtin; refine wpList_append_own _ rfl _ _ 36 rfl w3.heap.size 56 i0 (.int .u64 0) 1 8 Tryd.underlying36 hi0 hz0 hz1 hz2 rfl (by decide) _ _ _ rfl (HF4.out.low A4.out).own ⟨w4.heap.size, 0, none⟩ 4 4 [.int .u64 5, .int .u64 6, .int .u64 7, .int .u64 8] rfl rfl (four_at _ _ _ _ _ _) ?c2 ?c3 ?c4 ?c5 ?_)
  case c2 => intro x hx; simp at hx; rcases hx with rfl | rfl | rfl | rfl <;> rfl
  case c3 => unfold maxLen; omega
  case c4 => omega
  case c5 => simp; omega
  intro v5 w5 o5 gr5 nn5
  obtain ⟨fs, hfs⟩ : ∃ fs, fs = ws ++ [5, 6, 7, 8] := ⟨_, rfl⟩
  have hfl : fs.length = ws.length + 4 := by rw [hfs]; simp
  rw [show vals ws ++ [Value.int IntKind.u64 5, Value.int IntKind.u64 6, Value.int IntKind.u64 7, Value.int IntKind.u64 8] = vals fs by rw [hfs, vals_app]; rfl] at o5
  obtain ⟨g5, c5, rfl, F5⟩ := wo_of o5 hfl.symm nn5
  have K5 := hid (show Chg g4 _ w5 from chg_grown gr5)
  have h1 := HW3.out.lt.2
  have h2 := HV3.out.lt.2
  have h3 := HX3.out.lt.2
  have hp3 := H3.out.plt
  have hq3 := H3.out.qlt
  have l4 := HF4.out.lt.1
  have l5 := F5.lt.1
  have HF5 := hid F5
  have HX5 := hid ((HX4.out.low A4.out).keep K5.out (by omega))
  have HV5 := hid ((HV4.out.low A4.out).keep K5.out (by omega))
  have HW5 := hid ((HW4.out.low A4.out).keep K5.out (by omega))
  have H5 := hid ((H4.out.low A4.out).keep K5.out (by omega) (by omega))
  have HB5 := hid (Chg.below (HB4.out.trans (A4.out.mono HB4.out.size)) K5.out (by have := HB3.out.size; omega) (by have := HB4.out.size; simp; omega))
  have hs5 : w4.heap.size + 1 ≤ w5.heap.size := by have := K5.out.size; simpa using this
  have hcap : ws.length ≤ c5 := by have := F5.cap; omega
  have HFS := hid hfs
  have HFL := hid hfl
  have hfl2 : fs.length ≤ 1028 := by omega
  clear o5 nn5 gr5 F5 hfs hfl K5
  go_wp2_with fail
  refine (copy_o _ g5 c5 fs _ HF5.out (by omega)).mono ?_
  rintro e w6 ⟨g6, c6, rfl, W6, B6⟩
  have HS6 := hid W6; have HF6 := hid (HF5.out.low B6); have HX6 := hid (HX5.out.low B6); have HV6 := hid (HV5.out.low B6); have HW6 := hid (HW5.out.low B6); have HB6 := hid (belowT HB5.out B6); have H6 := hid (H5.out.low B6)
  have hz6 : w5.heap.size ≤ w6.heap.size := B6.size
  have l6 := HF6.out.lt.2
  clear W6 B6
  have WS := hid (show WSlice w6 (.slice (some ⟨g5, 0, none⟩) ws.length c5) g5 c5 ws from ⟨rfl, HF6.out.lt.2, fun j hj => by have := HF6.out.cell j (by have := HFL.out; omega); rw [HFS.out] at this; rw [this]; simp [List.getD_eq_getElem?_getD, List.getElem?_append_left hj]⟩)
  go_wp2_with fail
  refine (fromw_ok n c5 g5 ws _ _ hn WS.out hL.out hWd.out hct.out).mono ?_
  rintro e w7 ⟨rfl, T7, B7⟩
  have HT7 := hid T7; have HS7 := hid (HS6.out.low B7); have HF7 := hid (HF6.out.low B7); have HX7 := hid (HX6.out.low B7); have HV7 := hid (HV6.out.low B7); have HW7 := hid (HW6.out.low B7); have HB7 := hid (belowT HB6.out B7); have H7 := hid (H6.out.low B7)
  have hz7 : w6.heap.size ≤ w7.heap.size := B7.size
  clear T7 B7
  go_wp2_with fail
  refine (samew_yes _ _ c5 c6 fs _ (by omega) HF7.out.rw HS7.out.rw).mono ?_
  rintro e w8 ⟨rfl, m8, rfl⟩
  go_wp2_with fail
  refine (samew_yes _ _ c2 c3 ws _ (by omega) (HV7.out.drew m8).rw (HX7.out.drew m8).rw).mono ?_
  rintro e w9 ⟨rfl, m9, rfl⟩
  go_wp2_with fail
  have M9 := hid (belowDrewN (w := w7) (m8 + m9))
  have hz9 : w7.heap.size ≤ (w7.drewN (m8 + m9)).heap.size := M9.out.size
  have HT9 := hid (HT7.out.low M9.out); have HF9 := hid (HF7.out.low M9.out); have HX9 := hid (HX7.out.low M9.out); have HV9 := hid (HV7.out.low M9.out); have HW9 := hid (HW7.out.low M9.out); have HB9 := hid (belowT HB7.out M9.out); have H9 := hid (H7.out.low M9.out)
  clear M9 HT7 HS7 HF7 HX7 HV7 HW7 HB7 H7
  generalize w7.drewN (m8 + m9) = w9 at *
  go_loopw [12] (fun i wr => ∃ (k : Nat) (us : List Nat), k ≤ fs.length ∧ i = .int .i64 k ∧ Hid (Wo wr w3.heap.size g5 c5 us ∧ us.length = fs.length) ∧ Hid (Chg g5 w9 wr)) (fun i _ => fs.length - (intOf i).toNat)
  case atStart => exact ⟨0, fs, Nat.zero_le _, rfl, hid ⟨HF9.out, rfl⟩, hid (Chg.refl _ _)⟩
  case round =>
    obtain ⟨k, us, hk, rfl, HU, HC⟩ := hrel
    by_cases hlt : k < fs.length
    · have q1 : (k : Int) < (fs.length : Int) := by omega
      have q2 : (0 : Int) ≤ (k : Int) := by omega
      have k0 := HU.out.1.cell k (by rw [HU.out.2]; exact hlt)
      have f0 := HU.out.1.fz k
      have N1 := hid (show Wo (wr.setCell ⟨g5, k, none⟩ (.int .u64 0)) w3.heap.size g5 c5 (us.set k 0) ∧ (us.set k 0).length = fs.length from ⟨HU.out.1.set (x := 0) (by rw [HU.out.2]; exact hlt), by rw [List.length_set]; exact HU.out.2⟩)
      have N2 := hid (HC.out.trans (Chg.setCell k (.int .u64 0)))
      go_wp2_with fail
      exact ⟨⟨k + 1, _, by omega, by go_num, N1, N2⟩, by simp [intOf]; omega⟩
    · obtain rfl : k = fs.length := by omega
      have q1 : ¬ (fs.length : Int) < (fs.length : Int) := by omega
      have hz10 := HC.out.size
      have HT10 := hid (HT9.out.keep HC.out (by omega) (by omega)); have HX10 := hid (HX9.out.keep HC.out (by omega)); have HV10 := hid (HV9.out.keep HC.out (by omega)); have HW10 := hid (HW9.out.keep HC.out (by omega)); have H10 := hid (H9.out.keep HC.out (by omega) (by omega))
      have HB10 := hid (Chg.below HB9.out HC.out (by have := HB3.out.size; omega) HB9.out.size)
      clear HT9 HX9 HV9 HW9 H9 HB9 HC HU HF9
      go_wp2_with fail
      refine (words_o _ _ n ws _ HT10.out).mono ?_
      rintro e wa ⟨ga, ca, rfl, Wa, Ba⟩
      have HUa := hid Wa; have HTa := hid (HT10.out.low Ba); have HXa := hid (HX10.out.low Ba); have HVa := hid (HV10.out.low Ba); have HWa := hid (HW10.out.low Ba); have HBa := hid (belowT HB10.out Ba); have Ha := hid (H10.out.low Ba)
      have hza := Ba.size
      have la := HUa.out.lt.1
      clear Wa Ba
      go_wp2_with fail
      refine (samew_yes _ _ ca c3 ws _ (by omega) HUa.out.rw HXa.out.rw).mono ?_
      rintro e wb ⟨rfl, mb, rfl⟩
      go_wp2_with fail
      have Bb := hid ((belowDrewN (w := wa) mb).trans ((lowAlloc (wa.drewN mb) (.cells #[.slice (some ⟨g1, 0, none⟩) ws.length c1, .slice (some ⟨g2, 0, none⟩) ws.length c2, .slice (some ⟨ga, 0, none⟩) ws.length ca] 36)).mono (belowDrewN (w := wa) mb).size))
      have HBlk := hid (heap_alloc_new (wa.drewN mb) (.cells #[.slice (some ⟨g1, 0, none⟩) ws.length c1, .slice (some ⟨g2, 0, none⟩) ws.length c2, .slice (some ⟨ga, 0, none⟩) ws.length ca] 36))
      have hsz : wa.heap.size < ((wa.drewN mb).alloc (.cells #[.slice (some ⟨g1, 0, none⟩) ws.length c1, .slice (some ⟨g2, 0, none⟩) ws.length c2, .slice (some ⟨ga, 0, none⟩) ws.length ca] 36)).heap.size := by simp
      have hga := HUa.out.lt.2
      have HUb := hid (HUa.out.low Bb.out); have HTb := hid (HTa.out.low Bb.out); have HXb := hid (HXa.out.low Bb.out); have HVb := hid (HVa.out.low Bb.out); have HWb := hid (HWa.out.low Bb.out); have HBb := hid (belowT HBa.out Bb.out); have Hb := hid (Ha.out.low Bb.out)
      have HBk : Hid (((wa.drewN mb).alloc (.cells #[.slice (some ⟨g1, 0, none⟩) ws.length c1, .slice (some ⟨g2, 0, none⟩) ws.length c2, .slice (some ⟨ga, 0, none⟩) ws.length ca] 36)).heap[wa.heap.size]? = some (.cells #[.slice (some ⟨g1, 0, none⟩) ws.length c1, .slice (some ⟨g2, 0, none⟩) ws.length c2, .slice (some ⟨ga, 0, none⟩) ws.length ca] 36 (0, 0))) := HBlk.out
      clear HBlk Bb HUa HTa HXa HVa HWa HBa Ha
      generalize (wa.drewN mb).alloc (.cells #[.slice (some ⟨g1, 0, none⟩) ws.length c1, .slice (some ⟨g2, 0, none⟩) ws.length c2, .slice (some ⟨ga, 0, none⟩) ws.length ca] 36) = wb at *
      have s1 := HB1.out.size
      have s2 := HB2.out.size
      have x2 := HV2.out.lt.1
      have x1 := HW1.out.lt
      have x3 := HX3.out.lt.1
      have AP := hid (apartW_any wa.heap.size 0 3 w.heap.size (fun j => if j = 0 then .slice (some ⟨g1, 0, none⟩) ws.length c1 else if j = 1 then .slice (some ⟨g2, 0, none⟩) ws.length c2 else .slice (some ⟨ga, 0, none⟩) ws.length ca) (fun _ => vals ws) wb
        ⟨fun j hj => by
            have hj3 : j = 0 ∨ j = 1 ∨ j = 2 := by omega
            rcases hj3 with rfl | rfl | rfl
            · exact HWb.out.ow
            · exact (HVb.out.mono (by omega)).ow
            · exact (HUb.out.mono (by omega)).ow,
          fun i j hi hj hij => by
            have hi3 : i = 0 ∨ i = 1 ∨ i = 2 := by omega
            have hj3 : j = 0 ∨ j = 1 ∨ j = 2 := by omega
            right
            rcases hi3 with rfl | rfl | rfl <;> rcases hj3 with rfl | rfl | rfl <;> first | exact absurd rfl hij | (intro e; have e := Option.some.inj e; simp at e; omega),
          fun j hj => by rw [length_vals]; omega⟩
        (fun j hj => by
          have hj3 : j = 0 ∨ j = 1 ∨ j = 2 := by omega
          rw [cell_of_row wb _ _ _ _ _ HBk.out]
          rcases hj3 with rfl | rfl | rfl <;> rfl)
        (by omega)
        (fun j hj e => by
          have hj3 : j = 0 ∨ j = 1 ∨ j = 2 := by omega
          rcases hj3 with rfl | rfl | rfl <;> (have e := Option.some.inj e; simp at e; omega))
        HBb.out.size)
      refine AP.out.mono ?_
      rintro e wc ⟨rfl, Bc, Kc⟩
      have KP := hid (show ∀ k, k < wb.heap.size → k ≠ g1 → k ≠ g2 → k ≠ ga → wc.heap[k]? = wb.heap[k]? from fun k hk e1 e2 e3 => Kc k hk (fun j hj e => by
          have hj3 : j = 0 ∨ j = 1 ∨ j = 2 := by omega
          rcases hj3 with rfl | rfl | rfl <;> (have e := Option.some.inj e; simp at e; omega)))
      have HBc := hid (HBb.out.trans Bc)
      have y1 := HTb.out.plt
      have y2 := HTb.out.qlt
      have y3 := HXb.out.lt.2
      have y4 := Hb.out.plt
      have y5 := Hb.out.qlt
      have z1 := H.out.plt
      have z2 := H.out.qlt
      have y6 := HT10.out.plt
      have y7 := HT10.out.qlt
      have y8 := HW2.out.lt.2
      have y9 := HV2.out.lt.2
      have y10 := HX10.out.lt.2
      have HTc := hid (HTb.out.same' (KP.out _ y1 (by omega) (by omega) (by omega)) (KP.out _ y2 (by omega) (by omega) (by omega)))
      have HXc := hid (HXb.out.same (KP.out _ y3 (by omega) (by omega) (by omega)))
      have Hc := hid (Hb.out.same' (KP.out _ y4 (by omega) (by omega) (by omega)) (KP.out _ y5 (by omega) (by omega) (by omega)))
      clear KP Kc Bc AP HBk HUb HVb HWb
      go_wp2_with fail
      refine (words_o p q n ws _ Hc.out).mono ?_
      rintro e wd ⟨gd, cd, rfl, Wd', Bd⟩
      have HUd := hid Wd'; have HTd := hid (HTc.out.low Bd); have HXd := hid (HXc.out.low Bd); have HBd := hid (HBc.out.trans (Bd.mono HBc.out.size))
      clear Wd' Bd
      go_wp2_with fail
      refine (samew_yes _ _ cd c3 ws _ (by omega) HUd.out.rw HXd.out.rw).mono ?_
      rintro e we ⟨rfl, me, rfl⟩
      have De := hid (belowDrewN (w := wd) me)
      go_wp2_with fail
      refine (words_o _ _ n ws _ (HTd.out.low De.out)).mono ?_
      rintro e wf ⟨gf, cf, rfl, Wf, Bf⟩
      have HUf := hid Wf; have HXf := hid ((HXd.out.low De.out).low Bf); have HBf := hid ((HBd.out.trans (De.out.mono HBd.out.size)).trans (Bf.mono (Nat.le_trans HBd.out.size De.out.size)))
      clear Wf Bf
      go_wp2_with fail
      refine (samew_yes _ _ cf c3 ws _ (by omega) HUf.out.rw HXf.out.rw).mono ?_
      rintro e wg ⟨rfl, mg, rfl⟩
      have Dg := hid (belowDrewN (w := wf) mg)
      go_wp2_with fail
      go_ret
      exact ⟨rfl, HBf.out.trans (Dg.out.mono HBf.out.size)⟩
end Go.Proofs.YtkagdmhijjfnnabDoor
