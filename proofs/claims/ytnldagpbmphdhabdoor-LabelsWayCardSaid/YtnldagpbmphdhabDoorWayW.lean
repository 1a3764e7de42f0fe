import Derived.Test.YtnldagpbmphdhabDoorStl
import Derived.Test.YtnldagpbmphdhabDoorBck
import Derived.Test.YtnldagpbmphdhabDoorSam
import Derived.Test.YtnldagpbmphdhabDoorOk
import Derived.Deep.RegionHeld3
namespace Go.Proofs.YtnldagpbmphdhabDoor.L
open Go.RowKit
set_option linter.unusedVariables false
def a1L : List Lb := [(⟨#[97]⟩, ⟨#[49]⟩)]
theorem a1_ok : OkL a1L := ⟨by decide, by unfold a1L Up; simp, by decide +kernel⟩
theorem a1_good : Good a1L := ⟨⟨by decide, by decide⟩, by unfold maxLen; decide +kernel⟩
theorem a1_df : df a1L [] = [⟨⟨#[97]⟩, ⟨#[49]⟩, ⟨#[]⟩, true, false⟩] := by
  unfold a1L
  simp [df, dDel]
  rfl
theorem cellsD_one (L : List Df) : ∀ u ∈ cellsD L, u.oneCell' = true := by
  intro u hu
  unfold cellsD at hu
  obtain ⟨d, _, h⟩ := List.mem_flatMap.1 hu
  simp at h
  rcases h with rfl | rfl | rfl | rfl | rfl <;> rfl
theorem row_low {w w' : World} {base t m n : Nat} {v : Value} {xs : List Value} (h : w.ownsRow base t m v n xs) (hb : Below w.heap.size w w') : w'.ownsRow base t m v n xs := by
  obtain ⟨h1, h2⟩ := h
  refine ⟨h1, ?_⟩
  rcases h2 with h2 | ⟨g, cap, cur, hv, hg, hh, r⟩
  · exact Or.inl h2
  · refine Or.inr ⟨g, cap, cur, hv, hg, ?_, r⟩
    have hlt : g < w.heap.size := by
      apply Classical.byContradiction
      intro n
      rw [Array.getElem?_eq_none (by omega)] at hh
      cases hh
    rw [hb.block g hlt]
    exact hh
set_option maxHeartbeats 8000000 in
set_option maxRecDepth 100000 in
theorem way_walk (v1 v2 : Value) (l1 l2 : List Lb) (w : World) (m1 : Came w v1 l1) (m2 : Came w v2 l2) (g1 : Good l1) (g2 : Good l2) :
    Calls Tryd.prog 5 #[v1, v2] w fun e w' => e = .returned (.bool true) ∧ Below w.heap.size w w' := by
  have M1 := hid m1
  have M2 := hid m2
  have G1 := hid g1
  have G2 := hid g2
  clear m1 m2 g1 g2
  have WK := hid (fun W (h1 : Came W (.slice (some ⟨w.heap.size, 0, none⟩) 1 1) a1L) => walk_any (.slice (some ⟨w.heap.size, 0, none⟩) 1 1) (.slice none 0 0) a1L [] W h1 (Or.inl ⟨rfl, rfl⟩) a1_good good_nil a1_ok ok_nil (by rw [a1_df]; decide))
  rw [a1_df] at WK
  go_enter Tryd.func5, Tryd.ntmps5
  go_wp2_with fail
  have A0 := hid (belowA w (.cells #[.string ⟨#[97]⟩, .string ⟨#[49]⟩] 33))
  have CA : Came (w.alloc (.cells #[.string ⟨#[97]⟩, .string ⟨#[49]⟩] 33)) (.slice (some ⟨w.heap.size, 0, none⟩) 1 1) a1L := own_came (l := a1L) (base := w.heap.size) (World.ownsRow_lit w #[.string ⟨#[97]⟩, .string ⟨#[49]⟩] 1 (Nat.le_refl _) (by unfold maxLen; decide) rfl)
  refine (WK.out _ CA).mono ?_
  rintro e u1 ⟨dv1, rfl, ho, hb⟩
  have B1 := hid (A0.out.trans (hb.mono A0.out.size))
  obtain ⟨ad, cd, rfl, h0 | ⟨bd, od, rfl, hbd, hcd⟩⟩ := own_itemsD ho
  · cases h0
  obtain ⟨x0, x1, x2, x3, x4⟩ := hcd 0 (by decide)
  simp only [List.length_cons, List.length_nil, Nat.zero_add, Nat.zero_mul, Nat.add_zero, List.getElem_cons_zero] at x0 x1 x2 x3 x4 ⊢
  clear hb ho hcd CA A0 WK
  have CP1 := hid (fun W (h : Came W v1 l1) => copied_any v1 l1 W h G1.out)
  have CP2 := hid (fun W (h : Came W v2 l2) => copied_any v2 l2 W h G2.out)
  go_wp2_with fail
  refine (CP1.out _ (M1.out.low B1.out)).mono ?_
  rintro e u2 ⟨y1, rfl, hy1, hb⟩
  have B2 := hid (B1.out.trans (hb.mono B1.out.size))
  have MK1 := hid (make_any y1 l1 u2 hy1 G1.out)
  clear hb hy1 x0 x1 x2 x3 x4 hbd
  go_wp2_with fail
  refine MK1.out.mono ?_
  rintro e u3 ⟨p1, q1, rfl, hb, hh1⟩
  have B3 := hid (B2.out.trans (hb.mono B2.out.size))
  have HH1 := hid hh1
  clear hb hh1 MK1 B1 B2
  generalize hE1 : makeN l1 = E1 at *
  obtain ⟨k1, e1⟩ := E1
  have HE1 := hid hE1
  clear hE1
  simp only at HH1 ⊢
  go_wp2_with fail
  refine (CP2.out _ (M2.out.low B3.out)).mono ?_
  rintro e u4 ⟨y2, rfl, hy2, hb4⟩
  have B4 := hid (B3.out.trans (hb4.mono B3.out.size))
  have MK2 := hid (make_any y2 l2 u4 hy2 G2.out)
  have D4 := hid hb4
  clear hb4 hy2
  go_wp2_with fail
  refine MK2.out.mono ?_
  rintro e u5 ⟨p2, q2, rfl, hb5, hh2⟩
  have B5 := hid (B4.out.trans (hb5.mono B4.out.size))
  have D5 := hid (D4.out.trans (hb5.mono D4.out.size))
  have HH2 := hid hh2
  clear hb5 hh2 MK2 B3 B4 D4
  generalize hE2 : makeN l2 = E2 at *
  obtain ⟨k2, e2⟩ := E2
  have HE2 := hid hE2
  clear hE2
  simp only at HH2 ⊢
  rcases HH1.out with ⟨he1, rfl⟩ | ⟨rfl, hc1, hs1⟩
  · have n1 : (e1 != 0) = true := by simpa using he1
    clear HH1 HH2
    go_wp2_with fail
    go_ret
    exact ⟨rfl, B5.out⟩
  · rcases HH2.out with ⟨he2, rfl⟩ | ⟨rfl, hc2, hs2⟩
    · have n2 : (e2 != 0) = true := by simpa using he2
      clear HH1 HH2
      go_wp2_with fail
      go_ret
      exact ⟨rfl, B5.out⟩
    · have A := hid (hc1.low D5.out)
      have Bq := hid hc2
      have oa := made_ok (by rw [HE1.out]) hs1
      have ob := made_ok (by rw [HE2.out]) hs2
      have ga := G1.out.sub (Nat.le_of_eq hs1.1.length_eq) fun x hx => hs1.1.mem_iff.1 hx
      have gb := G2.out.sub (Nat.le_of_eq hs2.1.length_eq) fun x hx => hs2.1.mem_iff.1 hx
      clear HH1 HH2 hc1 hc2 hs1 hs2 HE1 HE2 D5 CP1 CP2 M1 M2 G1 G2
      have hdl : (df q1 q2).length ≤ 64 := by
        have := df_len _ q1 q2 (Nat.le_refl _)
        have := oa.len
        have := ob.len
        omega
      have OA := hid oa
      have OB := hid ob
      have GA := hid ga
      have GB := hid gb
      clear oa ob ga gb
      go_wp2_with fail
      have CA := hid (fun W (h : Came W p1 q1) => copied_any p1 q1 W h GA.out)
      have CB := hid (fun W (h : Came W p2 q2) => copied_any p2 q2 W h GB.out)
      refine (CA.out _ A.out).mono ?_
      rintro e u6 ⟨y3, rfl, hy3, hb⟩
      have B6 := hid (B5.out.trans (hb.mono B5.out.size))
      have A6 := hid (A.out.low hb)
      have C6 := hid (Bq.out.low hb)
      have Y3 := hid hy3
      clear hb hy3 A Bq B5
      go_wp2_with fail
      refine (CB.out _ C6.out).mono ?_
      rintro e u7 ⟨y4, rfl, hy4, hb⟩
      have B7 := hid (B6.out.trans (hb.mono B6.out.size))
      have A7 := hid (A6.out.low hb)
      have C7 := hid (C6.out.low hb)
      have WK := hid (walk_any y3 y4 q1 q2 u7 (Y3.out.low hb) hy4 GA.out GB.out OA.out OB.out hdl)
      clear hb hy4 A6 C6 B6 Y3
      go_wp2_with fail
      refine WK.out.mono ?_
      rintro e u8 ⟨vd, rfl, ho, hb⟩
      have B8 := hid (B7.out.trans (hb.mono B7.out.size))
      have A8 := hid (A7.out.low hb)
      have C8 := hid (C7.out.low hb)
      have OD := hid ho
      clear hb ho A7 C7 B7 WK
      have hS := hid (df_says _ q1 q2 (Nat.le_refl _) OA.out.up OB.out.up)
      have hGd := hid (df_good OA.out OB.out)
      obtain ⟨L, hL⟩ : ∃ L, L = df q1 q2 := ⟨_, rfl⟩
      have HL := hid hL
      rw [← hL] at hS hGd hdl OD
      clear hL
      obtain ⟨ad, cd', rfl, hD⟩ := own_itemsD OD.out
      have HD := hid hD
      clear hD
      obtain ⟨ln, hln⟩ : ∃ n, n = L.length := ⟨_, rfl⟩
      have HLN := hid hln
      rw [← hln] at hdl OD ⊢
      clear hln
      go_wp2_with fail
      have GTA := hid (fun W v s (h : Came W v q1) (hs : s.size ≤ maxLen) => get_any v q1 s W h.items GA.out.1.1 hs)
      have GTB := hid (fun W v s (h : Came W v q2) (hs : s.size ≤ maxLen) => get_any v q2 s W h.items GB.out.1.1 hs)
      go_loopw [12] (fun i wr => ∃ k : Nat, k ≤ ln ∧ i = .int .i64 k ∧ Hid (Below u8.heap.size u8 wr)) (fun i _ => ln - (intOf i).toNat)
      case atStart => exact ⟨0, Nat.zero_le _, rfl, hid (Below.refl _ _)⟩
      case round =>
        obtain ⟨k, hk, rfl, HB⟩ := hrel
        by_cases hlt : k < ln
        · have hkl : k < L.length := by rw [← HLN.out]; exact hlt
          rcases HD.out with h0 | ⟨b0, off, rfl, hbl, hc⟩
          · have := HLN.out
            omega
          have DC := hid (fun W (h : Below u8.heap.size u8 W) j (hj : j < L.length) => show W.cell? ⟨b0, off + j * 5, none⟩ = some (.string L[j].k) ∧ W.cell? ⟨b0, off + j * 5 + 1, none⟩ = some (.string L[j].o) ∧ W.cell? ⟨b0, off + j * 5 + 2, none⟩ = some (.string L[j].n) ∧ W.cell? ⟨b0, off + j * 5 + 3, none⟩ = some (.bool L[j].had) ∧ W.cell? ⟨b0, off + j * 5 + 4, none⟩ = some (.bool L[j].has) from
            ⟨(h.cell (p := ⟨b0, off + j * 5, none⟩) hbl).trans (hc j hj).1, (h.cell (p := ⟨b0, off + j * 5 + 1, none⟩) hbl).trans (hc j hj).2.1, (h.cell (p := ⟨b0, off + j * 5 + 2, none⟩) hbl).trans (hc j hj).2.2.1, (h.cell (p := ⟨b0, off + j * 5 + 3, none⟩) hbl).trans (hc j hj).2.2.2.1, (h.cell (p := ⟨b0, off + j * 5 + 4, none⟩) hbl).trans (hc j hj).2.2.2.2⟩)
          clear hc
          have hdm : L[k] ∈ L := List.getElem_mem _
          have ho := hS.out.old _ hdm
          have hn := hS.out.new _ hdm
          have hf := hS.out.differ _ hdm
          have hks : L[k].k.size ≤ maxLen := by have := key_size (hGd.out _ hdm).1; unfold maxLen; omega
          have HBE := hid (show k ≠ 0 → ∃ h : k - 1 < L.length, Op.bytesLess L[k - 1].k.toList L[k].k.toList = true from fun hz => ⟨by omega, List.pairwise_iff_getElem.1 hS.out.rise (k - 1) k (by omega) hkl (by omega)⟩)
          have DK := hid (fun W h => DC.out W h k hkl)
          generalize L[k] = d at *
          obtain ⟨dk, dO, dn, dh, ds⟩ := d
          simp only at ho hn hf hks HBE DK
          have HO := hid ho
          have HN := hid hn
          have HFd := hid hf
          clear ho hn hf hdm
          have hbw : b0 < wr.heap.size := Nat.lt_of_lt_of_le hbl HB.out.size
          have g1 : (k : Int) < (ln : Int) := by omega
          have g2 : (0 : Int) ≤ (k : Int) := by omega
          have BW := hid (B8.out.trans (HB.out.mono B8.out.size))
          go_wp2_with fail
          have T0 : wr.drew.cell? ⟨b0, off + k * 5, none⟩ = some (.string dk) := (DK.out wr HB.out).1
          go_region_held3 (fun W => W.cell? ⟨b0, off + k * 5, none⟩ = some (.string dk))
            (first | exact T0 | exact T1 | exact T2)
            (first
              | (go_at_call 10; refine (CA.out _ (A8.out.low HB.out.drew)).mono ?_; rintro e z1 ⟨y5, rfl, hy5, hb⟩; have T1 := (hb.cell (p := ⟨b0, off + k * 5, none⟩) hbw).trans T0; have Y5 := hid hy5; have D1 := hid (show Below u8.heap.size u8 z1 from HB.out.drew.trans (hb.mono HB.out.size)); clear hb hy5)
              | (go_at_call 13; refine (GTA.out _ _ _ Y5.out hks).mono ?_; rw [HO.out]; rintro e z2 ⟨rfl, hb⟩; have D2 := hid (D1.out.trans (hb.mono D1.out.size)); have T2 := (DK.out _ D2.out).1; clear hb))
          clear T0 T1 T2 D1 Y5
          have hbz : b0 < z2.heap.size := Nat.lt_of_lt_of_le hbl D2.out.size
          go_wp2_with fail
          have T0 : z2.drew.cell? ⟨b0, off + k * 5, none⟩ = some (.string dk) := (DK.out z2 D2.out).1
          go_region_held3 (fun W => W.cell? ⟨b0, off + k * 5, none⟩ = some (.string dk))
            (first | exact T0 | exact T1 | exact T2)
            (first
              | (go_at_call 10; refine (CB.out _ (C8.out.low D2.out.drew)).mono ?_; rintro e z3 ⟨y6, rfl, hy6, hb⟩; have T1 := (hb.cell (p := ⟨b0, off + k * 5, none⟩) hbz).trans T0; have Y6 := hid hy6; have D3 := hid (show Below u8.heap.size u8 z3 from D2.out.drew.trans (hb.mono D2.out.size)); clear hb hy6)
              | (go_at_call 13; refine (GTB.out _ _ _ Y6.out hks).mono ?_; rw [HN.out]; rintro e z4 ⟨rfl, hb⟩; have D4 := hid (D3.out.trans (hb.mono D3.out.size)); have T2 := (DK.out _ D4.out).1; clear hb))
          clear T0 T1 T2 D3 Y6 D2 hbz hbw BW HB
          have hbz : b0 < z4.heap.size := Nat.lt_of_lt_of_le hbl D4.out.size
          obtain ⟨c0, c1, c2, c3, c4⟩ := DK.out z4 D4.out
          obtain rfl | ⟨j, rfl⟩ : k = 0 ∨ ∃ j, k = j + 1 := by
            cases k with
            | zero => exact Or.inl rfl
            | succ j => exact Or.inr ⟨j, rfl⟩
          · simp only [Nat.zero_mul, Nat.add_zero] at c0 c1 c2 c3 c4
            clear HBE DC DK
            go_wp2_with fail
            refine wp_region_held_drew (S := (fun W => W.cell? ⟨b0, off, none⟩ = some (.string dk) ∧ W.cell? ⟨b0, off + 1, none⟩ = some (.string dO) ∧ W.cell? ⟨b0, off + 2, none⟩ = some (.string dn) ∧ W.cell? ⟨b0, off + 3, none⟩ = some (.bool dh) ∧ W.cell? ⟨b0, off + 4, none⟩ = some (.bool ds))) (by kernel_rfl) ⟨c0, c1, c2, c3, c4⟩ (fun hHeld => ?_)
            refine wpAnyH_take (i := 0) (oi := { dst := some 89, op := Op.move (Operand.tmp 5), type := 44, pos := "outright.go:179", after := #[], guard := none }) (v := ?_) rfl (by kernel_rfl) (by kernel_rfl) (by kernel_rfl) (fun _ _ _ h => h) (Or.inl ⟨by rfl, ?_⟩) (by assumption) ?_
            rotate_left
            · (intro w hSw; (try dsimp only at hSw); go_simp; try with_reducible rfl)
            try simp only [Act.put, List.setIfInBounds_toArray, List.set_cons_zero, List.set_cons_succ]
            refine wpAnyH_take (i := 1) (oi := { dst := some 90, op := Op.move (Operand.tmp 12), type := 3, pos := "outright.go:179", after := #[], guard := none }) (v := ?_) rfl (by kernel_rfl) (by kernel_rfl) (by kernel_rfl) (fun _ _ _ h => h) (Or.inl ⟨by rfl, ?_⟩) (by assumption) ?_
            rotate_left
            · (intro w hSw; (try dsimp only at hSw); go_simp; try with_reducible rfl)
            try simp only [Act.put, List.setIfInBounds_toArray, List.set_cons_zero, List.set_cons_succ]
            refine wpAnyH_take (i := 2) (oi := { dst := some 91, op := Op.indexAddr 44 (Operand.tmp 89) (Operand.tmp 90), type := 0, pos := "outright.go:179", after := #[{ on := 0, ground := Ground.data }, { on := 1, ground := Ground.data }], guard := none }) (v := ?_) rfl (by kernel_rfl) (by kernel_rfl) (by kernel_rfl) (fun _ _ _ h => h) (Or.inl ⟨by rfl, ?_⟩) (by assumption) ?_
            rotate_left
            · (intro w hSw; (try dsimp only at hSw); go_simp; try with_reducible rfl)
            try simp only [Act.put, List.setIfInBounds_toArray, List.set_cons_zero, List.set_cons_succ]
            refine wpAnyH_take (i := 3) (oi := { dst := some 92, op := Op.fieldAddr 47 (Operand.tmp 91) 1, type := 0, pos := "outright.go:179", after := #[{ on := 2, ground := Ground.data }], guard := none }) (v := ?_) rfl (by kernel_rfl) (by kernel_rfl) (by kernel_rfl) (fun _ _ _ h => h) (Or.inl ⟨by rfl, ?_⟩) (by assumption) ?_
            rotate_left
            · (intro w hSw; (try dsimp only at hSw); go_simp; try with_reducible rfl)
            try simp only [Act.put, List.setIfInBounds_toArray, List.set_cons_zero, List.set_cons_succ]
            refine wpAnyH_take (i := 4) (oi := { dst := some 93, op := Op.load 9 (Operand.tmp 92), type := 9, pos := "outright.go:179", after := #[{ on := 3, ground := Ground.data }], guard := none }) (v := ?_) rfl (by kernel_rfl) (by kernel_rfl) (by kernel_rfl) (fun _ _ _ h => h) (Or.inl ⟨by rfl, ?_⟩) (by assumption) ?_
            rotate_left
            · (intro w hSw; (try dsimp only at hSw); go_simp; try with_reducible rfl)
            try simp only [Act.put, List.setIfInBounds_toArray, List.set_cons_zero, List.set_cons_succ]
            refine wpAnyH_take (i := 5) (oi := { dst := some 94, op := Op.move (Operand.tmp 13), type := 9, pos := "outright.go:179", after := #[], guard := none }) (v := ?_) rfl (by kernel_rfl) (by kernel_rfl) (by kernel_rfl) (fun _ _ _ h => h) (Or.inl ⟨by rfl, ?_⟩) (by assumption) ?_
            rotate_left
            · (intro w hSw; (try dsimp only at hSw); go_simp; try with_reducible rfl)
            try simp only [Act.put, List.setIfInBounds_toArray, List.set_cons_zero, List.set_cons_succ]
            refine wpAnyH_take (i := 6) (oi := { dst := some 95, op := Op.binOp BinOp.neq 9 (Operand.tmp 93) (Operand.tmp 94) 9, type := 4, pos := "outright.go:179", after := #[{ on := 4, ground := Ground.data }, { on := 5, ground := Ground.data }], guard := none }) (v := ?_) rfl (by kernel_rfl) (by kernel_rfl) (by kernel_rfl) (fun _ _ _ h => h) (Or.inl ⟨by rfl, ?_⟩) (by assumption) ?_
            rotate_left
            · (intro w hSw; (try dsimp only at hSw); go_simp; try with_reducible rfl)
            try simp only [Act.put, List.setIfInBounds_toArray, List.set_cons_zero, List.set_cons_succ]
            refine wpAnyH_take (i := 7) (oi := { dst := some 96, op := Op.move (Operand.tmp 95), type := 4, pos := "outright.go:179", after := #[{ on := 6, ground := Ground.data }], guard := none }) (v := ?_) rfl (by kernel_rfl) (by kernel_rfl) (by kernel_rfl) (fun _ _ _ h => h) (Or.inl ⟨by rfl, ?_⟩) (by assumption) ?_
            rotate_left
            · (intro w hSw; (try dsimp only at hSw); go_simp; try with_reducible rfl)
            try simp only [Act.put, List.setIfInBounds_toArray, List.set_cons_zero, List.set_cons_succ]
            refine wpAnyH_take (i := 8) (oi := { dst := some 97, op := Op.move (Operand.tmp 5), type := 44, pos := "outright.go:179", after := #[{ on := 7, ground := Ground.guard }], guard := some (7, false) }) (v := ?_) rfl (by kernel_rfl) (by kernel_rfl) (by kernel_rfl) (fun _ _ _ h => h) (Or.inl ⟨by rfl, ?_⟩) (by assumption) ?_
            rotate_left
            · (intro w hSw; (try dsimp only at hSw); go_simp; try with_reducible rfl)
            try simp only [Act.put, List.setIfInBounds_toArray, List.set_cons_zero, List.set_cons_succ]
            refine wpAnyH_take (i := 9) (oi := { dst := some 98, op := Op.move (Operand.tmp 12), type := 3, pos := "outright.go:179", after := #[{ on := 7, ground := Ground.guard }], guard := some (7, false) }) (v := ?_) rfl (by kernel_rfl) (by kernel_rfl) (by kernel_rfl) (fun _ _ _ h => h) (Or.inl ⟨by rfl, ?_⟩) (by assumption) ?_
            rotate_left
            · (intro w hSw; (try dsimp only at hSw); go_simp; try with_reducible rfl)
            try simp only [Act.put, List.setIfInBounds_toArray, List.set_cons_zero, List.set_cons_succ]
            refine wpAnyH_take (i := 10) (oi := { dst := some 99, op := Op.indexAddr 44 (Operand.tmp 97) (Operand.tmp 98), type := 0, pos := "outright.go:179", after := #[{ on := 8, ground := Ground.data }, { on := 9, ground := Ground.data }, { on := 7, ground := Ground.guard }], guard := some (7, false) }) (v := ?_) rfl (by kernel_rfl) (by kernel_rfl) (by kernel_rfl) (fun _ _ _ h => h) (Or.inl ⟨by rfl, ?_⟩) (by assumption) ?_
            rotate_left
            · (intro w hSw; (try dsimp only at hSw); go_simp; try with_reducible rfl)
            try simp only [Act.put, List.setIfInBounds_toArray, List.set_cons_zero, List.set_cons_succ]
            refine wpAnyH_take (i := 11) (oi := { dst := some 100, op := Op.fieldAddr 47 (Operand.tmp 99) 3, type := 0, pos := "outright.go:179", after := #[{ on := 10, ground := Ground.data }, { on := 7, ground := Ground.guard }], guard := some (7, false) }) (v := ?_) rfl (by kernel_rfl) (by kernel_rfl) (by kernel_rfl) (fun _ _ _ h => h) (Or.inl ⟨by rfl, ?_⟩) (by assumption) ?_
            rotate_left
            · (intro w hSw; (try dsimp only at hSw); go_simp; try with_reducible rfl)
            try simp only [Act.put, List.setIfInBounds_toArray, List.set_cons_zero, List.set_cons_succ]
            refine wpAnyH_take (i := 12) (oi := { dst := some 101, op := Op.load 4 (Operand.tmp 100), type := 4, pos := "outright.go:179", after := #[{ on := 11, ground := Ground.data }, { on := 7, ground := Ground.guard }], guard := some (7, false) }) (v := ?_) rfl (by kernel_rfl) (by kernel_rfl) (by kernel_rfl) (fun _ _ _ h => h) (Or.inl ⟨by rfl, ?_⟩) (by assumption) ?_
            rotate_left
            · (intro w hSw; (try dsimp only at hSw); go_simp; try with_reducible rfl)
            try simp only [Act.put, List.setIfInBounds_toArray, List.set_cons_zero, List.set_cons_succ]
            refine wpAnyH_take (i := 13) (oi := { dst := some 102, op := Op.move (Operand.tmp 14), type := 4, pos := "outright.go:179", after := #[{ on := 7, ground := Ground.guard }], guard := some (7, false) }) (v := ?_) rfl (by kernel_rfl) (by kernel_rfl) (by kernel_rfl) (fun _ _ _ h => h) (Or.inl ⟨by rfl, ?_⟩) (by assumption) ?_
            rotate_left
            · (intro w hSw; (try dsimp only at hSw); go_simp; try with_reducible rfl)
            try simp only [Act.put, List.setIfInBounds_toArray, List.set_cons_zero, List.set_cons_succ]
            refine wpAnyH_take (i := 14) (oi := { dst := some 103, op := Op.binOp BinOp.neq 4 (Operand.tmp 101) (Operand.tmp 102) 4, type := 4, pos := "outright.go:179", after := #[{ on := 12, ground := Ground.data }, { on := 13, ground := Ground.data }, { on := 7, ground := Ground.guard }], guard := some (7, false) }) (v := ?_) rfl (by kernel_rfl) (by kernel_rfl) (by kernel_rfl) (fun _ _ _ h => h) (Or.inl ⟨by rfl, ?_⟩) (by assumption) ?_
            rotate_left
            · (intro w hSw; (try dsimp only at hSw); go_simp; try with_reducible rfl)
            try simp only [Act.put, List.setIfInBounds_toArray, List.set_cons_zero, List.set_cons_succ]
            refine wpAnyH_take (i := 15) (oi := { dst := some 104, op := Op.pick (Operand.tmp 96) (Operand.const (Value.bool true)) (Operand.tmp 103), type := 4, pos := "outright.go:179", after := #[{ on := 7, ground := Ground.data }, { on := 14, ground := Ground.data }], guard := none }) (v := ?_) rfl (by kernel_rfl) (by kernel_rfl) (by kernel_rfl) (fun _ _ _ h => h) (Or.inl ⟨by rfl, ?_⟩) (by assumption) ?_
            rotate_left
            · (intro w hSw; (try dsimp only at hSw); go_simp; try with_reducible rfl)
            try simp only [Act.put, List.setIfInBounds_toArray, List.set_cons_zero, List.set_cons_succ]
            refine wpAnyH_take (i := 16) (oi := { dst := some 105, op := Op.move (Operand.tmp 104), type := 4, pos := "outright.go:179", after := #[{ on := 15, ground := Ground.data }, { on := 7, ground := Ground.chain }], guard := none }) (v := ?_) rfl (by kernel_rfl) (by kernel_rfl) (by kernel_rfl) (fun _ _ _ h => h) (Or.inl ⟨by rfl, ?_⟩) (by assumption) ?_
            rotate_left
            · (intro w hSw; (try dsimp only at hSw); go_simp; try with_reducible rfl)
            try simp only [Act.put, List.setIfInBounds_toArray, List.set_cons_zero, List.set_cons_succ]
            refine wpAnyH_take (i := 17) (oi := { dst := some 106, op := Op.move (Operand.tmp 5), type := 44, pos := "outright.go:179", after := #[{ on := 16, ground := Ground.guard }], guard := some (16, false) }) (v := ?_) rfl (by kernel_rfl) (by kernel_rfl) (by kernel_rfl) (fun _ _ _ h => h) (Or.inl ⟨by rfl, ?_⟩) (by assumption) ?_
            rotate_left
            · (intro w hSw; (try dsimp only at hSw); go_simp; try with_reducible rfl)
            try simp only [Act.put, List.setIfInBounds_toArray, List.set_cons_zero, List.set_cons_succ]
            refine wpAnyH_take (i := 18) (oi := { dst := some 107, op := Op.move (Operand.tmp 12), type := 3, pos := "outright.go:179", after := #[{ on := 16, ground := Ground.guard }], guard := some (16, false) }) (v := ?_) rfl (by kernel_rfl) (by kernel_rfl) (by kernel_rfl) (fun _ _ _ h => h) (Or.inl ⟨by rfl, ?_⟩) (by assumption) ?_
            rotate_left
            · (intro w hSw; (try dsimp only at hSw); go_simp; try with_reducible rfl)
            try simp only [Act.put, List.setIfInBounds_toArray, List.set_cons_zero, List.set_cons_succ]
            refine wpAnyH_take (i := 19) (oi := { dst := some 108, op := Op.indexAddr 44 (Operand.tmp 106) (Operand.tmp 107), type := 0, pos := "outright.go:179", after := #[{ on := 17, ground := Ground.data }, { on := 18, ground := Ground.data }, { on := 16, ground := Ground.guard }], guard := some (16, false) }) (v := ?_) rfl (by kernel_rfl) (by kernel_rfl) (by kernel_rfl) (fun _ _ _ h => h) (Or.inl ⟨by rfl, ?_⟩) (by assumption) ?_
            rotate_left
            · (intro w hSw; (try dsimp only at hSw); go_simp; try with_reducible rfl)
            try simp only [Act.put, List.setIfInBounds_toArray, List.set_cons_zero, List.set_cons_succ]
            refine wpAnyH_take (i := 20) (oi := { dst := some 109, op := Op.fieldAddr 47 (Operand.tmp 108) 2, type := 0, pos := "outright.go:179", after := #[{ on := 19, ground := Ground.data }, { on := 16, ground := Ground.guard }], guard := some (16, false) }) (v := ?_) rfl (by kernel_rfl) (by kernel_rfl) (by kernel_rfl) (fun _ _ _ h => h) (Or.inl ⟨by rfl, ?_⟩) (by assumption) ?_
            rotate_left
            · (intro w hSw; (try dsimp only at hSw); go_simp; try with_reducible rfl)
            try simp only [Act.put, List.setIfInBounds_toArray, List.set_cons_zero, List.set_cons_succ]
            refine wpAnyH_take (i := 21) (oi := { dst := some 110, op := Op.load 9 (Operand.tmp 109), type := 9, pos := "outright.go:179", after := #[{ on := 20, ground := Ground.data }, { on := 16, ground := Ground.guard }], guard := some (16, false) }) (v := ?_) rfl (by kernel_rfl) (by kernel_rfl) (by kernel_rfl) (fun _ _ _ h => h) (Or.inl ⟨by rfl, ?_⟩) (by assumption) ?_
            rotate_left
            · (intro w hSw; (try dsimp only at hSw); go_simp; try with_reducible rfl)
            try simp only [Act.put, List.setIfInBounds_toArray, List.set_cons_zero, List.set_cons_succ]
            refine wpAnyH_take (i := 22) (oi := { dst := some 111, op := Op.move (Operand.tmp 15), type := 9, pos := "outright.go:179", after := #[{ on := 16, ground := Ground.guard }], guard := some (16, false) }) (v := ?_) rfl (by kernel_rfl) (by kernel_rfl) (by kernel_rfl) (fun _ _ _ h => h) (Or.inl ⟨by rfl, ?_⟩) (by assumption) ?_
            rotate_left
            · (intro w hSw; (try dsimp only at hSw); go_simp; try with_reducible rfl)
            try simp only [Act.put, List.setIfInBounds_toArray, List.set_cons_zero, List.set_cons_succ]
            refine wpAnyH_take (i := 23) (oi := { dst := some 112, op := Op.binOp BinOp.neq 9 (Operand.tmp 110) (Operand.tmp 111) 9, type := 4, pos := "outright.go:179", after := #[{ on := 21, ground := Ground.data }, { on := 22, ground := Ground.data }, { on := 16, ground := Ground.guard }], guard := some (16, false) }) (v := ?_) rfl (by kernel_rfl) (by kernel_rfl) (by kernel_rfl) (fun _ _ _ h => h) (Or.inl ⟨by rfl, ?_⟩) (by assumption) ?_
            rotate_left
            · (intro w hSw; (try dsimp only at hSw); go_simp; try with_reducible rfl)
            try simp only [Act.put, List.setIfInBounds_toArray, List.set_cons_zero, List.set_cons_succ]
            refine wpAnyH_take (i := 24) (oi := { dst := some 113, op := Op.pick (Operand.tmp 105) (Operand.const (Value.bool true)) (Operand.tmp 112), type := 4, pos := "outright.go:179", after := #[{ on := 16, ground := Ground.data }, { on := 23, ground := Ground.data }], guard := none }) (v := ?_) rfl (by kernel_rfl) (by kernel_rfl) (by kernel_rfl) (fun _ _ _ h => h) (Or.inl ⟨by rfl, ?_⟩) (by assumption) ?_
            rotate_left
            · (intro w hSw; (try dsimp only at hSw); go_simp; try with_reducible rfl)
            try simp only [Act.put, List.setIfInBounds_toArray, List.set_cons_zero, List.set_cons_succ]
            refine wpAnyH_take (i := 25) (oi := { dst := some 114, op := Op.move (Operand.tmp 113), type := 4, pos := "outright.go:179", after := #[{ on := 24, ground := Ground.data }, { on := 16, ground := Ground.chain }], guard := none }) (v := ?_) rfl (by kernel_rfl) (by kernel_rfl) (by kernel_rfl) (fun _ _ _ h => h) (Or.inl ⟨by rfl, ?_⟩) (by assumption) ?_
            rotate_left
            · (intro w hSw; (try dsimp only at hSw); go_simp; try with_reducible rfl)
            try simp only [Act.put, List.setIfInBounds_toArray, List.set_cons_zero, List.set_cons_succ]
            refine wpAnyH_take (i := 26) (oi := { dst := some 115, op := Op.move (Operand.tmp 5), type := 44, pos := "outright.go:179", after := #[{ on := 25, ground := Ground.guard }], guard := some (25, false) }) (v := ?_) rfl (by kernel_rfl) (by kernel_rfl) (by kernel_rfl) (fun _ _ _ h => h) (Or.inl ⟨by rfl, ?_⟩) (by assumption) ?_
            rotate_left
            · (intro w hSw; (try dsimp only at hSw); go_simp; try with_reducible rfl)
            try simp only [Act.put, List.setIfInBounds_toArray, List.set_cons_zero, List.set_cons_succ]
            refine wpAnyH_take (i := 27) (oi := { dst := some 116, op := Op.move (Operand.tmp 12), type := 3, pos := "outright.go:179", after := #[{ on := 25, ground := Ground.guard }], guard := some (25, false) }) (v := ?_) rfl (by kernel_rfl) (by kernel_rfl) (by kernel_rfl) (fun _ _ _ h => h) (Or.inl ⟨by rfl, ?_⟩) (by assumption) ?_
            rotate_left
            · (intro w hSw; (try dsimp only at hSw); go_simp; try with_reducible rfl)
            try simp only [Act.put, List.setIfInBounds_toArray, List.set_cons_zero, List.set_cons_succ]
            refine wpAnyH_take (i := 28) (oi := { dst := some 117, op := Op.indexAddr 44 (Operand.tmp 115) (Operand.tmp 116), type := 0, pos := "outright.go:179", after := #[{ on := 26, ground := Ground.data }, { on := 27, ground := Ground.data }, { on := 25, ground := Ground.guard }], guard := some (25, false) }) (v := ?_) rfl (by kernel_rfl) (by kernel_rfl) (by kernel_rfl) (fun _ _ _ h => h) (Or.inl ⟨by rfl, ?_⟩) (by assumption) ?_
            rotate_left
            · (intro w hSw; (try dsimp only at hSw); go_simp; try with_reducible rfl)
            try simp only [Act.put, List.setIfInBounds_toArray, List.set_cons_zero, List.set_cons_succ]
            refine wpAnyH_take (i := 29) (oi := { dst := some 118, op := Op.fieldAddr 47 (Operand.tmp 117) 4, type := 0, pos := "outright.go:179", after := #[{ on := 28, ground := Ground.data }, { on := 25, ground := Ground.guard }], guard := some (25, false) }) (v := ?_) rfl (by kernel_rfl) (by kernel_rfl) (by kernel_rfl) (fun _ _ _ h => h) (Or.inl ⟨by rfl, ?_⟩) (by assumption) ?_
            rotate_left
            · (intro w hSw; (try dsimp only at hSw); go_simp; try with_reducible rfl)
            try simp only [Act.put, List.setIfInBounds_toArray, List.set_cons_zero, List.set_cons_succ]
            refine wpAnyH_take (i := 30) (oi := { dst := some 119, op := Op.load 4 (Operand.tmp 118), type := 4, pos := "outright.go:179", after := #[{ on := 29, ground := Ground.data }, { on := 25, ground := Ground.guard }], guard := some (25, false) }) (v := ?_) rfl (by kernel_rfl) (by kernel_rfl) (by kernel_rfl) (fun _ _ _ h => h) (Or.inl ⟨by rfl, ?_⟩) (by assumption) ?_
            rotate_left
            · (intro w hSw; (try dsimp only at hSw); go_simp; try with_reducible rfl)
            try simp only [Act.put, List.setIfInBounds_toArray, List.set_cons_zero, List.set_cons_succ]
            refine wpAnyH_take (i := 31) (oi := { dst := some 120, op := Op.move (Operand.tmp 16), type := 4, pos := "outright.go:179", after := #[{ on := 25, ground := Ground.guard }], guard := some (25, false) }) (v := ?_) rfl (by kernel_rfl) (by kernel_rfl) (by kernel_rfl) (fun _ _ _ h => h) (Or.inl ⟨by rfl, ?_⟩) (by assumption) ?_
            rotate_left
            · (intro w hSw; (try dsimp only at hSw); go_simp; try with_reducible rfl)
            try simp only [Act.put, List.setIfInBounds_toArray, List.set_cons_zero, List.set_cons_succ]
            refine wpAnyH_take (i := 32) (oi := { dst := some 121, op := Op.binOp BinOp.neq 4 (Operand.tmp 119) (Operand.tmp 120) 4, type := 4, pos := "outright.go:179", after := #[{ on := 30, ground := Ground.data }, { on := 31, ground := Ground.data }, { on := 25, ground := Ground.guard }], guard := some (25, false) }) (v := ?_) rfl (by kernel_rfl) (by kernel_rfl) (by kernel_rfl) (fun _ _ _ h => h) (Or.inl ⟨by rfl, ?_⟩) (by assumption) ?_
            rotate_left
            · (intro w hSw; (try dsimp only at hSw); go_simp; try with_reducible rfl)
            try simp only [Act.put, List.setIfInBounds_toArray, List.set_cons_zero, List.set_cons_succ]
            refine wpAnyH_take (i := 33) (oi := { dst := some 122, op := Op.pick (Operand.tmp 114) (Operand.const (Value.bool true)) (Operand.tmp 121), type := 4, pos := "outright.go:179", after := #[{ on := 25, ground := Ground.data }, { on := 32, ground := Ground.data }], guard := none }) (v := ?_) rfl (by kernel_rfl) (by kernel_rfl) (by kernel_rfl) (fun _ _ _ h => h) (Or.inl ⟨by rfl, ?_⟩) (by assumption) ?_
            rotate_left
            · (intro w hSw; (try dsimp only at hSw); go_simp; try with_reducible rfl)
            try simp only [Act.put, List.setIfInBounds_toArray, List.set_cons_zero, List.set_cons_succ]
            refine wpAnyH_take (i := 34) (oi := { dst := some 123, op := Op.move (Operand.tmp 122), type := 4, pos := "outright.go:179", after := #[{ on := 33, ground := Ground.data }, { on := 25, ground := Ground.chain }], guard := none }) (v := ?_) rfl (by kernel_rfl) (by kernel_rfl) (by kernel_rfl) (fun _ _ _ h => h) (Or.inl ⟨by rfl, ?_⟩) (by assumption) ?_
            rotate_left
            · (intro w hSw; (try dsimp only at hSw); go_simp; try with_reducible rfl)
            try simp only [Act.put, List.setIfInBounds_toArray, List.set_cons_zero, List.set_cons_succ]
            refine wpAnyH_take (i := 35) (oi := { dst := some 124, op := Op.move (Operand.tmp 14), type := 4, pos := "outright.go:179", after := #[{ on := 34, ground := Ground.guard }], guard := some (34, false) }) (v := ?_) rfl (by kernel_rfl) (by kernel_rfl) (by kernel_rfl) (fun _ _ _ h => h) (Or.inl ⟨by rfl, ?_⟩) (by assumption) ?_
            rotate_left
            · (intro w hSw; (try dsimp only at hSw); go_simp; try with_reducible rfl)
            try simp only [Act.put, List.setIfInBounds_toArray, List.set_cons_zero, List.set_cons_succ]
            refine wpAnyH_take (i := 36) (oi := { dst := some 125, op := Op.move (Operand.tmp 16), type := 4, pos := "outright.go:179", after := #[{ on := 34, ground := Ground.guard }], guard := some (34, false) }) (v := ?_) rfl (by kernel_rfl) (by kernel_rfl) (by kernel_rfl) (fun _ _ _ h => h) (Or.inl ⟨by rfl, ?_⟩) (by assumption) ?_
            rotate_left
            · (intro w hSw; (try dsimp only at hSw); go_simp; try with_reducible rfl)
            try simp only [Act.put, List.setIfInBounds_toArray, List.set_cons_zero, List.set_cons_succ]
            by_cases hq : dh = ds
            · subst hq
              have hne : (dO.toList == dn.toList) = false := by simp; exact fun h => HFd.out rfl (bytes_ext h)
              refine wpAnyH_take (i := 37) (oi := { dst := some 126, op := Op.binOp BinOp.eql 4 (Operand.tmp 124) (Operand.tmp 125) 4, type := 4, pos := "outright.go:179", after := #[{ on := 35, ground := Ground.data }, { on := 36, ground := Ground.data }, { on := 34, ground := Ground.guard }], guard := some (34, false) }) (v := ?_) rfl (by kernel_rfl) (by kernel_rfl) (by kernel_rfl) (fun _ _ _ h => h) (Or.inl ⟨by rfl, ?_⟩) (by assumption) ?_
              rotate_left
              · (intro w hSw; (try dsimp only at hSw); go_simp; try with_reducible rfl)
              try simp only [Act.put, List.setIfInBounds_toArray, List.set_cons_zero, List.set_cons_succ]
              refine wpAnyH_take (i := 38) (oi := { dst := some 127, op := Op.move (Operand.tmp 126), type := 4, pos := "outright.go:179", after := #[{ on := 37, ground := Ground.data }, { on := 34, ground := Ground.chain }, { on := 34, ground := Ground.guard }], guard := some (34, false) }) (v := ?_) rfl (by kernel_rfl) (by kernel_rfl) (by kernel_rfl) (fun _ _ _ h => h) (Or.inl ⟨by rfl, ?_⟩) (by assumption) ?_
              rotate_left
              · (intro w hSw; (try dsimp only at hSw); go_simp; try with_reducible rfl)
              try simp only [Act.put, List.setIfInBounds_toArray, List.set_cons_zero, List.set_cons_succ]
              refine wpAnyH_take (i := 39) (oi := { dst := some 128, op := Op.move (Operand.tmp 13), type := 9, pos := "outright.go:179", after := #[{ on := 38, ground := Ground.guard }], guard := some (38, true) }) (v := ?_) rfl (by kernel_rfl) (by kernel_rfl) (by kernel_rfl) (fun _ _ _ h => h) (Or.inl ⟨by rfl, ?_⟩) (by assumption) ?_
              rotate_left
              · (intro w hSw; (try dsimp only at hSw); go_simp; try with_reducible rfl)
              try simp only [Act.put, List.setIfInBounds_toArray, List.set_cons_zero, List.set_cons_succ]
              refine wpAnyH_take (i := 40) (oi := { dst := some 129, op := Op.move (Operand.tmp 15), type := 9, pos := "outright.go:179", after := #[{ on := 38, ground := Ground.guard }], guard := some (38, true) }) (v := ?_) rfl (by kernel_rfl) (by kernel_rfl) (by kernel_rfl) (fun _ _ _ h => h) (Or.inl ⟨by rfl, ?_⟩) (by assumption) ?_
              rotate_left
              · (intro w hSw; (try dsimp only at hSw); go_simp; try with_reducible rfl)
              try simp only [Act.put, List.setIfInBounds_toArray, List.set_cons_zero, List.set_cons_succ]
              refine wpAnyH_take (i := 41) (oi := { dst := some 130, op := Op.binOp BinOp.eql 9 (Operand.tmp 128) (Operand.tmp 129) 9, type := 4, pos := "outright.go:179", after := #[{ on := 39, ground := Ground.data }, { on := 40, ground := Ground.data }, { on := 38, ground := Ground.guard }], guard := some (38, true) }) (v := ?_) rfl (by kernel_rfl) (by kernel_rfl) (by kernel_rfl) (fun _ _ _ h => h) (Or.inl ⟨by rfl, ?_⟩) (by assumption) ?_
              rotate_left
              · (intro w hSw; (try dsimp only at hSw); go_simp; try with_reducible rfl)
              try simp only [Act.put, List.setIfInBounds_toArray, List.set_cons_zero, List.set_cons_succ]
              refine wpAnyH_take (i := 42) (oi := { dst := some 131, op := Op.pick (Operand.tmp 127) (Operand.tmp 130) (Operand.const (Value.bool false)), type := 4, pos := "outright.go:179", after := #[{ on := 38, ground := Ground.data }, { on := 41, ground := Ground.data }, { on := 34, ground := Ground.guard }], guard := some (34, false) }) (v := ?_) rfl (by kernel_rfl) (by kernel_rfl) (by kernel_rfl) (fun _ _ _ h => h) (Or.inl ⟨by rfl, ?_⟩) (by assumption) ?_
              rotate_left
              · (intro w hSw; (try dsimp only at hSw); go_simp; try with_reducible rfl)
              try simp only [Act.put, List.setIfInBounds_toArray, List.set_cons_zero, List.set_cons_succ]
              refine wpAnyH_take (i := 43) (oi := { dst := some 132, op := Op.pick (Operand.tmp 123) (Operand.const (Value.bool true)) (Operand.tmp 131), type := 4, pos := "outright.go:179", after := #[{ on := 34, ground := Ground.data }, { on := 42, ground := Ground.data }], guard := none }) (v := ?_) rfl (by kernel_rfl) (by kernel_rfl) (by kernel_rfl) (fun _ _ _ h => h) (Or.inl ⟨by rfl, ?_⟩) (by assumption) ?_
              rotate_left
              · (intro w hSw; (try dsimp only at hSw); go_simp; try with_reducible rfl)
              try simp only [Act.put, List.setIfInBounds_toArray, List.set_cons_zero, List.set_cons_succ]
              refine wpAnyH_take (i := 44) (oi := { dst := some 133, op := Op.move (Operand.tmp 132), type := 4, pos := "outright.go:179", after := #[{ on := 43, ground := Ground.data }, { on := 38, ground := Ground.chain }], guard := none }) (v := ?_) rfl (by kernel_rfl) (by kernel_rfl) (by kernel_rfl) (fun _ _ _ h => h) (Or.inl ⟨by rfl, ?_⟩) (by assumption) ?_
              rotate_left
              · (intro w hSw; (try dsimp only at hSw); go_simp; try with_reducible rfl)
              try simp only [Act.put, List.setIfInBounds_toArray, List.set_cons_zero, List.set_cons_succ]
              refine wpAnyH_take (i := 45) (oi := { dst := some 134, op := Op.move (Operand.tmp 12), type := 3, pos := "outright.go:179", after := #[{ on := 44, ground := Ground.guard }], guard := some (44, false) }) (v := ?_) rfl (by kernel_rfl) (by kernel_rfl) (by kernel_rfl) (fun _ _ _ h => h) (Or.inl ⟨by rfl, ?_⟩) (by assumption) ?_
              rotate_left
              · (intro w hSw; (try dsimp only at hSw); go_simp; try with_reducible rfl)
              try simp only [Act.put, List.setIfInBounds_toArray, List.set_cons_zero, List.set_cons_succ]
              refine wpAnyH_take (i := 46) (oi := { dst := some 135, op := Op.binOp BinOp.gtr 3 (Operand.tmp 134) (Operand.const (Value.int IntKind.i64 0)) 3, type := 4, pos := "outright.go:179", after := #[{ on := 45, ground := Ground.data }, { on := 44, ground := Ground.guard }], guard := some (44, false) }) (v := ?_) rfl (by kernel_rfl) (by kernel_rfl) (by kernel_rfl) (fun _ _ _ h => h) (Or.inl ⟨by rfl, ?_⟩) (by assumption) ?_
              rotate_left
              · (intro w hSw; (try dsimp only at hSw); go_simp; try with_reducible rfl)
              try simp only [Act.put, List.setIfInBounds_toArray, List.set_cons_zero, List.set_cons_succ]
              refine wpAnyH_take (i := 47) (oi := { dst := some 136, op := Op.move (Operand.tmp 135), type := 4, pos := "outright.go:179", after := #[{ on := 46, ground := Ground.data }, { on := 44, ground := Ground.chain }, { on := 44, ground := Ground.guard }], guard := some (44, false) }) (v := ?_) rfl (by kernel_rfl) (by kernel_rfl) (by kernel_rfl) (fun _ _ _ h => h) (Or.inl ⟨by rfl, ?_⟩) (by assumption) ?_
              rotate_left
              · (intro w hSw; (try dsimp only at hSw); go_simp; try with_reducible rfl)
              try simp only [Act.put, List.setIfInBounds_toArray, List.set_cons_zero, List.set_cons_succ]
              refine wpAnyH_take (i := 48) (oi := { dst := some 137, op := Op.move (Operand.tmp 5), type := 44, pos := "outright.go:179", after := #[{ on := 47, ground := Ground.guard }], guard := some (47, true) }) (v := undef) rfl (by kernel_rfl) (by kernel_rfl) (by kernel_rfl) (fun _ _ _ h => h) (Or.inr ⟨by rfl, rfl⟩) (by assumption) ?_
              try simp only [Act.put, List.setIfInBounds_toArray, List.set_cons_zero, List.set_cons_succ]
              refine wpAnyH_take (i := 49) (oi := { dst := some 138, op := Op.move (Operand.tmp 12), type := 3, pos := "outright.go:179", after := #[{ on := 47, ground := Ground.guard }], guard := some (47, true) }) (v := undef) rfl (by kernel_rfl) (by kernel_rfl) (by kernel_rfl) (fun _ _ _ h => h) (Or.inr ⟨by rfl, rfl⟩) (by assumption) ?_
              try simp only [Act.put, List.setIfInBounds_toArray, List.set_cons_zero, List.set_cons_succ]
              refine wpAnyH_take (i := 50) (oi := { dst := some 139, op := Op.indexAddr 44 (Operand.tmp 137) (Operand.tmp 138), type := 0, pos := "outright.go:179", after := #[{ on := 48, ground := Ground.data }, { on := 49, ground := Ground.data }, { on := 47, ground := Ground.guard }], guard := some (47, true) }) (v := undef) rfl (by kernel_rfl) (by kernel_rfl) (by kernel_rfl) (fun _ _ _ h => h) (Or.inr ⟨by rfl, rfl⟩) (by assumption) ?_
              try simp only [Act.put, List.setIfInBounds_toArray, List.set_cons_zero, List.set_cons_succ]
              refine wpAnyH_take (i := 51) (oi := { dst := some 140, op := Op.fieldAddr 47 (Operand.tmp 139) 0, type := 0, pos := "outright.go:179", after := #[{ on := 50, ground := Ground.data }, { on := 47, ground := Ground.guard }], guard := some (47, true) }) (v := undef) rfl (by kernel_rfl) (by kernel_rfl) (by kernel_rfl) (fun _ _ _ h => h) (Or.inr ⟨by rfl, rfl⟩) (by assumption) ?_
              try simp only [Act.put, List.setIfInBounds_toArray, List.set_cons_zero, List.set_cons_succ]
              refine wpAnyH_take (i := 52) (oi := { dst := some 141, op := Op.load 9 (Operand.tmp 140), type := 9, pos := "outright.go:179", after := #[{ on := 51, ground := Ground.data }, { on := 47, ground := Ground.guard }], guard := some (47, true) }) (v := undef) rfl (by kernel_rfl) (by kernel_rfl) (by kernel_rfl) (fun _ _ _ h => h) (Or.inr ⟨by rfl, rfl⟩) (by assumption) ?_
              try simp only [Act.put, List.setIfInBounds_toArray, List.set_cons_zero, List.set_cons_succ]
              refine wpAnyH_take (i := 53) (oi := { dst := some 142, op := Op.move (Operand.tmp 5), type := 44, pos := "outright.go:179", after := #[{ on := 47, ground := Ground.guard }], guard := some (47, true) }) (v := undef) rfl (by kernel_rfl) (by kernel_rfl) (by kernel_rfl) (fun _ _ _ h => h) (Or.inr ⟨by rfl, rfl⟩) (by assumption) ?_
              try simp only [Act.put, List.setIfInBounds_toArray, List.set_cons_zero, List.set_cons_succ]
              refine wpAnyH_take (i := 54) (oi := { dst := some 143, op := Op.move (Operand.tmp 12), type := 3, pos := "outright.go:179", after := #[{ on := 47, ground := Ground.guard }], guard := some (47, true) }) (v := undef) rfl (by kernel_rfl) (by kernel_rfl) (by kernel_rfl) (fun _ _ _ h => h) (Or.inr ⟨by rfl, rfl⟩) (by assumption) ?_
              try simp only [Act.put, List.setIfInBounds_toArray, List.set_cons_zero, List.set_cons_succ]
              refine wpAnyH_take (i := 55) (oi := { dst := some 144, op := Op.binOp BinOp.sub 3 (Operand.tmp 143) (Operand.const (Value.int IntKind.i64 1)) 3, type := 3, pos := "outright.go:179", after := #[{ on := 54, ground := Ground.data }, { on := 47, ground := Ground.guard }], guard := some (47, true) }) (v := undef) rfl (by kernel_rfl) (by kernel_rfl) (by kernel_rfl) (fun _ _ _ h => h) (Or.inr ⟨by rfl, rfl⟩) (by assumption) ?_
              try simp only [Act.put, List.setIfInBounds_toArray, List.set_cons_zero, List.set_cons_succ]
              refine wpAnyH_take (i := 56) (oi := { dst := some 145, op := Op.indexAddr 44 (Operand.tmp 142) (Operand.tmp 144), type := 0, pos := "outright.go:179", after := #[{ on := 53, ground := Ground.data }, { on := 55, ground := Ground.data }, { on := 47, ground := Ground.guard }], guard := some (47, true) }) (v := undef) rfl (by kernel_rfl) (by kernel_rfl) (by kernel_rfl) (fun _ _ _ h => h) (Or.inr ⟨by rfl, rfl⟩) (by assumption) ?_
              try simp only [Act.put, List.setIfInBounds_toArray, List.set_cons_zero, List.set_cons_succ]
              refine wpAnyH_take (i := 57) (oi := { dst := some 146, op := Op.fieldAddr 47 (Operand.tmp 145) 0, type := 0, pos := "outright.go:179", after := #[{ on := 56, ground := Ground.data }, { on := 47, ground := Ground.guard }], guard := some (47, true) }) (v := undef) rfl (by kernel_rfl) (by kernel_rfl) (by kernel_rfl) (fun _ _ _ h => h) (Or.inr ⟨by rfl, rfl⟩) (by assumption) ?_
              try simp only [Act.put, List.setIfInBounds_toArray, List.set_cons_zero, List.set_cons_succ]
              refine wpAnyH_take (i := 58) (oi := { dst := some 147, op := Op.load 9 (Operand.tmp 146), type := 9, pos := "outright.go:179", after := #[{ on := 57, ground := Ground.data }, { on := 47, ground := Ground.guard }], guard := some (47, true) }) (v := undef) rfl (by kernel_rfl) (by kernel_rfl) (by kernel_rfl) (fun _ _ _ h => h) (Or.inr ⟨by rfl, rfl⟩) (by assumption) ?_
              try simp only [Act.put, List.setIfInBounds_toArray, List.set_cons_zero, List.set_cons_succ]
              refine wpAnyH_take (i := 59) (oi := { dst := some 148, op := Op.binOp BinOp.leq 9 (Operand.tmp 141) (Operand.tmp 147) 9, type := 4, pos := "outright.go:179", after := #[{ on := 52, ground := Ground.data }, { on := 58, ground := Ground.data }, { on := 47, ground := Ground.guard }], guard := some (47, true) }) (v := undef) rfl (by kernel_rfl) (by kernel_rfl) (by kernel_rfl) (fun _ _ _ h => h) (Or.inr ⟨by rfl, rfl⟩) (by assumption) ?_
              try simp only [Act.put, List.setIfInBounds_toArray, List.set_cons_zero, List.set_cons_succ]
              refine wpAnyH_take (i := 60) (oi := { dst := some 149, op := Op.pick (Operand.tmp 136) (Operand.tmp 148) (Operand.const (Value.bool false)), type := 4, pos := "outright.go:179", after := #[{ on := 47, ground := Ground.data }, { on := 59, ground := Ground.data }, { on := 44, ground := Ground.guard }], guard := some (44, false) }) (v := ?_) rfl (by kernel_rfl) (by kernel_rfl) (by kernel_rfl) (fun _ _ _ h => h) (Or.inl ⟨by rfl, ?_⟩) (by assumption) ?_
              rotate_left
              · (intro w hSw; (try dsimp only at hSw); go_simp; try with_reducible rfl)
              try simp only [Act.put, List.setIfInBounds_toArray, List.set_cons_zero, List.set_cons_succ]
              refine wpAnyH_take (i := 61) (oi := { dst := some 150, op := Op.pick (Operand.tmp 133) (Operand.const (Value.bool true)) (Operand.tmp 149), type := 4, pos := "outright.go:179", after := #[{ on := 44, ground := Ground.data }, { on := 60, ground := Ground.data }], guard := none }) (v := ?_) rfl (by kernel_rfl) (by kernel_rfl) (by kernel_rfl) (fun _ _ _ h => h) (Or.inl ⟨by rfl, ?_⟩) (by assumption) ?_
              rotate_left
              · (intro w hSw; (try dsimp only at hSw); go_simp; try with_reducible rfl)
              try simp only [Act.put, List.setIfInBounds_toArray, List.set_cons_zero, List.set_cons_succ]
              refine wpAnyH_done (by kernel_rfl) ?_ _
              go_wp2_with fail
              exact ⟨⟨0 + 1, by omega, by go_num, hid D4.out.drew⟩, by simp [intOf]; omega⟩
            · have hq2 : (dh == ds) = false := by simpa using hq
              clear hq
              refine wpAnyH_take (i := 37) (oi := { dst := some 126, op := Op.binOp BinOp.eql 4 (Operand.tmp 124) (Operand.tmp 125) 4, type := 4, pos := "outright.go:179", after := #[{ on := 35, ground := Ground.data }, { on := 36, ground := Ground.data }, { on := 34, ground := Ground.guard }], guard := some (34, false) }) (v := ?_) rfl (by kernel_rfl) (by kernel_rfl) (by kernel_rfl) (fun _ _ _ h => h) (Or.inl ⟨by rfl, ?_⟩) (by assumption) ?_
              rotate_left
              · (intro w hSw; (try dsimp only at hSw); go_simp; try with_reducible rfl)
              try simp only [Act.put, List.setIfInBounds_toArray, List.set_cons_zero, List.set_cons_succ]
              refine wpAnyH_take (i := 38) (oi := { dst := some 127, op := Op.move (Operand.tmp 126), type := 4, pos := "outright.go:179", after := #[{ on := 37, ground := Ground.data }, { on := 34, ground := Ground.chain }, { on := 34, ground := Ground.guard }], guard := some (34, false) }) (v := ?_) rfl (by kernel_rfl) (by kernel_rfl) (by kernel_rfl) (fun _ _ _ h => h) (Or.inl ⟨by rfl, ?_⟩) (by assumption) ?_
              rotate_left
              · (intro w hSw; (try dsimp only at hSw); go_simp; try with_reducible rfl)
              try simp only [Act.put, List.setIfInBounds_toArray, List.set_cons_zero, List.set_cons_succ]
              refine wpAnyH_take (i := 39) (oi := { dst := some 128, op := Op.move (Operand.tmp 13), type := 9, pos := "outright.go:179", after := #[{ on := 38, ground := Ground.guard }], guard := some (38, true) }) (v := undef) rfl (by kernel_rfl) (by kernel_rfl) (by kernel_rfl) (fun _ _ _ h => h) (Or.inr ⟨by rfl, rfl⟩) (by assumption) ?_
              try simp only [Act.put, List.setIfInBounds_toArray, List.set_cons_zero, List.set_cons_succ]
              refine wpAnyH_take (i := 40) (oi := { dst := some 129, op := Op.move (Operand.tmp 15), type := 9, pos := "outright.go:179", after := #[{ on := 38, ground := Ground.guard }], guard := some (38, true) }) (v := undef) rfl (by kernel_rfl) (by kernel_rfl) (by kernel_rfl) (fun _ _ _ h => h) (Or.inr ⟨by rfl, rfl⟩) (by assumption) ?_
              try simp only [Act.put, List.setIfInBounds_toArray, List.set_cons_zero, List.set_cons_succ]
              refine wpAnyH_take (i := 41) (oi := { dst := some 130, op := Op.binOp BinOp.eql 9 (Operand.tmp 128) (Operand.tmp 129) 9, type := 4, pos := "outright.go:179", after := #[{ on := 39, ground := Ground.data }, { on := 40, ground := Ground.data }, { on := 38, ground := Ground.guard }], guard := some (38, true) }) (v := undef) rfl (by kernel_rfl) (by kernel_rfl) (by kernel_rfl) (fun _ _ _ h => h) (Or.inr ⟨by rfl, rfl⟩) (by assumption) ?_
              try simp only [Act.put, List.setIfInBounds_toArray, List.set_cons_zero, List.set_cons_succ]
              refine wpAnyH_take (i := 42) (oi := { dst := some 131, op := Op.pick (Operand.tmp 127) (Operand.tmp 130) (Operand.const (Value.bool false)), type := 4, pos := "outright.go:179", after := #[{ on := 38, ground := Ground.data }, { on := 41, ground := Ground.data }, { on := 34, ground := Ground.guard }], guard := some (34, false) }) (v := ?_) rfl (by kernel_rfl) (by kernel_rfl) (by kernel_rfl) (fun _ _ _ h => h) (Or.inl ⟨by rfl, ?_⟩) (by assumption) ?_
              rotate_left
              · (intro w hSw; (try dsimp only at hSw); go_simp; try with_reducible rfl)
              try simp only [Act.put, List.setIfInBounds_toArray, List.set_cons_zero, List.set_cons_succ]
              refine wpAnyH_take (i := 43) (oi := { dst := some 132, op := Op.pick (Operand.tmp 123) (Operand.const (Value.bool true)) (Operand.tmp 131), type := 4, pos := "outright.go:179", after := #[{ on := 34, ground := Ground.data }, { on := 42, ground := Ground.data }], guard := none }) (v := ?_) rfl (by kernel_rfl) (by kernel_rfl) (by kernel_rfl) (fun _ _ _ h => h) (Or.inl ⟨by rfl, ?_⟩) (by assumption) ?_
              rotate_left
              · (intro w hSw; (try dsimp only at hSw); go_simp; try with_reducible rfl)
              try simp only [Act.put, List.setIfInBounds_toArray, List.set_cons_zero, List.set_cons_succ]
              refine wpAnyH_take (i := 44) (oi := { dst := some 133, op := Op.move (Operand.tmp 132), type := 4, pos := "outright.go:179", after := #[{ on := 43, ground := Ground.data }, { on := 38, ground := Ground.chain }], guard := none }) (v := ?_) rfl (by kernel_rfl) (by kernel_rfl) (by kernel_rfl) (fun _ _ _ h => h) (Or.inl ⟨by rfl, ?_⟩) (by assumption) ?_
              rotate_left
              · (intro w hSw; (try dsimp only at hSw); go_simp; try with_reducible rfl)
              try simp only [Act.put, List.setIfInBounds_toArray, List.set_cons_zero, List.set_cons_succ]
              refine wpAnyH_take (i := 45) (oi := { dst := some 134, op := Op.move (Operand.tmp 12), type := 3, pos := "outright.go:179", after := #[{ on := 44, ground := Ground.guard }], guard := some (44, false) }) (v := ?_) rfl (by kernel_rfl) (by kernel_rfl) (by kernel_rfl) (fun _ _ _ h => h) (Or.inl ⟨by rfl, ?_⟩) (by assumption) ?_
              rotate_left
              · (intro w hSw; (try dsimp only at hSw); go_simp; try with_reducible rfl)
              try simp only [Act.put, List.setIfInBounds_toArray, List.set_cons_zero, List.set_cons_succ]
              refine wpAnyH_take (i := 46) (oi := { dst := some 135, op := Op.binOp BinOp.gtr 3 (Operand.tmp 134) (Operand.const (Value.int IntKind.i64 0)) 3, type := 4, pos := "outright.go:179", after := #[{ on := 45, ground := Ground.data }, { on := 44, ground := Ground.guard }], guard := some (44, false) }) (v := ?_) rfl (by kernel_rfl) (by kernel_rfl) (by kernel_rfl) (fun _ _ _ h => h) (Or.inl ⟨by rfl, ?_⟩) (by assumption) ?_
              rotate_left
              · (intro w hSw; (try dsimp only at hSw); go_simp; try with_reducible rfl)
              try simp only [Act.put, List.setIfInBounds_toArray, List.set_cons_zero, List.set_cons_succ]
              refine wpAnyH_take (i := 47) (oi := { dst := some 136, op := Op.move (Operand.tmp 135), type := 4, pos := "outright.go:179", after := #[{ on := 46, ground := Ground.data }, { on := 44, ground := Ground.chain }, { on := 44, ground := Ground.guard }], guard := some (44, false) }) (v := ?_) rfl (by kernel_rfl) (by kernel_rfl) (by kernel_rfl) (fun _ _ _ h => h) (Or.inl ⟨by rfl, ?_⟩) (by assumption) ?_
              rotate_left
              · (intro w hSw; (try dsimp only at hSw); go_simp; try with_reducible rfl)
              try simp only [Act.put, List.setIfInBounds_toArray, List.set_cons_zero, List.set_cons_succ]
              refine wpAnyH_take (i := 48) (oi := { dst := some 137, op := Op.move (Operand.tmp 5), type := 44, pos := "outright.go:179", after := #[{ on := 47, ground := Ground.guard }], guard := some (47, true) }) (v := undef) rfl (by kernel_rfl) (by kernel_rfl) (by kernel_rfl) (fun _ _ _ h => h) (Or.inr ⟨by rfl, rfl⟩) (by assumption) ?_
              try simp only [Act.put, List.setIfInBounds_toArray, List.set_cons_zero, List.set_cons_succ]
              refine wpAnyH_take (i := 49) (oi := { dst := some 138, op := Op.move (Operand.tmp 12), type := 3, pos := "outright.go:179", after := #[{ on := 47, ground := Ground.guard }], guard := some (47, true) }) (v := undef) rfl (by kernel_rfl) (by kernel_rfl) (by kernel_rfl) (fun _ _ _ h => h) (Or.inr ⟨by rfl, rfl⟩) (by assumption) ?_
              try simp only [Act.put, List.setIfInBounds_toArray, List.set_cons_zero, List.set_cons_succ]
              refine wpAnyH_take (i := 50) (oi := { dst := some 139, op := Op.indexAddr 44 (Operand.tmp 137) (Operand.tmp 138), type := 0, pos := "outright.go:179", after := #[{ on := 48, ground := Ground.data }, { on := 49, ground := Ground.data }, { on := 47, ground := Ground.guard }], guard := some (47, true) }) (v := undef) rfl (by kernel_rfl) (by kernel_rfl) (by kernel_rfl) (fun _ _ _ h => h) (Or.inr ⟨by rfl, rfl⟩) (by assumption) ?_
              try simp only [Act.put, List.setIfInBounds_toArray, List.set_cons_zero, List.set_cons_succ]
              refine wpAnyH_take (i := 51) (oi := { dst := some 140, op := Op.fieldAddr 47 (Operand.tmp 139) 0, type := 0, pos := "outright.go:179", after := #[{ on := 50, ground := Ground.data }, { on := 47, ground := Ground.guard }], guard := some (47, true) }) (v := undef) rfl (by kernel_rfl) (by kernel_rfl) (by kernel_rfl) (fun _ _ _ h => h) (Or.inr ⟨by rfl, rfl⟩) (by assumption) ?_
              try simp only [Act.put, List.setIfInBounds_toArray, List.set_cons_zero, List.set_cons_succ]
              refine wpAnyH_take (i := 52) (oi := { dst := some 141, op := Op.load 9 (Operand.tmp 140), type := 9, pos := "outright.go:179", after := #[{ on := 51, ground := Ground.data }, { on := 47, ground := Ground.guard }], guard := some (47, true) }) (v := undef) rfl (by kernel_rfl) (by kernel_rfl) (by kernel_rfl) (fun _ _ _ h => h) (Or.inr ⟨by rfl, rfl⟩) (by assumption) ?_
              try simp only [Act.put, List.setIfInBounds_toArray, List.set_cons_zero, List.set_cons_succ]
              refine wpAnyH_take (i := 53) (oi := { dst := some 142, op := Op.move (Operand.tmp 5), type := 44, pos := "outright.go:179", after := #[{ on := 47, ground := Ground.guard }], guard := some (47, true) }) (v := undef) rfl (by kernel_rfl) (by kernel_rfl) (by kernel_rfl) (fun _ _ _ h => h) (Or.inr ⟨by rfl, rfl⟩) (by assumption) ?_
              try simp only [Act.put, List.setIfInBounds_toArray, List.set_cons_zero, List.set_cons_succ]
              refine wpAnyH_take (i := 54) (oi := { dst := some 143, op := Op.move (Operand.tmp 12), type := 3, pos := "outright.go:179", after := #[{ on := 47, ground := Ground.guard }], guard := some (47, true) }) (v := undef) rfl (by kernel_rfl) (by kernel_rfl) (by kernel_rfl) (fun _ _ _ h => h) (Or.inr ⟨by rfl, rfl⟩) (by assumption) ?_
              try simp only [Act.put, List.setIfInBounds_toArray, List.set_cons_zero, List.set_cons_succ]
              refine wpAnyH_take (i := 55) (oi := { dst := some 144, op := Op.binOp BinOp.sub 3 (Operand.tmp 143) (Operand.const (Value.int IntKind.i64 1)) 3, type := 3, pos := "outright.go:179", after := #[{ on := 54, ground := Ground.data }, { on := 47, ground := Ground.guard }], guard := some (47, true) }) (v := undef) rfl (by kernel_rfl) (by kernel_rfl) (by kernel_rfl) (fun _ _ _ h => h) (Or.inr ⟨by rfl, rfl⟩) (by assumption) ?_
              try simp only [Act.put, List.setIfInBounds_toArray, List.set_cons_zero, List.set_cons_succ]
              refine wpAnyH_take (i := 56) (oi := { dst := some 145, op := Op.indexAddr 44 (Operand.tmp 142) (Operand.tmp 144), type := 0, pos := "outright.go:179", after := #[{ on := 53, ground := Ground.data }, { on := 55, ground := Ground.data }, { on := 47, ground := Ground.guard }], guard := some (47, true) }) (v := undef) rfl (by kernel_rfl) (by kernel_rfl) (by kernel_rfl) (fun _ _ _ h => h) (Or.inr ⟨by rfl, rfl⟩) (by assumption) ?_
              try simp only [Act.put, List.setIfInBounds_toArray, List.set_cons_zero, List.set_cons_succ]
              refine wpAnyH_take (i := 57) (oi := { dst := some 146, op := Op.fieldAddr 47 (Operand.tmp 145) 0, type := 0, pos := "outright.go:179", after := #[{ on := 56, ground := Ground.data }, { on := 47, ground := Ground.guard }], guard := some (47, true) }) (v := undef) rfl (by kernel_rfl) (by kernel_rfl) (by kernel_rfl) (fun _ _ _ h => h) (Or.inr ⟨by rfl, rfl⟩) (by assumption) ?_
              try simp only [Act.put, List.setIfInBounds_toArray, List.set_cons_zero, List.set_cons_succ]
              refine wpAnyH_take (i := 58) (oi := { dst := some 147, op := Op.load 9 (Operand.tmp 146), type := 9, pos := "outright.go:179", after := #[{ on := 57, ground := Ground.data }, { on := 47, ground := Ground.guard }], guard := some (47, true) }) (v := undef) rfl (by kernel_rfl) (by kernel_rfl) (by kernel_rfl) (fun _ _ _ h => h) (Or.inr ⟨by rfl, rfl⟩) (by assumption) ?_
              try simp only [Act.put, List.setIfInBounds_toArray, List.set_cons_zero, List.set_cons_succ]
              refine wpAnyH_take (i := 59) (oi := { dst := some 148, op := Op.binOp BinOp.leq 9 (Operand.tmp 141) (Operand.tmp 147) 9, type := 4, pos := "outright.go:179", after := #[{ on := 52, ground := Ground.data }, { on := 58, ground := Ground.data }, { on := 47, ground := Ground.guard }], guard := some (47, true) }) (v := undef) rfl (by kernel_rfl) (by kernel_rfl) (by kernel_rfl) (fun _ _ _ h => h) (Or.inr ⟨by rfl, rfl⟩) (by assumption) ?_
              try simp only [Act.put, List.setIfInBounds_toArray, List.set_cons_zero, List.set_cons_succ]
              refine wpAnyH_take (i := 60) (oi := { dst := some 149, op := Op.pick (Operand.tmp 136) (Operand.tmp 148) (Operand.const (Value.bool false)), type := 4, pos := "outright.go:179", after := #[{ on := 47, ground := Ground.data }, { on := 59, ground := Ground.data }, { on := 44, ground := Ground.guard }], guard := some (44, false) }) (v := ?_) rfl (by kernel_rfl) (by kernel_rfl) (by kernel_rfl) (fun _ _ _ h => h) (Or.inl ⟨by rfl, ?_⟩) (by assumption) ?_
              rotate_left
              · (intro w hSw; (try dsimp only at hSw); go_simp; try with_reducible rfl)
              try simp only [Act.put, List.setIfInBounds_toArray, List.set_cons_zero, List.set_cons_succ]
              refine wpAnyH_take (i := 61) (oi := { dst := some 150, op := Op.pick (Operand.tmp 133) (Operand.const (Value.bool true)) (Operand.tmp 149), type := 4, pos := "outright.go:179", after := #[{ on := 44, ground := Ground.data }, { on := 60, ground := Ground.data }], guard := none }) (v := ?_) rfl (by kernel_rfl) (by kernel_rfl) (by kernel_rfl) (fun _ _ _ h => h) (Or.inl ⟨by rfl, ?_⟩) (by assumption) ?_
              rotate_left
              · (intro w hSw; (try dsimp only at hSw); go_simp; try with_reducible rfl)
              try simp only [Act.put, List.setIfInBounds_toArray, List.set_cons_zero, List.set_cons_succ]
              refine wpAnyH_done (by kernel_rfl) ?_ _
              go_wp2_with fail
              exact ⟨⟨0 + 1, by omega, by go_num, hid D4.out.drew⟩, by simp [intOf]; omega⟩
          · obtain ⟨hj, hlt2⟩ := HBE.out (by omega)
            have hj' : j < L.length := by omega
            have cp := (DC.out z4 D4.out j hj').1
            have hlt3 : Op.bytesLess (L[j]'hj').k.toList dk.toList = true := hlt2
            generalize (L[j]'hj').k = pk at *
            obtain ⟨s1, s2, s3⟩ := less_asymm _ _ hlt3
            have gz : (0 : Int) < (j : Int) + 1 := by omega
            have gy : (j : Int) < (ln : Int) := by omega
            have gx : (0 : Int) ≤ (j : Int) := by omega
            have ga1 : (0 : Int) ≤ (j : Int) + 1 := by omega
            have ga2 : (j : Int) + 1 < (ln : Int) := by omega
            have hwr : IntKind.i64.wrap (j : Int) = (j : Int) := by rw [IntKind.wrap_i64]; omega
            clear HBE DC DK hlt2 hj
            go_wp2_with fail
            refine wp_region_held_drew (S := (fun W => W.cell? ⟨b0, off + (j + 1) * 5, none⟩ = some (.string dk) ∧ W.cell? ⟨b0, off + (j + 1) * 5 + 1, none⟩ = some (.string dO) ∧ W.cell? ⟨b0, off + (j + 1) * 5 + 2, none⟩ = some (.string dn) ∧ W.cell? ⟨b0, off + (j + 1) * 5 + 3, none⟩ = some (.bool dh) ∧ W.cell? ⟨b0, off + (j + 1) * 5 + 4, none⟩ = some (.bool ds) ∧ W.cell? ⟨b0, off + j * 5, none⟩ = some (.string pk))) (by kernel_rfl) ⟨c0, c1, c2, c3, c4, cp⟩ (fun hHeld => ?_)
            refine wpAnyH_take (i := 0) (oi := { dst := some 89, op := Op.move (Operand.tmp 5), type := 44, pos := "outright.go:179", after := #[], guard := none }) (v := ?_) rfl (by kernel_rfl) (by kernel_rfl) (by kernel_rfl) (fun _ _ _ h => h) (Or.inl ⟨by rfl, ?_⟩) (by assumption) ?_
            rotate_left
            · (intro w hSw; (try dsimp only at hSw); go_simp; try with_reducible rfl)
            try simp only [Act.put, List.setIfInBounds_toArray, List.set_cons_zero, List.set_cons_succ]
            refine wpAnyH_take (i := 1) (oi := { dst := some 90, op := Op.move (Operand.tmp 12), type := 3, pos := "outright.go:179", after := #[], guard := none }) (v := ?_) rfl (by kernel_rfl) (by kernel_rfl) (by kernel_rfl) (fun _ _ _ h => h) (Or.inl ⟨by rfl, ?_⟩) (by assumption) ?_
            rotate_left
            · (intro w hSw; (try dsimp only at hSw); go_simp; try with_reducible rfl)
            try simp only [Act.put, List.setIfInBounds_toArray, List.set_cons_zero, List.set_cons_succ]
            refine wpAnyH_take (i := 2) (oi := { dst := some 91, op := Op.indexAddr 44 (Operand.tmp 89) (Operand.tmp 90), type := 0, pos := "outright.go:179", after := #[{ on := 0, ground := Ground.data }, { on := 1, ground := Ground.data }], guard := none }) (v := ?_) rfl (by kernel_rfl) (by kernel_rfl) (by kernel_rfl) (fun _ _ _ h => h) (Or.inl ⟨by rfl, ?_⟩) (by assumption) ?_
            rotate_left
            · (intro w hSw; (try dsimp only at hSw); go_simp; try with_reducible rfl)
            try simp only [Act.put, List.setIfInBounds_toArray, List.set_cons_zero, List.set_cons_succ]
            refine wpAnyH_take (i := 3) (oi := { dst := some 92, op := Op.fieldAddr 47 (Operand.tmp 91) 1, type := 0, pos := "outright.go:179", after := #[{ on := 2, ground := Ground.data }], guard := none }) (v := ?_) rfl (by kernel_rfl) (by kernel_rfl) (by kernel_rfl) (fun _ _ _ h => h) (Or.inl ⟨by rfl, ?_⟩) (by assumption) ?_
            rotate_left
            · (intro w hSw; (try dsimp only at hSw); go_simp; try with_reducible rfl)
            try simp only [Act.put, List.setIfInBounds_toArray, List.set_cons_zero, List.set_cons_succ]
            refine wpAnyH_take (i := 4) (oi := { dst := some 93, op := Op.load 9 (Operand.tmp 92), type := 9, pos := "outright.go:179", after := #[{ on := 3, ground := Ground.data }], guard := none }) (v := ?_) rfl (by kernel_rfl) (by kernel_rfl) (by kernel_rfl) (fun _ _ _ h => h) (Or.inl ⟨by rfl, ?_⟩) (by assumption) ?_
            rotate_left
            · (intro w hSw; (try dsimp only at hSw); go_simp; try with_reducible rfl)
            try simp only [Act.put, List.setIfInBounds_toArray, List.set_cons_zero, List.set_cons_succ]
            refine wpAnyH_take (i := 5) (oi := { dst := some 94, op := Op.move (Operand.tmp 13), type := 9, pos := "outright.go:179", after := #[], guard := none }) (v := ?_) rfl (by kernel_rfl) (by kernel_rfl) (by kernel_rfl) (fun _ _ _ h => h) (Or.inl ⟨by rfl, ?_⟩) (by assumption) ?_
            rotate_left
            · (intro w hSw; (try dsimp only at hSw); go_simp; try with_reducible rfl)
            try simp only [Act.put, List.setIfInBounds_toArray, List.set_cons_zero, List.set_cons_succ]
            refine wpAnyH_take (i := 6) (oi := { dst := some 95, op := Op.binOp BinOp.neq 9 (Operand.tmp 93) (Operand.tmp 94) 9, type := 4, pos := "outright.go:179", after := #[{ on := 4, ground := Ground.data }, { on := 5, ground := Ground.data }], guard := none }) (v := ?_) rfl (by kernel_rfl) (by kernel_rfl) (by kernel_rfl) (fun _ _ _ h => h) (Or.inl ⟨by rfl, ?_⟩) (by assumption) ?_
            rotate_left
            · (intro w hSw; (try dsimp only at hSw); go_simp; try with_reducible rfl)
            try simp only [Act.put, List.setIfInBounds_toArray, List.set_cons_zero, List.set_cons_succ]
            refine wpAnyH_take (i := 7) (oi := { dst := some 96, op := Op.move (Operand.tmp 95), type := 4, pos := "outright.go:179", after := #[{ on := 6, ground := Ground.data }], guard := none }) (v := ?_) rfl (by kernel_rfl) (by kernel_rfl) (by kernel_rfl) (fun _ _ _ h => h) (Or.inl ⟨by rfl, ?_⟩) (by assumption) ?_
            rotate_left
            · (intro w hSw; (try dsimp only at hSw); go_simp; try with_reducible rfl)
            try simp only [Act.put, List.setIfInBounds_toArray, List.set_cons_zero, List.set_cons_succ]
            refine wpAnyH_take (i := 8) (oi := { dst := some 97, op := Op.move (Operand.tmp 5), type := 44, pos := "outright.go:179", after := #[{ on := 7, ground := Ground.guard }], guard := some (7, false) }) (v := ?_) rfl (by kernel_rfl) (by kernel_rfl) (by kernel_rfl) (fun _ _ _ h => h) (Or.inl ⟨by rfl, ?_⟩) (by assumption) ?_
            rotate_left
            · (intro w hSw; (try dsimp only at hSw); go_simp; try with_reducible rfl)
            try simp only [Act.put, List.setIfInBounds_toArray, List.set_cons_zero, List.set_cons_succ]
            refine wpAnyH_take (i := 9) (oi := { dst := some 98, op := Op.move (Operand.tmp 12), type := 3, pos := "outright.go:179", after := #[{ on := 7, ground := Ground.guard }], guard := some (7, false) }) (v := ?_) rfl (by kernel_rfl) (by kernel_rfl) (by kernel_rfl) (fun _ _ _ h => h) (Or.inl ⟨by rfl, ?_⟩) (by assumption) ?_
            rotate_left
            · (intro w hSw; (try dsimp only at hSw); go_simp; try with_reducible rfl)
            try simp only [Act.put, List.setIfInBounds_toArray, List.set_cons_zero, List.set_cons_succ]
            refine wpAnyH_take (i := 10) (oi := { dst := some 99, op := Op.indexAddr 44 (Operand.tmp 97) (Operand.tmp 98), type := 0, pos := "outright.go:179", after := #[{ on := 8, ground := Ground.data }, { on := 9, ground := Ground.data }, { on := 7, ground := Ground.guard }], guard := some (7, false) }) (v := ?_) rfl (by kernel_rfl) (by kernel_rfl) (by kernel_rfl) (fun _ _ _ h => h) (Or.inl ⟨by rfl, ?_⟩) (by assumption) ?_
            rotate_left
            · (intro w hSw; (try dsimp only at hSw); go_simp; try with_reducible rfl)
            try simp only [Act.put, List.setIfInBounds_toArray, List.set_cons_zero, List.set_cons_succ]
            refine wpAnyH_take (i := 11) (oi := { dst := some 100, op := Op.fieldAddr 47 (Operand.tmp 99) 3, type := 0, pos := "outright.go:179", after := #[{ on := 10, ground := Ground.data }, { on := 7, ground := Ground.guard }], guard := some (7, false) }) (v := ?_) rfl (by kernel_rfl) (by kernel_rfl) (by kernel_rfl) (fun _ _ _ h => h) (Or.inl ⟨by rfl, ?_⟩) (by assumption) ?_
            rotate_left
            · (intro w hSw; (try dsimp only at hSw); go_simp; try with_reducible rfl)
            try simp only [Act.put, List.setIfInBounds_toArray, List.set_cons_zero, List.set_cons_succ]
            refine wpAnyH_take (i := 12) (oi := { dst := some 101, op := Op.load 4 (Operand.tmp 100), type := 4, pos := "outright.go:179", after := #[{ on := 11, ground := Ground.data }, { on := 7, ground := Ground.guard }], guard := some (7, false) }) (v := ?_) rfl (by kernel_rfl) (by kernel_rfl) (by kernel_rfl) (fun _ _ _ h => h) (Or.inl ⟨by rfl, ?_⟩) (by assumption) ?_
            rotate_left
            · (intro w hSw; (try dsimp only at hSw); go_simp; try with_reducible rfl)
            try simp only [Act.put, List.setIfInBounds_toArray, List.set_cons_zero, List.set_cons_succ]
            refine wpAnyH_take (i := 13) (oi := { dst := some 102, op := Op.move (Operand.tmp 14), type := 4, pos := "outright.go:179", after := #[{ on := 7, ground := Ground.guard }], guard := some (7, false) }) (v := ?_) rfl (by kernel_rfl) (by kernel_rfl) (by kernel_rfl) (fun _ _ _ h => h) (Or.inl ⟨by rfl, ?_⟩) (by assumption) ?_
            rotate_left
            · (intro w hSw; (try dsimp only at hSw); go_simp; try with_reducible rfl)
            try simp only [Act.put, List.setIfInBounds_toArray, List.set_cons_zero, List.set_cons_succ]
            refine wpAnyH_take (i := 14) (oi := { dst := some 103, op := Op.binOp BinOp.neq 4 (Operand.tmp 101) (Operand.tmp 102) 4, type := 4, pos := "outright.go:179", after := #[{ on := 12, ground := Ground.data }, { on := 13, ground := Ground.data }, { on := 7, ground := Ground.guard }], guard := some (7, false) }) (v := ?_) rfl (by kernel_rfl) (by kernel_rfl) (by kernel_rfl) (fun _ _ _ h => h) (Or.inl ⟨by rfl, ?_⟩) (by assumption) ?_
            rotate_left
            · (intro w hSw; (try dsimp only at hSw); go_simp; try with_reducible rfl)
            try simp only [Act.put, List.setIfInBounds_toArray, List.set_cons_zero, List.set_cons_succ]
            refine wpAnyH_take (i := 15) (oi := { dst := some 104, op := Op.pick (Operand.tmp 96) (Operand.const (Value.bool true)) (Operand.tmp 103), type := 4, pos := "outright.go:179", after := #[{ on := 7, ground := Ground.data }, { on := 14, ground := Ground.data }], guard := none }) (v := ?_) rfl (by kernel_rfl) (by kernel_rfl) (by kernel_rfl) (fun _ _ _ h => h) (Or.inl ⟨by rfl, ?_⟩) (by assumption) ?_
            rotate_left
            · (intro w hSw; (try dsimp only at hSw); go_simp; try with_reducible rfl)
            try simp only [Act.put, List.setIfInBounds_toArray, List.set_cons_zero, List.set_cons_succ]
            refine wpAnyH_take (i := 16) (oi := { dst := some 105, op := Op.move (Operand.tmp 104), type := 4, pos := "outright.go:179", after := #[{ on := 15, ground := Ground.data }, { on := 7, ground := Ground.chain }], guard := none }) (v := ?_) rfl (by kernel_rfl) (by kernel_rfl) (by kernel_rfl) (fun _ _ _ h => h) (Or.inl ⟨by rfl, ?_⟩) (by assumption) ?_
            rotate_left
            · (intro w hSw; (try dsimp only at hSw); go_simp; try with_reducible rfl)
            try simp only [Act.put, List.setIfInBounds_toArray, List.set_cons_zero, List.set_cons_succ]
            refine wpAnyH_take (i := 17) (oi := { dst := some 106, op := Op.move (Operand.tmp 5), type := 44, pos := "outright.go:179", after := #[{ on := 16, ground := Ground.guard }], guard := some (16, false) }) (v := ?_) rfl (by kernel_rfl) (by kernel_rfl) (by kernel_rfl) (fun _ _ _ h => h) (Or.inl ⟨by rfl, ?_⟩) (by assumption) ?_
            rotate_left
            · (intro w hSw; (try dsimp only at hSw); go_simp; try with_reducible rfl)
            try simp only [Act.put, List.setIfInBounds_toArray, List.set_cons_zero, List.set_cons_succ]
            refine wpAnyH_take (i := 18) (oi := { dst := some 107, op := Op.move (Operand.tmp 12), type := 3, pos := "outright.go:179", after := #[{ on := 16, ground := Ground.guard }], guard := some (16, false) }) (v := ?_) rfl (by kernel_rfl) (by kernel_rfl) (by kernel_rfl) (fun _ _ _ h => h) (Or.inl ⟨by rfl, ?_⟩) (by assumption) ?_
            rotate_left
            · (intro w hSw; (try dsimp only at hSw); go_simp; try with_reducible rfl)
            try simp only [Act.put, List.setIfInBounds_toArray, List.set_cons_zero, List.set_cons_succ]
            refine wpAnyH_take (i := 19) (oi := { dst := some 108, op := Op.indexAddr 44 (Operand.tmp 106) (Operand.tmp 107), type := 0, pos := "outright.go:179", after := #[{ on := 17, ground := Ground.data }, { on := 18, ground := Ground.data }, { on := 16, ground := Ground.guard }], guard := some (16, false) }) (v := ?_) rfl (by kernel_rfl) (by kernel_rfl) (by kernel_rfl) (fun _ _ _ h => h) (Or.inl ⟨by rfl, ?_⟩) (by assumption) ?_
            rotate_left
            · (intro w hSw; (try dsimp only at hSw); go_simp; try with_reducible rfl)
            try simp only [Act.put, List.setIfInBounds_toArray, List.set_cons_zero, List.set_cons_succ]
            refine wpAnyH_take (i := 20) (oi := { dst := some 109, op := Op.fieldAddr 47 (Operand.tmp 108) 2, type := 0, pos := "outright.go:179", after := #[{ on := 19, ground := Ground.data }, { on := 16, ground := Ground.guard }], guard := some (16, false) }) (v := ?_) rfl (by kernel_rfl) (by kernel_rfl) (by kernel_rfl) (fun _ _ _ h => h) (Or.inl ⟨by rfl, ?_⟩) (by assumption) ?_
            rotate_left
            · (intro w hSw; (try dsimp only at hSw); go_simp; try with_reducible rfl)
            try simp only [Act.put, List.setIfInBounds_toArray, List.set_cons_zero, List.set_cons_succ]
            refine wpAnyH_take (i := 21) (oi := { dst := some 110, op := Op.load 9 (Operand.tmp 109), type := 9, pos := "outright.go:179", after := #[{ on := 20, ground := Ground.data }, { on := 16, ground := Ground.guard }], guard := some (16, false) }) (v := ?_) rfl (by kernel_rfl) (by kernel_rfl) (by kernel_rfl) (fun _ _ _ h => h) (Or.inl ⟨by rfl, ?_⟩) (by assumption) ?_
            rotate_left
            · (intro w hSw; (try dsimp only at hSw); go_simp; try with_reducible rfl)
            try simp only [Act.put, List.setIfInBounds_toArray, List.set_cons_zero, List.set_cons_succ]
            refine wpAnyH_take (i := 22) (oi := { dst := some 111, op := Op.move (Operand.tmp 15), type := 9, pos := "outright.go:179", after := #[{ on := 16, ground := Ground.guard }], guard := some (16, false) }) (v := ?_) rfl (by kernel_rfl) (by kernel_rfl) (by kernel_rfl) (fun _ _ _ h => h) (Or.inl ⟨by rfl, ?_⟩) (by assumption) ?_
            rotate_left
            · (intro w hSw; (try dsimp only at hSw); go_simp; try with_reducible rfl)
            try simp only [Act.put, List.setIfInBounds_toArray, List.set_cons_zero, List.set_cons_succ]
            refine wpAnyH_take (i := 23) (oi := { dst := some 112, op := Op.binOp BinOp.neq 9 (Operand.tmp 110) (Operand.tmp 111) 9, type := 4, pos := "outright.go:179", after := #[{ on := 21, ground := Ground.data }, { on := 22, ground := Ground.data }, { on := 16, ground := Ground.guard }], guard := some (16, false) }) (v := ?_) rfl (by kernel_rfl) (by kernel_rfl) (by kernel_rfl) (fun _ _ _ h => h) (Or.inl ⟨by rfl, ?_⟩) (by assumption) ?_
            rotate_left
            · (intro w hSw; (try dsimp only at hSw); go_simp; try with_reducible rfl)
            try simp only [Act.put, List.setIfInBounds_toArray, List.set_cons_zero, List.set_cons_succ]
            refine wpAnyH_take (i := 24) (oi := { dst := some 113, op := Op.pick (Operand.tmp 105) (Operand.const (Value.bool true)) (Operand.tmp 112), type := 4, pos := "outright.go:179", after := #[{ on := 16, ground := Ground.data }, { on := 23, ground := Ground.data }], guard := none }) (v := ?_) rfl (by kernel_rfl) (by kernel_rfl) (by kernel_rfl) (fun _ _ _ h => h) (Or.inl ⟨by rfl, ?_⟩) (by assumption) ?_
            rotate_left
            · (intro w hSw; (try dsimp only at hSw); go_simp; try with_reducible rfl)
            try simp only [Act.put, List.setIfInBounds_toArray, List.set_cons_zero, List.set_cons_succ]
            refine wpAnyH_take (i := 25) (oi := { dst := some 114, op := Op.move (Operand.tmp 113), type := 4, pos := "outright.go:179", after := #[{ on := 24, ground := Ground.data }, { on := 16, ground := Ground.chain }], guard := none }) (v := ?_) rfl (by kernel_rfl) (by kernel_rfl) (by kernel_rfl) (fun _ _ _ h => h) (Or.inl ⟨by rfl, ?_⟩) (by assumption) ?_
            rotate_left
            · (intro w hSw; (try dsimp only at hSw); go_simp; try with_reducible rfl)
            try simp only [Act.put, List.setIfInBounds_toArray, List.set_cons_zero, List.set_cons_succ]
            refine wpAnyH_take (i := 26) (oi := { dst := some 115, op := Op.move (Operand.tmp 5), type := 44, pos := "outright.go:179", after := #[{ on := 25, ground := Ground.guard }], guard := some (25, false) }) (v := ?_) rfl (by kernel_rfl) (by kernel_rfl) (by kernel_rfl) (fun _ _ _ h => h) (Or.inl ⟨by rfl, ?_⟩) (by assumption) ?_
            rotate_left
            · (intro w hSw; (try dsimp only at hSw); go_simp; try with_reducible rfl)
            try simp only [Act.put, List.setIfInBounds_toArray, List.set_cons_zero, List.set_cons_succ]
            refine wpAnyH_take (i := 27) (oi := { dst := some 116, op := Op.move (Operand.tmp 12), type := 3, pos := "outright.go:179", after := #[{ on := 25, ground := Ground.guard }], guard := some (25, false) }) (v := ?_) rfl (by kernel_rfl) (by kernel_rfl) (by kernel_rfl) (fun _ _ _ h => h) (Or.inl ⟨by rfl, ?_⟩) (by assumption) ?_
            rotate_left
            · (intro w hSw; (try dsimp only at hSw); go_simp; try with_reducible rfl)
            try simp only [Act.put, List.setIfInBounds_toArray, List.set_cons_zero, List.set_cons_succ]
            refine wpAnyH_take (i := 28) (oi := { dst := some 117, op := Op.indexAddr 44 (Operand.tmp 115) (Operand.tmp 116), type := 0, pos := "outright.go:179", after := #[{ on := 26, ground := Ground.data }, { on := 27, ground := Ground.data }, { on := 25, ground := Ground.guard }], guard := some (25, false) }) (v := ?_) rfl (by kernel_rfl) (by kernel_rfl) (by kernel_rfl) (fun _ _ _ h => h) (Or.inl ⟨by rfl, ?_⟩) (by assumption) ?_
            rotate_left
            · (intro w hSw; (try dsimp only at hSw); go_simp; try with_reducible rfl)
            try simp only [Act.put, List.setIfInBounds_toArray, List.set_cons_zero, List.set_cons_succ]
            refine wpAnyH_take (i := 29) (oi := { dst := some 118, op := Op.fieldAddr 47 (Operand.tmp 117) 4, type := 0, pos := "outright.go:179", after := #[{ on := 28, ground := Ground.data }, { on := 25, ground := Ground.guard }], guard := some (25, false) }) (v := ?_) rfl (by kernel_rfl) (by kernel_rfl) (by kernel_rfl) (fun _ _ _ h => h) (Or.inl ⟨by rfl, ?_⟩) (by assumption) ?_
            rotate_left
            · (intro w hSw; (try dsimp only at hSw); go_simp; try with_reducible rfl)
            try simp only [Act.put, List.setIfInBounds_toArray, List.set_cons_zero, List.set_cons_succ]
            refine wpAnyH_take (i := 30) (oi := { dst := some 119, op := Op.load 4 (Operand.tmp 118), type := 4, pos := "outright.go:179", after := #[{ on := 29, ground := Ground.data }, { on := 25, ground := Ground.guard }], guard := some (25, false) }) (v := ?_) rfl (by kernel_rfl) (by kernel_rfl) (by kernel_rfl) (fun _ _ _ h => h) (Or.inl ⟨by rfl, ?_⟩) (by assumption) ?_
            rotate_left
            · (intro w hSw; (try dsimp only at hSw); go_simp; try with_reducible rfl)
            try simp only [Act.put, List.setIfInBounds_toArray, List.set_cons_zero, List.set_cons_succ]
            refine wpAnyH_take (i := 31) (oi := { dst := some 120, op := Op.move (Operand.tmp 16), type := 4, pos := "outright.go:179", after := #[{ on := 25, ground := Ground.guard }], guard := some (25, false) }) (v := ?_) rfl (by kernel_rfl) (by kernel_rfl) (by kernel_rfl) (fun _ _ _ h => h) (Or.inl ⟨by rfl, ?_⟩) (by assumption) ?_
            rotate_left
            · (intro w hSw; (try dsimp only at hSw); go_simp; try with_reducible rfl)
            try simp only [Act.put, List.setIfInBounds_toArray, List.set_cons_zero, List.set_cons_succ]
            refine wpAnyH_take (i := 32) (oi := { dst := some 121, op := Op.binOp BinOp.neq 4 (Operand.tmp 119) (Operand.tmp 120) 4, type := 4, pos := "outright.go:179", after := #[{ on := 30, ground := Ground.data }, { on := 31, ground := Ground.data }, { on := 25, ground := Ground.guard }], guard := some (25, false) }) (v := ?_) rfl (by kernel_rfl) (by kernel_rfl) (by kernel_rfl) (fun _ _ _ h => h) (Or.inl ⟨by rfl, ?_⟩) (by assumption) ?_
            rotate_left
            · (intro w hSw; (try dsimp only at hSw); go_simp; try with_reducible rfl)
            try simp only [Act.put, List.setIfInBounds_toArray, List.set_cons_zero, List.set_cons_succ]
            refine wpAnyH_take (i := 33) (oi := { dst := some 122, op := Op.pick (Operand.tmp 114) (Operand.const (Value.bool true)) (Operand.tmp 121), type := 4, pos := "outright.go:179", after := #[{ on := 25, ground := Ground.data }, { on := 32, ground := Ground.data }], guard := none }) (v := ?_) rfl (by kernel_rfl) (by kernel_rfl) (by kernel_rfl) (fun _ _ _ h => h) (Or.inl ⟨by rfl, ?_⟩) (by assumption) ?_
            rotate_left
            · (intro w hSw; (try dsimp only at hSw); go_simp; try with_reducible rfl)
            try simp only [Act.put, List.setIfInBounds_toArray, List.set_cons_zero, List.set_cons_succ]
            refine wpAnyH_take (i := 34) (oi := { dst := some 123, op := Op.move (Operand.tmp 122), type := 4, pos := "outright.go:179", after := #[{ on := 33, ground := Ground.data }, { on := 25, ground := Ground.chain }], guard := none }) (v := ?_) rfl (by kernel_rfl) (by kernel_rfl) (by kernel_rfl) (fun _ _ _ h => h) (Or.inl ⟨by rfl, ?_⟩) (by assumption) ?_
            rotate_left
            · (intro w hSw; (try dsimp only at hSw); go_simp; try with_reducible rfl)
            try simp only [Act.put, List.setIfInBounds_toArray, List.set_cons_zero, List.set_cons_succ]
            refine wpAnyH_take (i := 35) (oi := { dst := some 124, op := Op.move (Operand.tmp 14), type := 4, pos := "outright.go:179", after := #[{ on := 34, ground := Ground.guard }], guard := some (34, false) }) (v := ?_) rfl (by kernel_rfl) (by kernel_rfl) (by kernel_rfl) (fun _ _ _ h => h) (Or.inl ⟨by rfl, ?_⟩) (by assumption) ?_
            rotate_left
            · (intro w hSw; (try dsimp only at hSw); go_simp; try with_reducible rfl)
            try simp only [Act.put, List.setIfInBounds_toArray, List.set_cons_zero, List.set_cons_succ]
            refine wpAnyH_take (i := 36) (oi := { dst := some 125, op := Op.move (Operand.tmp 16), type := 4, pos := "outright.go:179", after := #[{ on := 34, ground := Ground.guard }], guard := some (34, false) }) (v := ?_) rfl (by kernel_rfl) (by kernel_rfl) (by kernel_rfl) (fun _ _ _ h => h) (Or.inl ⟨by rfl, ?_⟩) (by assumption) ?_
            rotate_left
            · (intro w hSw; (try dsimp only at hSw); go_simp; try with_reducible rfl)
            try simp only [Act.put, List.setIfInBounds_toArray, List.set_cons_zero, List.set_cons_succ]
            by_cases hq : dh = ds
            · subst hq
              have hne : (dO.toList == dn.toList) = false := by simp; exact fun h => HFd.out rfl (bytes_ext h)
              refine wpAnyH_take (i := 37) (oi := { dst := some 126, op := Op.binOp BinOp.eql 4 (Operand.tmp 124) (Operand.tmp 125) 4, type := 4, pos := "outright.go:179", after := #[{ on := 35, ground := Ground.data }, { on := 36, ground := Ground.data }, { on := 34, ground := Ground.guard }], guard := some (34, false) }) (v := ?_) rfl (by kernel_rfl) (by kernel_rfl) (by kernel_rfl) (fun _ _ _ h => h) (Or.inl ⟨by rfl, ?_⟩) (by assumption) ?_
              rotate_left
              · (intro w hSw; (try dsimp only at hSw); go_simp; try with_reducible rfl)
              try simp only [Act.put, List.setIfInBounds_toArray, List.set_cons_zero, List.set_cons_succ]
              refine wpAnyH_take (i := 38) (oi := { dst := some 127, op := Op.move (Operand.tmp 126), type := 4, pos := "outright.go:179", after := #[{ on := 37, ground := Ground.data }, { on := 34, ground := Ground.chain }, { on := 34, ground := Ground.guard }], guard := some (34, false) }) (v := ?_) rfl (by kernel_rfl) (by kernel_rfl) (by kernel_rfl) (fun _ _ _ h => h) (Or.inl ⟨by rfl, ?_⟩) (by assumption) ?_
              rotate_left
              · (intro w hSw; (try dsimp only at hSw); go_simp; try with_reducible rfl)
              try simp only [Act.put, List.setIfInBounds_toArray, List.set_cons_zero, List.set_cons_succ]
              refine wpAnyH_take (i := 39) (oi := { dst := some 128, op := Op.move (Operand.tmp 13), type := 9, pos := "outright.go:179", after := #[{ on := 38, ground := Ground.guard }], guard := some (38, true) }) (v := ?_) rfl (by kernel_rfl) (by kernel_rfl) (by kernel_rfl) (fun _ _ _ h => h) (Or.inl ⟨by rfl, ?_⟩) (by assumption) ?_
              rotate_left
              · (intro w hSw; (try dsimp only at hSw); go_simp; try with_reducible rfl)
              try simp only [Act.put, List.setIfInBounds_toArray, List.set_cons_zero, List.set_cons_succ]
              refine wpAnyH_take (i := 40) (oi := { dst := some 129, op := Op.move (Operand.tmp 15), type := 9, pos := "outright.go:179", after := #[{ on := 38, ground := Ground.guard }], guard := some (38, true) }) (v := ?_) rfl (by kernel_rfl) (by kernel_rfl) (by kernel_rfl) (fun _ _ _ h => h) (Or.inl ⟨by rfl, ?_⟩) (by assumption) ?_
              rotate_left
              · (intro w hSw; (try dsimp only at hSw); go_simp; try with_reducible rfl)
              try simp only [Act.put, List.setIfInBounds_toArray, List.set_cons_zero, List.set_cons_succ]
              refine wpAnyH_take (i := 41) (oi := { dst := some 130, op := Op.binOp BinOp.eql 9 (Operand.tmp 128) (Operand.tmp 129) 9, type := 4, pos := "outright.go:179", after := #[{ on := 39, ground := Ground.data }, { on := 40, ground := Ground.data }, { on := 38, ground := Ground.guard }], guard := some (38, true) }) (v := ?_) rfl (by kernel_rfl) (by kernel_rfl) (by kernel_rfl) (fun _ _ _ h => h) (Or.inl ⟨by rfl, ?_⟩) (by assumption) ?_
              rotate_left
              · (intro w hSw; (try dsimp only at hSw); go_simp; try with_reducible rfl)
              try simp only [Act.put, List.setIfInBounds_toArray, List.set_cons_zero, List.set_cons_succ]
              refine wpAnyH_take (i := 42) (oi := { dst := some 131, op := Op.pick (Operand.tmp 127) (Operand.tmp 130) (Operand.const (Value.bool false)), type := 4, pos := "outright.go:179", after := #[{ on := 38, ground := Ground.data }, { on := 41, ground := Ground.data }, { on := 34, ground := Ground.guard }], guard := some (34, false) }) (v := ?_) rfl (by kernel_rfl) (by kernel_rfl) (by kernel_rfl) (fun _ _ _ h => h) (Or.inl ⟨by rfl, ?_⟩) (by assumption) ?_
              rotate_left
              · (intro w hSw; (try dsimp only at hSw); go_simp; try with_reducible rfl)
              try simp only [Act.put, List.setIfInBounds_toArray, List.set_cons_zero, List.set_cons_succ]
              refine wpAnyH_take (i := 43) (oi := { dst := some 132, op := Op.pick (Operand.tmp 123) (Operand.const (Value.bool true)) (Operand.tmp 131), type := 4, pos := "outright.go:179", after := #[{ on := 34, ground := Ground.data }, { on := 42, ground := Ground.data }], guard := none }) (v := ?_) rfl (by kernel_rfl) (by kernel_rfl) (by kernel_rfl) (fun _ _ _ h => h) (Or.inl ⟨by rfl, ?_⟩) (by assumption) ?_
              rotate_left
              · (intro w hSw; (try dsimp only at hSw); go_simp; try with_reducible rfl)
              try simp only [Act.put, List.setIfInBounds_toArray, List.set_cons_zero, List.set_cons_succ]
              refine wpAnyH_take (i := 44) (oi := { dst := some 133, op := Op.move (Operand.tmp 132), type := 4, pos := "outright.go:179", after := #[{ on := 43, ground := Ground.data }, { on := 38, ground := Ground.chain }], guard := none }) (v := ?_) rfl (by kernel_rfl) (by kernel_rfl) (by kernel_rfl) (fun _ _ _ h => h) (Or.inl ⟨by rfl, ?_⟩) (by assumption) ?_
              rotate_left
              · (intro w hSw; (try dsimp only at hSw); go_simp; try with_reducible rfl)
              try simp only [Act.put, List.setIfInBounds_toArray, List.set_cons_zero, List.set_cons_succ]
              refine wpAnyH_take (i := 45) (oi := { dst := some 134, op := Op.move (Operand.tmp 12), type := 3, pos := "outright.go:179", after := #[{ on := 44, ground := Ground.guard }], guard := some (44, false) }) (v := ?_) rfl (by kernel_rfl) (by kernel_rfl) (by kernel_rfl) (fun _ _ _ h => h) (Or.inl ⟨by rfl, ?_⟩) (by assumption) ?_
              rotate_left
              · (intro w hSw; (try dsimp only at hSw); go_simp; try with_reducible rfl)
              try simp only [Act.put, List.setIfInBounds_toArray, List.set_cons_zero, List.set_cons_succ]
              refine wpAnyH_take (i := 46) (oi := { dst := some 135, op := Op.binOp BinOp.gtr 3 (Operand.tmp 134) (Operand.const (Value.int IntKind.i64 0)) 3, type := 4, pos := "outright.go:179", after := #[{ on := 45, ground := Ground.data }, { on := 44, ground := Ground.guard }], guard := some (44, false) }) (v := ?_) rfl (by kernel_rfl) (by kernel_rfl) (by kernel_rfl) (fun _ _ _ h => h) (Or.inl ⟨by rfl, ?_⟩) (by assumption) ?_
              rotate_left
              · (intro w hSw; (try dsimp only at hSw); go_simp; try with_reducible rfl)
              try simp only [Act.put, List.setIfInBounds_toArray, List.set_cons_zero, List.set_cons_succ]
              refine wpAnyH_take (i := 47) (oi := { dst := some 136, op := Op.move (Operand.tmp 135), type := 4, pos := "outright.go:179", after := #[{ on := 46, ground := Ground.data }, { on := 44, ground := Ground.chain }, { on := 44, ground := Ground.guard }], guard := some (44, false) }) (v := ?_) rfl (by kernel_rfl) (by kernel_rfl) (by kernel_rfl) (fun _ _ _ h => h) (Or.inl ⟨by rfl, ?_⟩) (by assumption) ?_
              rotate_left
              · (intro w hSw; (try dsimp only at hSw); go_simp; try with_reducible rfl)
              try simp only [Act.put, List.setIfInBounds_toArray, List.set_cons_zero, List.set_cons_succ]
              refine wpAnyH_take (i := 48) (oi := { dst := some 137, op := Op.move (Operand.tmp 5), type := 44, pos := "outright.go:179", after := #[{ on := 47, ground := Ground.guard }], guard := some (47, true) }) (v := ?_) rfl (by kernel_rfl) (by kernel_rfl) (by kernel_rfl) (fun _ _ _ h => h) (Or.inl ⟨by rfl, ?_⟩) (by assumption) ?_
              rotate_left
              · (intro w hSw; (try dsimp only at hSw); go_simp; try with_reducible rfl)
              try simp only [Act.put, List.setIfInBounds_toArray, List.set_cons_zero, List.set_cons_succ]
              refine wpAnyH_take (i := 49) (oi := { dst := some 138, op := Op.move (Operand.tmp 12), type := 3, pos := "outright.go:179", after := #[{ on := 47, ground := Ground.guard }], guard := some (47, true) }) (v := ?_) rfl (by kernel_rfl) (by kernel_rfl) (by kernel_rfl) (fun _ _ _ h => h) (Or.inl ⟨by rfl, ?_⟩) (by assumption) ?_
              rotate_left
              · (intro w hSw; (try dsimp only at hSw); go_simp; try with_reducible rfl)
              try simp only [Act.put, List.setIfInBounds_toArray, List.set_cons_zero, List.set_cons_succ]
              refine wpAnyH_take (i := 50) (oi := { dst := some 139, op := Op.indexAddr 44 (Operand.tmp 137) (Operand.tmp 138), type := 0, pos := "outright.go:179", after := #[{ on := 48, ground := Ground.data }, { on := 49, ground := Ground.data }, { on := 47, ground := Ground.guard }], guard := some (47, true) }) (v := ?_) rfl (by kernel_rfl) (by kernel_rfl) (by kernel_rfl) (fun _ _ _ h => h) (Or.inl ⟨by rfl, ?_⟩) (by assumption) ?_
              rotate_left
              · (intro w hSw; (try dsimp only at hSw); go_simp; try with_reducible rfl)
              try simp only [Act.put, List.setIfInBounds_toArray, List.set_cons_zero, List.set_cons_succ]
              refine wpAnyH_take (i := 51) (oi := { dst := some 140, op := Op.fieldAddr 47 (Operand.tmp 139) 0, type := 0, pos := "outright.go:179", after := #[{ on := 50, ground := Ground.data }, { on := 47, ground := Ground.guard }], guard := some (47, true) }) (v := ?_) rfl (by kernel_rfl) (by kernel_rfl) (by kernel_rfl) (fun _ _ _ h => h) (Or.inl ⟨by rfl, ?_⟩) (by assumption) ?_
              rotate_left
              · (intro w hSw; (try dsimp only at hSw); go_simp; try with_reducible rfl)
              try simp only [Act.put, List.setIfInBounds_toArray, List.set_cons_zero, List.set_cons_succ]
              refine wpAnyH_take (i := 52) (oi := { dst := some 141, op := Op.load 9 (Operand.tmp 140), type := 9, pos := "outright.go:179", after := #[{ on := 51, ground := Ground.data }, { on := 47, ground := Ground.guard }], guard := some (47, true) }) (v := ?_) rfl (by kernel_rfl) (by kernel_rfl) (by kernel_rfl) (fun _ _ _ h => h) (Or.inl ⟨by rfl, ?_⟩) (by assumption) ?_
              rotate_left
              · (intro w hSw; (try dsimp only at hSw); go_simp; try with_reducible rfl)
              try simp only [Act.put, List.setIfInBounds_toArray, List.set_cons_zero, List.set_cons_succ]
              refine wpAnyH_take (i := 53) (oi := { dst := some 142, op := Op.move (Operand.tmp 5), type := 44, pos := "outright.go:179", after := #[{ on := 47, ground := Ground.guard }], guard := some (47, true) }) (v := ?_) rfl (by kernel_rfl) (by kernel_rfl) (by kernel_rfl) (fun _ _ _ h => h) (Or.inl ⟨by rfl, ?_⟩) (by assumption) ?_
              rotate_left
              · (intro w hSw; (try dsimp only at hSw); go_simp; try with_reducible rfl)
              try simp only [Act.put, List.setIfInBounds_toArray, List.set_cons_zero, List.set_cons_succ]
              refine wpAnyH_take (i := 54) (oi := { dst := some 143, op := Op.move (Operand.tmp 12), type := 3, pos := "outright.go:179", after := #[{ on := 47, ground := Ground.guard }], guard := some (47, true) }) (v := ?_) rfl (by kernel_rfl) (by kernel_rfl) (by kernel_rfl) (fun _ _ _ h => h) (Or.inl ⟨by rfl, ?_⟩) (by assumption) ?_
              rotate_left
              · (intro w hSw; (try dsimp only at hSw); go_simp; try with_reducible rfl)
              try simp only [Act.put, List.setIfInBounds_toArray, List.set_cons_zero, List.set_cons_succ]
              refine wpAnyH_take (i := 55) (oi := { dst := some 144, op := Op.binOp BinOp.sub 3 (Operand.tmp 143) (Operand.const (Value.int IntKind.i64 1)) 3, type := 3, pos := "outright.go:179", after := #[{ on := 54, ground := Ground.data }, { on := 47, ground := Ground.guard }], guard := some (47, true) }) (v := ?_) rfl (by kernel_rfl) (by kernel_rfl) (by kernel_rfl) (fun _ _ _ h => h) (Or.inl ⟨by rfl, ?_⟩) (by assumption) ?_
              rotate_left
              · (intro w hSw; (try dsimp only at hSw); go_simp; try with_reducible rfl)
              try simp only [Act.put, List.setIfInBounds_toArray, List.set_cons_zero, List.set_cons_succ]
              refine wpAnyH_take (i := 56) (oi := { dst := some 145, op := Op.indexAddr 44 (Operand.tmp 142) (Operand.tmp 144), type := 0, pos := "outright.go:179", after := #[{ on := 53, ground := Ground.data }, { on := 55, ground := Ground.data }, { on := 47, ground := Ground.guard }], guard := some (47, true) }) (v := ?_) rfl (by kernel_rfl) (by kernel_rfl) (by kernel_rfl) (fun _ _ _ h => h) (Or.inl ⟨by rfl, ?_⟩) (by assumption) ?_
              rotate_left
              · (intro w hSw; (try dsimp only at hSw); go_simp; try with_reducible rfl)
              try simp only [Act.put, List.setIfInBounds_toArray, List.set_cons_zero, List.set_cons_succ]
              refine wpAnyH_take (i := 57) (oi := { dst := some 146, op := Op.fieldAddr 47 (Operand.tmp 145) 0, type := 0, pos := "outright.go:179", after := #[{ on := 56, ground := Ground.data }, { on := 47, ground := Ground.guard }], guard := some (47, true) }) (v := ?_) rfl (by kernel_rfl) (by kernel_rfl) (by kernel_rfl) (fun _ _ _ h => h) (Or.inl ⟨by rfl, ?_⟩) (by assumption) ?_
              rotate_left
              · (intro w hSw; (try dsimp only at hSw); go_simp; try with_reducible rfl)
              try simp only [Act.put, List.setIfInBounds_toArray, List.set_cons_zero, List.set_cons_succ]
              refine wpAnyH_take (i := 58) (oi := { dst := some 147, op := Op.load 9 (Operand.tmp 146), type := 9, pos := "outright.go:179", after := #[{ on := 57, ground := Ground.data }, { on := 47, ground := Ground.guard }], guard := some (47, true) }) (v := ?_) rfl (by kernel_rfl) (by kernel_rfl) (by kernel_rfl) (fun _ _ _ h => h) (Or.inl ⟨by rfl, ?_⟩) (by assumption) ?_
              rotate_left
              · (intro w hSw; (try dsimp only at hSw); go_simp; try with_reducible rfl)
              try simp only [Act.put, List.setIfInBounds_toArray, List.set_cons_zero, List.set_cons_succ]
              refine wpAnyH_take (i := 59) (oi := { dst := some 148, op := Op.binOp BinOp.leq 9 (Operand.tmp 141) (Operand.tmp 147) 9, type := 4, pos := "outright.go:179", after := #[{ on := 52, ground := Ground.data }, { on := 58, ground := Ground.data }, { on := 47, ground := Ground.guard }], guard := some (47, true) }) (v := ?_) rfl (by kernel_rfl) (by kernel_rfl) (by kernel_rfl) (fun _ _ _ h => h) (Or.inl ⟨by rfl, ?_⟩) (by assumption) ?_
              rotate_left
              · (intro w hSw; (try dsimp only at hSw); go_simp; try with_reducible rfl)
              try simp only [Act.put, List.setIfInBounds_toArray, List.set_cons_zero, List.set_cons_succ]
              refine wpAnyH_take (i := 60) (oi := { dst := some 149, op := Op.pick (Operand.tmp 136) (Operand.tmp 148) (Operand.const (Value.bool false)), type := 4, pos := "outright.go:179", after := #[{ on := 47, ground := Ground.data }, { on := 59, ground := Ground.data }, { on := 44, ground := Ground.guard }], guard := some (44, false) }) (v := ?_) rfl (by kernel_rfl) (by kernel_rfl) (by kernel_rfl) (fun _ _ _ h => h) (Or.inl ⟨by rfl, ?_⟩) (by assumption) ?_
              rotate_left
              · (intro w hSw; (try dsimp only at hSw); go_simp; try with_reducible rfl)
              try simp only [Act.put, List.setIfInBounds_toArray, List.set_cons_zero, List.set_cons_succ]
              refine wpAnyH_take (i := 61) (oi := { dst := some 150, op := Op.pick (Operand.tmp 133) (Operand.const (Value.bool true)) (Operand.tmp 149), type := 4, pos := "outright.go:179", after := #[{ on := 44, ground := Ground.data }, { on := 60, ground := Ground.data }], guard := none }) (v := ?_) rfl (by kernel_rfl) (by kernel_rfl) (by kernel_rfl) (fun _ _ _ h => h) (Or.inl ⟨by rfl, ?_⟩) (by assumption) ?_
              rotate_left
              · (intro w hSw; (try dsimp only at hSw); go_simp; try with_reducible rfl)
              try simp only [Act.put, List.setIfInBounds_toArray, List.set_cons_zero, List.set_cons_succ]
              refine wpAnyH_done (by kernel_rfl) ?_ _
              go_wp2_with fail
              exact ⟨⟨j + 1 + 1, by omega, by go_num, hid D4.out.drew⟩, by simp [intOf]; omega⟩
            · have hq2 : (dh == ds) = false := by simpa using hq
              clear hq
              refine wpAnyH_take (i := 37) (oi := { dst := some 126, op := Op.binOp BinOp.eql 4 (Operand.tmp 124) (Operand.tmp 125) 4, type := 4, pos := "outright.go:179", after := #[{ on := 35, ground := Ground.data }, { on := 36, ground := Ground.data }, { on := 34, ground := Ground.guard }], guard := some (34, false) }) (v := ?_) rfl (by kernel_rfl) (by kernel_rfl) (by kernel_rfl) (fun _ _ _ h => h) (Or.inl ⟨by rfl, ?_⟩) (by assumption) ?_
              rotate_left
              · (intro w hSw; (try dsimp only at hSw); go_simp; try with_reducible rfl)
              try simp only [Act.put, List.setIfInBounds_toArray, List.set_cons_zero, List.set_cons_succ]
              refine wpAnyH_take (i := 38) (oi := { dst := some 127, op := Op.move (Operand.tmp 126), type := 4, pos := "outright.go:179", after := #[{ on := 37, ground := Ground.data }, { on := 34, ground := Ground.chain }, { on := 34, ground := Ground.guard }], guard := some (34, false) }) (v := ?_) rfl (by kernel_rfl) (by kernel_rfl) (by kernel_rfl) (fun _ _ _ h => h) (Or.inl ⟨by rfl, ?_⟩) (by assumption) ?_
              rotate_left
              · (intro w hSw; (try dsimp only at hSw); go_simp; try with_reducible rfl)
              try simp only [Act.put, List.setIfInBounds_toArray, List.set_cons_zero, List.set_cons_succ]
              refine wpAnyH_take (i := 39) (oi := { dst := some 128, op := Op.move (Operand.tmp 13), type := 9, pos := "outright.go:179", after := #[{ on := 38, ground := Ground.guard }], guard := some (38, true) }) (v := undef) rfl (by kernel_rfl) (by kernel_rfl) (by kernel_rfl) (fun _ _ _ h => h) (Or.inr ⟨by rfl, rfl⟩) (by assumption) ?_
              try simp only [Act.put, List.setIfInBounds_toArray, List.set_cons_zero, List.set_cons_succ]
              refine wpAnyH_take (i := 40) (oi := { dst := some 129, op := Op.move (Operand.tmp 15), type := 9, pos := "outright.go:179", after := #[{ on := 38, ground := Ground.guard }], guard := some (38, true) }) (v := undef) rfl (by kernel_rfl) (by kernel_rfl) (by kernel_rfl) (fun _ _ _ h => h) (Or.inr ⟨by rfl, rfl⟩) (by assumption) ?_
              try simp only [Act.put, List.setIfInBounds_toArray, List.set_cons_zero, List.set_cons_succ]
              refine wpAnyH_take (i := 41) (oi := { dst := some 130, op := Op.binOp BinOp.eql 9 (Operand.tmp 128) (Operand.tmp 129) 9, type := 4, pos := "outright.go:179", after := #[{ on := 39, ground := Ground.data }, { on := 40, ground := Ground.data }, { on := 38, ground := Ground.guard }], guard := some (38, true) }) (v := undef) rfl (by kernel_rfl) (by kernel_rfl) (by kernel_rfl) (fun _ _ _ h => h) (Or.inr ⟨by rfl, rfl⟩) (by assumption) ?_
              try simp only [Act.put, List.setIfInBounds_toArray, List.set_cons_zero, List.set_cons_succ]
              refine wpAnyH_take (i := 42) (oi := { dst := some 131, op := Op.pick (Operand.tmp 127) (Operand.tmp 130) (Operand.const (Value.bool false)), type := 4, pos := "outright.go:179", after := #[{ on := 38, ground := Ground.data }, { on := 41, ground := Ground.data }, { on := 34, ground := Ground.guard }], guard := some (34, false) }) (v := ?_) rfl (by kernel_rfl) (by kernel_rfl) (by kernel_rfl) (fun _ _ _ h => h) (Or.inl ⟨by rfl, ?_⟩) (by assumption) ?_
              rotate_left
              · (intro w hSw; (try dsimp only at hSw); go_simp; try with_reducible rfl)
              try simp only [Act.put, List.setIfInBounds_toArray, List.set_cons_zero, List.set_cons_succ]
              refine wpAnyH_take (i := 43) (oi := { dst := some 132, op := Op.pick (Operand.tmp 123) (Operand.const (Value.bool true)) (Operand.tmp 131), type := 4, pos := "outright.go:179", after := #[{ on := 34, ground := Ground.data }, { on := 42, ground := Ground.data }], guard := none }) (v := ?_) rfl (by kernel_rfl) (by kernel_rfl) (by kernel_rfl) (fun _ _ _ h => h) (Or.inl ⟨by rfl, ?_⟩) (by assumption) ?_
              rotate_left
              · (intro w hSw; (try dsimp only at hSw); go_simp; try with_reducible rfl)
              try simp only [Act.put, List.setIfInBounds_toArray, List.set_cons_zero, List.set_cons_succ]
              refine wpAnyH_take (i := 44) (oi := { dst := some 133, op := Op.move (Operand.tmp 132), type := 4, pos := "outright.go:179", after := #[{ on := 43, ground := Ground.data }, { on := 38, ground := Ground.chain }], guard := none }) (v := ?_) rfl (by kernel_rfl) (by kernel_rfl) (by kernel_rfl) (fun _ _ _ h => h) (Or.inl ⟨by rfl, ?_⟩) (by assumption) ?_
              rotate_left
              · (intro w hSw; (try dsimp only at hSw); go_simp; try with_reducible rfl)
              try simp only [Act.put, List.setIfInBounds_toArray, List.set_cons_zero, List.set_cons_succ]
              refine wpAnyH_take (i := 45) (oi := { dst := some 134, op := Op.move (Operand.tmp 12), type := 3, pos := "outright.go:179", after := #[{ on := 44, ground := Ground.guard }], guard := some (44, false) }) (v := ?_) rfl (by kernel_rfl) (by kernel_rfl) (by kernel_rfl) (fun _ _ _ h => h) (Or.inl ⟨by rfl, ?_⟩) (by assumption) ?_
              rotate_left
              · (intro w hSw; (try dsimp only at hSw); go_simp; try with_reducible rfl)
              try simp only [Act.put, List.setIfInBounds_toArray, List.set_cons_zero, List.set_cons_succ]
              refine wpAnyH_take (i := 46) (oi := { dst := some 135, op := Op.binOp BinOp.gtr 3 (Operand.tmp 134) (Operand.const (Value.int IntKind.i64 0)) 3, type := 4, pos := "outright.go:179", after := #[{ on := 45, ground := Ground.data }, { on := 44, ground := Ground.guard }], guard := some (44, false) }) (v := ?_) rfl (by kernel_rfl) (by kernel_rfl) (by kernel_rfl) (fun _ _ _ h => h) (Or.inl ⟨by rfl, ?_⟩) (by assumption) ?_
              rotate_left
              · (intro w hSw; (try dsimp only at hSw); go_simp; try with_reducible rfl)
              try simp only [Act.put, List.setIfInBounds_toArray, List.set_cons_zero, List.set_cons_succ]
              refine wpAnyH_take (i := 47) (oi := { dst := some 136, op := Op.move (Operand.tmp 135), type := 4, pos := "outright.go:179", after := #[{ on := 46, ground := Ground.data }, { on := 44, ground := Ground.chain }, { on := 44, ground := Ground.guard }], guard := some (44, false) }) (v := ?_) rfl (by kernel_rfl) (by kernel_rfl) (by kernel_rfl) (fun _ _ _ h => h) (Or.inl ⟨by rfl, ?_⟩) (by assumption) ?_
              rotate_left
              · (intro w hSw; (try dsimp only at hSw); go_simp; try with_reducible rfl)
              try simp only [Act.put, List.setIfInBounds_toArray, List.set_cons_zero, List.set_cons_succ]
              refine wpAnyH_take (i := 48) (oi := { dst := some 137, op := Op.move (Operand.tmp 5), type := 44, pos := "outright.go:179", after := #[{ on := 47, ground := Ground.guard }], guard := some (47, true) }) (v := ?_) rfl (by kernel_rfl) (by kernel_rfl) (by kernel_rfl) (fun _ _ _ h => h) (Or.inl ⟨by rfl, ?_⟩) (by assumption) ?_
              rotate_left
              · (intro w hSw; (try dsimp only at hSw); go_simp; try with_reducible rfl)
              try simp only [Act.put, List.setIfInBounds_toArray, List.set_cons_zero, List.set_cons_succ]
              refine wpAnyH_take (i := 49) (oi := { dst := some 138, op := Op.move (Operand.tmp 12), type := 3, pos := "outright.go:179", after := #[{ on := 47, ground := Ground.guard }], guard := some (47, true) }) (v := ?_) rfl (by kernel_rfl) (by kernel_rfl) (by kernel_rfl) (fun _ _ _ h => h) (Or.inl ⟨by rfl, ?_⟩) (by assumption) ?_
              rotate_left
              · (intro w hSw; (try dsimp only at hSw); go_simp; try with_reducible rfl)
              try simp only [Act.put, List.setIfInBounds_toArray, List.set_cons_zero, List.set_cons_succ]
              refine wpAnyH_take (i := 50) (oi := { dst := some 139, op := Op.indexAddr 44 (Operand.tmp 137) (Operand.tmp 138), type := 0, pos := "outright.go:179", after := #[{ on := 48, ground := Ground.data }, { on := 49, ground := Ground.data }, { on := 47, ground := Ground.guard }], guard := some (47, true) }) (v := ?_) rfl (by kernel_rfl) (by kernel_rfl) (by kernel_rfl) (fun _ _ _ h => h) (Or.inl ⟨by rfl, ?_⟩) (by assumption) ?_
              rotate_left
              · (intro w hSw; (try dsimp only at hSw); go_simp; try with_reducible rfl)
              try simp only [Act.put, List.setIfInBounds_toArray, List.set_cons_zero, List.set_cons_succ]
              refine wpAnyH_take (i := 51) (oi := { dst := some 140, op := Op.fieldAddr 47 (Operand.tmp 139) 0, type := 0, pos := "outright.go:179", after := #[{ on := 50, ground := Ground.data }, { on := 47, ground := Ground.guard }], guard := some (47, true) }) (v := ?_) rfl (by kernel_rfl) (by kernel_rfl) (by kernel_rfl) (fun _ _ _ h => h) (Or.inl ⟨by rfl, ?_⟩) (by assumption) ?_
              rotate_left
              · (intro w hSw; (try dsimp only at hSw); go_simp; try with_reducible rfl)
              try simp only [Act.put, List.setIfInBounds_toArray, List.set_cons_zero, List.set_cons_succ]
              refine wpAnyH_take (i := 52) (oi := { dst := some 141, op := Op.load 9 (Operand.tmp 140), type := 9, pos := "outright.go:179", after := #[{ on := 51, ground := Ground.data }, { on := 47, ground := Ground.guard }], guard := some (47, true) }) (v := ?_) rfl (by kernel_rfl) (by kernel_rfl) (by kernel_rfl) (fun _ _ _ h => h) (Or.inl ⟨by rfl, ?_⟩) (by assumption) ?_
              rotate_left
              · (intro w hSw; (try dsimp only at hSw); go_simp; try with_reducible rfl)
              try simp only [Act.put, List.setIfInBounds_toArray, List.set_cons_zero, List.set_cons_succ]
              refine wpAnyH_take (i := 53) (oi := { dst := some 142, op := Op.move (Operand.tmp 5), type := 44, pos := "outright.go:179", after := #[{ on := 47, ground := Ground.guard }], guard := some (47, true) }) (v := ?_) rfl (by kernel_rfl) (by kernel_rfl) (by kernel_rfl) (fun _ _ _ h => h) (Or.inl ⟨by rfl, ?_⟩) (by assumption) ?_
              rotate_left
              · (intro w hSw; (try dsimp only at hSw); go_simp; try with_reducible rfl)
              try simp only [Act.put, List.setIfInBounds_toArray, List.set_cons_zero, List.set_cons_succ]
              refine wpAnyH_take (i := 54) (oi := { dst := some 143, op := Op.move (Operand.tmp 12), type := 3, pos := "outright.go:179", after := #[{ on := 47, ground := Ground.guard }], guard := some (47, true) }) (v := ?_) rfl (by kernel_rfl) (by kernel_rfl) (by kernel_rfl) (fun _ _ _ h => h) (Or.inl ⟨by rfl, ?_⟩) (by assumption) ?_
              rotate_left
              · (intro w hSw; (try dsimp only at hSw); go_simp; try with_reducible rfl)
              try simp only [Act.put, List.setIfInBounds_toArray, List.set_cons_zero, List.set_cons_succ]
              refine wpAnyH_take (i := 55) (oi := { dst := some 144, op := Op.binOp BinOp.sub 3 (Operand.tmp 143) (Operand.const (Value.int IntKind.i64 1)) 3, type := 3, pos := "outright.go:179", after := #[{ on := 54, ground := Ground.data }, { on := 47, ground := Ground.guard }], guard := some (47, true) }) (v := ?_) rfl (by kernel_rfl) (by kernel_rfl) (by kernel_rfl) (fun _ _ _ h => h) (Or.inl ⟨by rfl, ?_⟩) (by assumption) ?_
              rotate_left
              · (intro w hSw; (try dsimp only at hSw); go_simp; try with_reducible rfl)
              try simp only [Act.put, List.setIfInBounds_toArray, List.set_cons_zero, List.set_cons_succ]
              refine wpAnyH_take (i := 56) (oi := { dst := some 145, op := Op.indexAddr 44 (Operand.tmp 142) (Operand.tmp 144), type := 0, pos := "outright.go:179", after := #[{ on := 53, ground := Ground.data }, { on := 55, ground := Ground.data }, { on := 47, ground := Ground.guard }], guard := some (47, true) }) (v := ?_) rfl (by kernel_rfl) (by kernel_rfl) (by kernel_rfl) (fun _ _ _ h => h) (Or.inl ⟨by rfl, ?_⟩) (by assumption) ?_
              rotate_left
              · (intro w hSw; (try dsimp only at hSw); go_simp; try with_reducible rfl)
              try simp only [Act.put, List.setIfInBounds_toArray, List.set_cons_zero, List.set_cons_succ]
              refine wpAnyH_take (i := 57) (oi := { dst := some 146, op := Op.fieldAddr 47 (Operand.tmp 145) 0, type := 0, pos := "outright.go:179", after := #[{ on := 56, ground := Ground.data }, { on := 47, ground := Ground.guard }], guard := some (47, true) }) (v := ?_) rfl (by kernel_rfl) (by kernel_rfl) (by kernel_rfl) (fun _ _ _ h => h) (Or.inl ⟨by rfl, ?_⟩) (by assumption) ?_
              rotate_left
              · (intro w hSw; (try dsimp only at hSw); go_simp; try with_reducible rfl)
              try simp only [Act.put, List.setIfInBounds_toArray, List.set_cons_zero, List.set_cons_succ]
              refine wpAnyH_take (i := 58) (oi := { dst := some 147, op := Op.load 9 (Operand.tmp 146), type := 9, pos := "outright.go:179", after := #[{ on := 57, ground := Ground.data }, { on := 47, ground := Ground.guard }], guard := some (47, true) }) (v := ?_) rfl (by kernel_rfl) (by kernel_rfl) (by kernel_rfl) (fun _ _ _ h => h) (Or.inl ⟨by rfl, ?_⟩) (by assumption) ?_
              rotate_left
              · (intro w hSw; (try dsimp only at hSw); go_simp; try with_reducible rfl)
              try simp only [Act.put, List.setIfInBounds_toArray, List.set_cons_zero, List.set_cons_succ]
              refine wpAnyH_take (i := 59) (oi := { dst := some 148, op := Op.binOp BinOp.leq 9 (Operand.tmp 141) (Operand.tmp 147) 9, type := 4, pos := "outright.go:179", after := #[{ on := 52, ground := Ground.data }, { on := 58, ground := Ground.data }, { on := 47, ground := Ground.guard }], guard := some (47, true) }) (v := ?_) rfl (by kernel_rfl) (by kernel_rfl) (by kernel_rfl) (fun _ _ _ h => h) (Or.inl ⟨by rfl, ?_⟩) (by assumption) ?_
              rotate_left
              · (intro w hSw; (try dsimp only at hSw); go_simp; try with_reducible rfl)
              try simp only [Act.put, List.setIfInBounds_toArray, List.set_cons_zero, List.set_cons_succ]
              refine wpAnyH_take (i := 60) (oi := { dst := some 149, op := Op.pick (Operand.tmp 136) (Operand.tmp 148) (Operand.const (Value.bool false)), type := 4, pos := "outright.go:179", after := #[{ on := 47, ground := Ground.data }, { on := 59, ground := Ground.data }, { on := 44, ground := Ground.guard }], guard := some (44, false) }) (v := ?_) rfl (by kernel_rfl) (by kernel_rfl) (by kernel_rfl) (fun _ _ _ h => h) (Or.inl ⟨by rfl, ?_⟩) (by assumption) ?_
              rotate_left
              · (intro w hSw; (try dsimp only at hSw); go_simp; try with_reducible rfl)
              try simp only [Act.put, List.setIfInBounds_toArray, List.set_cons_zero, List.set_cons_succ]
              refine wpAnyH_take (i := 61) (oi := { dst := some 150, op := Op.pick (Operand.tmp 133) (Operand.const (Value.bool true)) (Operand.tmp 149), type := 4, pos := "outright.go:179", after := #[{ on := 44, ground := Ground.data }, { on := 60, ground := Ground.data }], guard := none }) (v := ?_) rfl (by kernel_rfl) (by kernel_rfl) (by kernel_rfl) (fun _ _ _ h => h) (Or.inl ⟨by rfl, ?_⟩) (by assumption) ?_
              rotate_left
              · (intro w hSw; (try dsimp only at hSw); go_simp; try with_reducible rfl)
              try simp only [Act.put, List.setIfInBounds_toArray, List.set_cons_zero, List.set_cons_succ]
              refine wpAnyH_done (by kernel_rfl) ?_ _
              go_wp2_with fail
              exact ⟨⟨j + 1 + 1, by omega, by go_num, hid D4.out.drew⟩, by simp [intOf]; omega⟩
        · obtain rfl : k = ln := by omega
          have BW := hid (B8.out.trans (HB.out.mono B8.out.size))
          have A9 := hid (A8.out.low HB.out)
          have C9 := hid (C8.out.low HB.out)
          have OD9 := hid (row_low OD.out HB.out)
          clear HD hS hGd GTA GTB A8 C8 B8
          go_wp2_with fail
          obtain ⟨i0, hi0, hz0, hz1, hz2⟩ := info_parts infoD
          have DSW := hid (df_swap _ q1 q2 (Nat.le_refl _))
          rw [← HL.out] at DSW
          have ha64 : q1.length ≤ 64 := by have := OA.out.len; omega
          have hb64 : q2.length ≤ 64 := by have := OB.out.len; omega
          refine (CA.out _ A9.out).mono ?_
          rintro e z1 ⟨y5, rfl, hy5, hb⟩
          have B1 := hid (BW.out.trans (hb.mono BW.out.size))
          have A1 := hid (A9.out.low hb)
          have C1 := hid (C9.out.low hb)
          have O1 := hid (row_low OD9.out hb)
          have Y5 := hid hy5
          clear hb hy5 A9 C9 OD9 BW
          have PK := hid (fun W v v' (h : Came W v q1) (h' : ItemsD W v' L) => patch_ok v v' q1 q2 W h (by rw [← HL.out]; exact h') GA.out GB.out OA.out OB.out (by rw [← HL.out, ← HLN.out]; exact hdl))
          have hform : (ad = none ∧ k = 0 ∧ cd' = 0) ∨ ∃ g, ad = some ⟨g, 0, none⟩ := by
            rcases O1.out.2 with ⟨hv, hz⟩ | ⟨g, cap, cur, hv, _⟩
            · cases hv
              exact Or.inl ⟨rfl, rfl, rfl⟩
            · cases hv
              exact Or.inr ⟨g, rfl⟩
          rcases hform with ⟨rfl, rfl, rfl⟩ | ⟨g, rfl⟩
          case' inl =>
            have XN : ∀ W a, ItemsD W (.slice (some a) 0 0) L := fun W a => ⟨some a, 0, by rw [← HLN.out], Or.inl HLN.out.symm⟩
            go_wp2_with (first
              | (at_builtin; refine wpList_append_own_none rfl _ _ 44 rfl z1.heap.size 47 i0 5 Tryd.underlying44 hi0 _ 0 [] rfl (World.ownsRow_made z1 #[] 0 (Nat.le_refl _) (Nat.zero_le _) rfl) rfl ?_)
              | fail)
            have D2 := hid (belowA z1 (.cells #[] 47))
            have XA := hid (XN (z1.alloc (.cells #[] 47)) ⟨z1.heap.size, 0, none⟩)
            clear XN
            generalize z1.alloc (.cells #[] 47) = xaw at *
            generalize Value.slice (some ⟨z1.heap.size, 0, none⟩) 0 0 = xa at *
          case' inr =>
            go_wp2_with (first
              | (at_builtin; refine wpList_append_own _ rfl _ _ 44 rfl z1.heap.size 47 i0 (.agg #[.string ByteArray.empty, .string ByteArray.empty, .string ByteArray.empty, .bool false, .bool false]) 5 56 Tryd.underlying44 hi0 hz0 hz1 hz2 rfl (by decide) _ 0 [] rfl (World.ownsRow_made z1 #[] 0 (Nat.le_refl _) (Nat.zero_le _) rfl) ⟨g, 0, none⟩ k cd' (cellsD L) rfl ((cellsD_len L).trans (by rw [HLN.out])) (World.ownsRow.cells (row_low O1.out (belowA _ _)) (g := g) rfl) (cellsD_one L) (by unfold maxLen; omega) (by omega) (by simp) ?_; intro xa xaw hown hgrow _hn)
              | fail)
            clear _hn
            have D2 := hid (show Below z1.heap.size z1 xaw from (belowA z1 (.cells #[] 47)).grown hgrow (by simp) (fun j hj => by cases hj; exact Nat.le_refl _))
            have XA := hid (show ItemsD xaw xa L from own_itemsD (base := z1.heap.size) (by rw [← HLN.out]; first | exact hown | simpa using hown))
            clear hown hgrow
          all_goals (
            refine (PK.out _ _ _ (Y5.out.low D2.out) XA.out).mono ?_
            rintro e z3 ⟨va, rfl, hva, hb⟩
            have D3 := hid (D2.out.trans (hb.mono D2.out.size))
            have B3 := hid (B1.out.trans (D3.out.mono B1.out.size))
            have A3 := hid (A1.out.low D3.out)
            have C3 := hid (C1.out.low D3.out)
            have O3 := hid (row_low O1.out D3.out)
            have VA := hid hva
            clear hb hva D2 XA D3 B1 A1 C1 O1 Y5 PK
            go_wp2_with fail)
          all_goals (
            refine (CB.out _ C3.out).mono ?_
            rintro e z4 ⟨y6, rfl, hy6, hb⟩
            have B4 := hid (B3.out.trans (hb.mono B3.out.size))
            have A4 := hid (A3.out.low hb)
            have C4 := hid (C3.out.low hb)
            have O4 := hid (row_low O3.out hb)
            have VA4 := hid (VA.out.low hb)
            have Y6 := hid hy6
            clear hb hy6 B3 A3 C3 O3 VA
            have BK := hid (back_any _ L z4 (own_itemsD (by rw [← HLN.out]; exact O4.out)) (by rw [← HLN.out]; exact hdl))
            rw [← HLN.out] at BK
            go_wp2_with fail
            refine BK.out.mono ?_
            rintro e z5 ⟨xb, rfl, hxb, hb⟩
            have B5 := hid (B4.out.trans (hb.mono B4.out.size))
            have A5 := hid (A4.out.low hb)
            have C5 := hid (C4.out.low hb)
            have O5 := hid (row_low O4.out hb)
            have VA5 := hid (VA4.out.low hb)
            have PB := hid (patch_ok y6 xb q2 q1 z5 (Y6.out.low hb) (by rw [DSW.out]; exact own_itemsD (L := L.map bk) (by rw [List.length_map, ← HLN.out]; exact hxb)) GB.out GA.out OB.out OA.out (by rw [DSW.out, List.length_map, ← HLN.out]; exact hdl))
            clear hb hxb B4 A4 C4 O4 VA4 Y6 BK
            go_wp2_with fail
            refine PB.out.mono ?_
            rintro e z6 ⟨vb, rfl, hvb, hb⟩
            have B6 := hid (B5.out.trans (hb.mono B5.out.size))
            have A6 := hid (A5.out.low hb)
            have C6 := hid (C5.out.low hb)
            have O6 := hid (row_low O5.out hb)
            have VA6 := hid (VA5.out.low hb)
            have VB6 := hid hvb
            clear hb hvb B5 A5 C5 O5 VA5 PB
            go_wp2_with fail)
          all_goals (
            refine (same_any va p2 q2 z6 VA6.out.items C6.out.items hb64).mono ?_
            rintro e z7 ⟨rfl, hb⟩
            have B7 := hid (B6.out.trans (hb.mono B6.out.size))
            have A7 := hid (A6.out.low hb)
            have C7 := hid (C6.out.low hb)
            have O7 := hid (row_low O6.out hb)
            have VB7 := hid (VB6.out.low hb)
            clear hb B6 A6 C6 O6 VA6 VB6
            go_wp2_with fail
            refine (same_any vb p1 q1 z7 VB7.out.items A7.out.items ha64).mono ?_
            rintro e z8 ⟨rfl, hb⟩
            have B8 := hid (B7.out.trans (hb.mono B7.out.size))
            have A8 := hid (A7.out.low hb)
            have C8 := hid (C7.out.low hb)
            have O8 := hid (row_low O7.out hb)
            clear hb B7 A7 C7 O7 VB7
            go_wp2_with fail
            refine (CA.out _ A8.out).mono ?_
            rintro e z9 ⟨y7, rfl, hy7, hb⟩
            have B9 := hid (B8.out.trans (hb.mono B8.out.size))
            have A9 := hid (A8.out.low hb)
            have C9 := hid (C8.out.low hb)
            have O9 := hid (row_low O8.out hb)
            have Y7 := hid hy7
            clear hb hy7 B8 A8 C8 O8
            go_wp2_with fail
            refine (CA.out _ A9.out).mono ?_
            rintro e z10 ⟨y8, rfl, hy8, hb⟩
            have B10 := hid (B9.out.trans (hb.mono B9.out.size))
            have A10 := hid (A9.out.low hb)
            have C10 := hid (C9.out.low hb)
            have O10 := hid (row_low O9.out hb)
            have WS := hid (walk_any y7 y8 q1 q1 z10 (Y7.out.low hb) hy8 GA.out GA.out OA.out OA.out (by rw [df_self]; decide))
            rw [df_self] at WS
            clear hb hy8 B9 A9 C9 O9 Y7
            go_wp2_with fail
            refine WS.out.mono ?_
            rintro e z11 ⟨vs, rfl, hvs, hb⟩
            have B11 := hid (B10.out.trans (hb.mono B10.out.size))
            have A11 := hid (A10.out.low hb)
            have C11 := hid (C10.out.low hb)
            have O11 := hid (row_low O10.out hb)
            obtain ⟨aS, cS, hvs', _⟩ := own_itemsD (L := []) hvs
            obtain rfl : vs = .slice aS 0 cS := hvs'
            clear hb hvs B10 A10 C10 O10 WS
            go_wp2_with fail
            refine (CB.out _ C11.out).mono ?_
            rintro e z12 ⟨y9, rfl, hy9, hb⟩
            have B12 := hid (B11.out.trans (hb.mono B11.out.size))
            have A12 := hid (A11.out.low hb)
            have C12 := hid (C11.out.low hb)
            have O12 := hid (row_low O11.out hb)
            have Y9 := hid hy9
            clear hb hy9 B11 A11 C11 O11)
          · go_wp2_with (first
              | (at_builtin; refine wpList_append_own _ rfl _ _ 44 rfl z12.heap.size 47 i0 (.agg #[.string ByteArray.empty, .string ByteArray.empty, .string ByteArray.empty, .bool false, .bool false]) 5 56 Tryd.underlying44 hi0 hz0 hz1 hz2 rfl (by decide) _ 0 [] rfl (World.ownsRow_made z12 #[] 0 (Nat.le_refl _) (Nat.zero_le _) rfl) ⟨g, 0, none⟩ k cd' (cellsD L) rfl ((cellsD_len L).trans (by rw [HLN.out])) (World.ownsRow.cells (row_low O12.out (belowA _ _)) (g := g) rfl) (cellsD_one L) (by unfold maxLen; omega) (by omega) (by simp) ?_; intro xc xcw hown hgrow _hn)
              | fail)
            clear _hn
            have D13 := hid (show Below z12.heap.size z12 xcw from (belowA z12 (.cells #[] 47)).grown hgrow (by simp) (fun j hj => by cases hj; exact Nat.le_refl _))
            have XA := hid (show ItemsD xcw xc L from own_itemsD (base := z12.heap.size) (by rw [← HLN.out]; first | exact hown | simpa using hown))
            clear hown hgrow
            by_cases hk0 : k = 0
            · subst hk0
              have L0 : L = [] := List.length_eq_zero_iff.1 HLN.out.symm
              have PZ := hid (patch_ok y9 xc q2 q2 xcw (Y9.out.low D13.out) (by rw [df_self, ← L0]; exact XA.out) GB.out GB.out OB.out OB.out (by rw [df_self]; decide))
              refine PZ.out.mono ?_
              rintro e z14 ⟨vz, rfl, hvz, hb⟩
              have B14 := hid (B12.out.trans ((D13.out.trans (hb.mono D13.out.size)).mono B12.out.size))
              clear hb hvz PZ XA D13
              go_wp2_with fail
              go_ret
              exact ⟨rfl, B14.out⟩
            · have hk1 : ((k : Int) == 0) = false := by simpa using hk0
              have PZ := hid (patch_stale y9 xc q1 q2 xcw (Y9.out.low D13.out) (by rw [← HL.out]; exact XA.out) GB.out OA.out OB.out (by rw [← HL.out, ← HLN.out]; exact hdl) (by rw [← HL.out]; intro h; apply hk0; rw [HLN.out, h]; rfl))
              refine PZ.out.mono ?_
              rintro e z14 ⟨rfl, hb⟩
              have B14 := hid (B12.out.trans ((D13.out.trans (hb.mono D13.out.size)).mono B12.out.size))
              clear hb PZ XA D13
              go_wp2_with fail
              go_ret
              exact ⟨rfl, B14.out⟩
          · have XN : ∀ W a, ItemsD W (.slice (some a) 0 0) L := fun W a => ⟨some a, 0, by rw [← HLN.out], Or.inl HLN.out.symm⟩
            have L0 : L = [] := List.length_eq_zero_iff.1 HLN.out.symm
            go_wp2_with (first
              | (at_builtin; refine wpList_append_own_none rfl _ _ 44 rfl z12.heap.size 47 i0 5 Tryd.underlying44 hi0 _ 0 [] rfl (World.ownsRow_made z12 #[] 0 (Nat.le_refl _) (Nat.zero_le _) rfl) rfl ?_)
              | fail)
            have D13 := hid (belowA z12 (.cells #[] 47))
            have XA := hid (XN (z12.alloc (.cells #[] 47)) ⟨z12.heap.size, 0, none⟩)
            clear XN
            generalize z12.alloc (.cells #[] 47) = xcw at *
            generalize Value.slice (some ⟨z12.heap.size, 0, none⟩) 0 0 = xc at *
            have PZ := hid (patch_ok y9 xc q2 q2 xcw (Y9.out.low D13.out) (by rw [df_self, ← L0]; exact XA.out) GB.out GB.out OB.out OB.out (by rw [df_self]; decide))
            refine PZ.out.mono ?_
            rintro e z14 ⟨vz, rfl, hvz, hb⟩
            have B14 := hid (B12.out.trans ((D13.out.trans (hb.mono D13.out.size)).mono B12.out.size))
            clear hb hvz PZ XA D13
            go_wp2_with fail
            go_ret
            exact ⟨rfl, B14.out⟩
end Go.Proofs.YtnldagpbmphdhabDoor.L
