import Derived.Test.YtppblibcbjpfnaaDoorOwn6
namespace Go.Proofs.YtppblibcbjpfnaaDoor.L
open Go.RowKit
set_option linter.unusedVariables false
set_option maxHeartbeats 4000000 in
set_option maxRecDepth 100000 in
theorem apart_any (B off cap base : Nat) (f : Nat → Value) (M : Nat → List Tn) (w : World) (hF : Fam w base 9 f M) (hc : ∀ j, j < 9 → w.cell? ⟨B, off + j, none⟩ = some (f j)) (hB : B < w.heap.size) (hn : ∀ j, j < 9 → (f j).ownBlock ≠ some B) (hb : base ≤ w.heap.size) :
    Calls Tryd.prog 33 #[.slice (some ⟨B, off, none⟩) 9 cap] w fun e w' => e = .returned (.bool true) ∧ Below base w w' := by
  obtain ⟨i0, hi0, hz0, hz1, hz2⟩ := info_parts infoT
  have HN := hid hn
  have HG := hid (fun j g (hj : j < 9) (e : (f j).ownBlock = some g) => show g ≠ w.heap.size from fun e' => by have := ((hF.own j hj).lt g e).2; omega)
  have km := make9 w
  have I0 := hid (show InvA w (w.alloc (.cells nine 26)) base B off f M M 0 from ⟨hF.low (belowA _ _), fun j hj => ((belowA w _).cell (p := ⟨B, off + j, none⟩) hB).trans (hc j hj), fun _ _ => rfl, fun j hj => by omega, heap_alloc_new w _, (belowA w _).mono hb, by simp; omega, by simp⟩)
  have MK := hid (fun i k W h1 h2 => marks_any i k W h1 h2)
  have HBASE := hid hb
  clear hF hc hn hb
  go_enter Tryd.func33, Tryd.ntmps33
  go_wp2
  clear km
  unfold nine at I0
  generalize w.alloc (.cells #[.slice none 0 0, .slice none 0 0, .slice none 0 0, .slice none 0 0, .slice none 0 0, .slice none 0 0, .slice none 0 0, .slice none 0 0, .slice none 0 0] 26) = W0 at *
  go_loopw [4] (fun i wr => ∃ (p : Nat) (Mx : Nat → List Tn), p ≤ 9 ∧ i = .int .i64 p ∧ Hid (InvA w wr base B off f M Mx p)) (fun i _ => 9 - (intOf i).toNat)
  case atStart => exact ⟨0, M, by omega, rfl, I0⟩
  case round =>
    obtain ⟨p, Mx, hp, rfl, IV⟩ := hrel
    by_cases hlt : p < 9
    · have c0 := IV.out.cells p hlt
      have hBw := IV.out.hB
      have g1 : (p : Int) < 9 := by omega
      have g0 : (0 : Int) ≤ (p : Int) := by omega
      obtain ⟨a, cp, hv, ha⟩ := fam_slice IV.out.fam hlt
      have hshort := IV.out.fam.short p hlt
      generalize hl : (Mx p).length = len at *
      rw [hv] at c0
      have HV := hid hv
      have HLN := hid hl
      have HA := hid ha
      clear hv hl ha
      go_wp2_with fail
      go_loopw [5] (fun k wr => ∃ (q : Nat) (My : Nat → List Tn), q ≤ len ∧ k = .int .i64 q ∧ Hid (InvA w wr base B off f M My p) ∧ Hid (Mkd (My p) p q ∧ (My p).length = len)) (fun k _ => len - (intOf k).toNat)
      case atStart => exact ⟨0, Mx, Nat.zero_le _, rfl, IV, hid ⟨fun k hk => by omega, HLN.out⟩⟩
      case round =>
        obtain ⟨q, My, hq, rfl, IW, HM⟩ := hrel
        have c1 := IW.out.cells p hlt
        rw [HV.out] at c1
        have hB1 := IW.out.hB
        by_cases hlq : q < len
        · have g2 : (q : Int) < (len : Int) := by omega
          have g3 : (0 : Int) ≤ (q : Int) := by omega
          obtain ⟨g, rfl⟩ := HA.out (by omega)
          have MKk := hid (fun W => MK.out p q W (by omega) (by omega))
          have own := IW.out.fam.own p hlt
          rw [HV.out] at own
          have hgl := (own.lt g rfl).2
          rcases own.2 with ⟨e, _⟩ | ⟨g', cap', cur', e, _, hh, hnc, _, hs, _⟩
          · cases e
          injection e with e1 _ e3
          injection e1 with e1
          injection e1 with e1 _ _
          subst e1 e3
          have hml := HM.out.2
          have hcz : q * 3 + 2 < cur'.size := by rw [hs]; omega
          obtain ⟨u0, e0⟩ : ∃ u, cur'[q * 3]? = some u := ⟨_, Array.getElem?_eq_getElem (by omega)⟩
          obtain ⟨u1, e1⟩ : ∃ u, cur'[q * 3 + 1]? = some u := ⟨_, Array.getElem?_eq_getElem (by omega)⟩
          obtain ⟨u2, e2⟩ : ∃ u, cur'[q * 3 + 2]? = some u := ⟨_, Array.getElem?_eq_getElem (by omega)⟩
          have HH := hid hh
          have hgB : g ≠ B := fun e => HN.out p hlt (by rw [HV.out, e]; rfl)
          have hgG : g ≠ w.heap.size := HG.out p g hlt (by rw [HV.out]; rfl)
          have HST := hid (fun w2 (hb2 : Below wr.heap.size wr w2) => (IW.out.low hb2 HBASE.out).set hlt (by rw [HV.out, hml]) (by rw [hml]; exact hlq) hgB hgG HM.out.1)
          have T0 : wr.drew.cell? ⟨B, off + p, none⟩ = some (.slice (some ⟨g, 0, none⟩) len cp) := c1
          clear hh hml own hnc hs hcz
          go_wp2_with fail
          go_region_held3 (fun W => W.cell? ⟨B, off + p, none⟩ = some (.slice (some ⟨g, 0, none⟩) len cp))
            (first | exact T0 | exact T1 | exact T2)
            (first
              | (go_at_call 32; refine (MKk.out _).mono ?_; rintro e w2 ⟨rfl, hb2⟩; have D1 := hid hb2; have T1 := (hb2.cell (p := ⟨B, off + p, none⟩) hB1).trans T0; have hh2 := (hb2.block g hgl).trans HH.out; have k0 := (cell_of_row w2 g (q * 3) cur' _ _ hh2).trans e0; have k1 := (cell_of_row w2 g (q * 3 + 1) cur' _ _ hh2).trans e1; have k2 := (cell_of_row w2 g (q * 3 + 2) cur' _ _ hh2).trans e2; have f0 := frozen_of_row w2 g (q * 3) cur' _ hh2; have f1 := frozen_of_row w2 g (q * 3 + 1) cur' _ hh2; have f2 := frozen_of_row w2 g (q * 3 + 2) cur' _ hh2; have T2 : (((w2.setCell ⟨g, q * 3, none⟩ (.string (mk3 p q))).setCell ⟨g, q * 3 + 1, none⟩ (.string ⟨#[111, 119, 110]⟩)).setCell ⟨g, q * 3 + 2, none⟩ (.string ⟨#[]⟩)).cell? ⟨B, off + p, none⟩ = some (.slice (some ⟨g, 0, none⟩) len cp) := (World.cell?_of_block (put3_other w2 _ _ _ (Ne.symm hgB))).trans T1; clear hb2 hh2))
          clear T0 T1 T2
          obtain ⟨Mz, i1, i2, i3⟩ := HST.out w2 ((Below.refl _ _).drew.trans D1.out)
          have I9 := hid i1
          have M9 := hid (show Mkd (Mz p) p (q + 1) ∧ (Mz p).length = len from ⟨i2, i3.trans HM.out.2⟩)
          clear i1 i2 i3
          go_wp2_with fail
          exact ⟨⟨q + 1, Mz, by omega, by go_num, I9, M9⟩, by simp [intOf]; omega⟩
        · obtain rfl : q = len := by omega
          have g2 : ¬ (q : Int) < (q : Int) := by omega
          have I9 := hid (show InvA w wr base B off f M My (p + 1) from ⟨IW.out.fam, IW.out.cells, IW.out.len, fun j hj => by
            by_cases e : j = p
            · subst e
              rw [HM.out.2]
              exact HM.out.1
            · exact IW.out.done j (by omega), IW.out.gs, IW.out.below, IW.out.hB, IW.out.hG⟩)
          go_wp2_with fail
          exact ⟨⟨p + 1, My, by omega, by go_num, I9⟩, by simp [intOf]; omega⟩
    · obtain rfl : p = 9 := by omega
      have g1 : ¬ ((9 : Nat) : Int) < 9 := by omega
      have HMK := hid (fun j (hj : j < 9) => IV.out.done j hj)
      have HLN := hid IV.out.len
      have J0 := hid (show InvB w wr base B off f f Mx 0 from ⟨IV.out.fam, IV.out.cells, ⟨nine, IV.out.gs, rfl, fun j hj => by omega⟩, fun j hj => by omega, fun j hj => by omega, fun j hj => by omega, IV.out.below, IV.out.hB, IV.out.hG⟩)
      clear IV
      go_wp2_with fail
      go_loopw [6] (fun i wr => ∃ (p : Nat) (h : Nat → Value), p ≤ 9 ∧ i = .int .i64 p ∧ Hid (InvB w wr base B off f h Mx p)) (fun i _ => 9 - (intOf i).toNat)
      case atStart => exact ⟨0, f, by omega, rfl, J0⟩
      case round =>
        obtain ⟨p, h, hp, rfl, IV⟩ := hrel
        by_cases hlt : p < 9
        · have c0 := IV.out.cells p hlt
          have hBw := IV.out.hB
          have g2 : (p : Int) < 9 := by omega
          have g0 : (0 : Int) ≤ (p : Int) := by omega
          obtain ⟨a, cp, hv, ha⟩ := fam_slice IV.out.fam hlt
          have hshort := IV.out.fam.short p hlt
          have O0 := hid (IV.out.fam.own p hlt)
          generalize hl : (Mx p).length = len at *
          rw [hv] at c0
          have HV := hid hv
          have HL := hid hl
          clear hv hl ha
          generalize wr = wB at *
          go_wp2_with fail
          go_loopw [7, 8] (fun g k wr => ∃ q : Nat, q ≤ 40 ∧ k = .int .i64 q ∧ Hid (InvB w wr base B off f h Mx p) ∧ Hid (OwnT wr base g (Mx p ++ BH p q)) ∧ Hid ((g.ownBlock = (f p).ownBlock ∨ ∃ b, g.ownBlock = some b ∧ wB.heap.size ≤ b) ∧ wB.heap.size ≤ wr.heap.size)) (fun _ k _ => 40 - (intOf k).toNat)
          case atStart => exact ⟨0, by omega, rfl, IV, hid (by have := O0.out; rw [HV.out] at this; simpa [BH] using this), hid ⟨Or.inl (by rw [HV.out]), Nat.le_refl _⟩⟩
          case round =>
            obtain ⟨q, hq, rfl, IW, OW, HG9⟩ := hrel
            by_cases hlq : q < 40
            · have g3 : (q : Int) < 40 := by omega
              have MKk := hid (fun W => MK.out p q W (by omega) (by omega))
              have hlen : (Mx p ++ BH p q).length = len + q := by rw [List.length_append, bh_len, HL.out]
              go_wp2_with fail
              refine (MKk.out _).mono ?_
              rintro e w2 ⟨rfl, hb2⟩
              have I2 := hid (IW.out.low (hb2.alloc hb2.size (.cells #[.string (mk3 p q), .string ⟨#[98, 101, 104, 105, 110, 100]⟩, .string ⟨#[]⟩] 23)) HBASE.out)
              have O2 := hid (ownG_low OW.out hb2)
              have Z2 := hid (Nat.le_trans HG9.out.2 hb2.size)
              have hb0 : base ≤ w2.heap.size := Nat.le_trans (Nat.le_trans HBASE.out IW.out.below.size) hb2.size
              clear hb2
              generalize hQ : Mx p ++ BH p q = Q at *
              go_wp2_with (first
                | (at_builtin; refine wpList_append_stays _ rfl _ _ 26 rfl base 23 i0 (.agg #[.string ByteArray.empty, .string ByteArray.empty, .string ByteArray.empty]) 3 48 Tryd.underlying26 hi0 hz0 hz1 hz2 rfl (by decide) _ _ _ rfl (World.ownsRow.alloc O2.out _) ⟨w2.heap.size, 0, none⟩ 1 1 [.string (mk3 p q), .string ⟨#[98, 101, 104, 105, 110, 100]⟩, .string ⟨#[]⟩] rfl rfl (cell_three_at _ _ _ _ _ _ rfl) (fun x hx => by simp at hx; rcases hx with rfl | rfl | rfl <;> rfl) (by unfold maxLen; omega) (by omega) (by simp; omega) (by decide) ?_; intro v' w3 hown' hgrow3 hst3 hblk3)
                | go_in)
              have hvv := HG9.out.1
              have I3 := hid (I2.out.app (n := Q.length) hlt (by rw [hlen, HL.out]; omega) HBASE.out (by
                rcases hvv with e | ⟨b, e, hb⟩
                · exact Or.inl e
                · exact Or.inr ⟨b, e, fun j hj e' => by have := ((IV.out.fam.own j hj).lt b e').2; omega, fun j hj e' => by have := ((IV.out.own j hj).lt b e').2; omega, by have := IV.out.hB; omega, by have := IV.out.hG; omega⟩) (HN.out p hlt) (fun e => HG.out p _ hlt e rfl) (fun b e => (O2.out.lt b e).1) hgrow3 hst3)
              have O3 := hid (show OwnT w3 base v' (Mx p ++ BH p (q + 1)) by rw [bh_next, ← List.append_assoc, hQ]; exact ownT_snoc hown')
              have G3 := hid (show (v'.ownBlock = (f p).ownBlock ∨ ∃ b, v'.ownBlock = some b ∧ wB.heap.size ≤ b) ∧ wB.heap.size ≤ w3.heap.size from ⟨by
                rcases hblk3 with e | e
                · rw [e]; exact hvv
                · exact Or.inr ⟨_, e, by have := Z2.out; simp; omega⟩, by have := hgrow3.size; have := Z2.out; simp at *; omega⟩)
              clear hown' hgrow3 hst3 hblk3 hvv
              exact ⟨⟨q + 1, by omega, by go_num, I3, O3, G3⟩, by simp [intOf]; omega⟩
            · obtain rfl : q = 40 := by omega
              have g3 : ¬ ((40 : Nat) : Int) < 40 := by omega
              have hvv := HG9.out.1
              have own := OW.out
              rcases own.2 with ⟨e, hz⟩ | ⟨gb, cp', cur', e, _⟩
              · rw [List.length_append, bh_len] at hz; omega
              subst e
              have J := hid (IW.out.put hlt OW.out HBASE.out (by omega) (by
                rcases hvv with e | ⟨b, e, hb⟩
                · exact Or.inl e
                · exact Or.inr ⟨b, e, fun j hj e' => by have := ((IV.out.fam.own j hj).lt b e').2; omega, by have := IV.out.hG; omega⟩) (fun j hj e => HG.out j _ hj e rfl))
              obtain ⟨cg, h1, h2, -⟩ := IW.out.gs
              obtain ⟨x0, ex⟩ : ∃ u, cg[p]? = some u := ⟨_, Array.getElem?_eq_getElem (by omega)⟩
              have k0 := (cell_of_row wr w.heap.size p cg _ _ h1).trans ex
              have f0 := frozen_of_row wr w.heap.size p cg _ h1
              generalize (Mx p ++ BH p 40).length = nn at *
              clear own hvv h1 h2 ex OW
              go_wp2_with fail
              exact ⟨⟨p + 1, _, by omega, by go_num, J⟩, by simp [intOf]; omega⟩
        · obtain rfl : p = 9 := by omega
          have g2 : ¬ ((9 : Nat) : Int) < 9 := by omega
          have KC := IV
          clear IV J0
          generalize wr = wC at *
          go_wp2_with fail
          go_loopw [9] (fun i wr => ∃ p : Nat, p ≤ 9 ∧ i = .int .i64 p ∧ Hid (InvB w wr base B off f h Mx 9)) (fun i _ => 9 - (intOf i).toNat)
          case atStart => exact ⟨0, by omega, rfl, KC⟩
          case round =>
            obtain ⟨p, hp, rfl, IV⟩ := hrel
            by_cases hlt : p < 9
            · have g2 : (p : Int) < 9 := by omega
              have g0 : (0 : Int) ≤ (p : Int) := by omega
              obtain ⟨a, cp, hv, ha⟩ := fam_slice IV.out.fam hlt
              have hshort := IV.out.fam.short p hlt
              have HMp := hid (HMK.out p hlt)
              have c0 := IV.out.cells p hlt
              have hBw := IV.out.hB
              generalize hl : (Mx p).length = len at *
              rw [hv] at c0
              have HV := hid hv
              have HL := hid hl
              have HA := hid ha
              clear hv hl ha
              go_wp2_with fail
              go_loopw [10] (fun k wr => ∃ q : Nat, q ≤ len ∧ k = .int .i64 q ∧ Hid (InvB w wr base B off f h Mx 9)) (fun k _ => len - (intOf k).toNat)
              case atStart => exact ⟨0, Nat.zero_le _, rfl, IV⟩
              case round =>
                obtain ⟨q, hq, rfl, IW⟩ := hrel
                have c1 := IW.out.cells p hlt
                rw [HV.out] at c1
                have hB1 := IW.out.hB
                by_cases hlq : q < len
                · have g3 : (q : Int) < (len : Int) := by omega
                  have g4 : (0 : Int) ≤ (q : Int) := by omega
                  obtain ⟨g, rfl⟩ := HA.out (by omega)
                  have MKk := hid (fun W => MK.out p q W (by omega) (by omega))
                  have own := IW.out.fam.own p hlt
                  rw [HV.out] at own
                  obtain ⟨d0, d1, -, hgl⟩ := own_at own (HMp.out q hlq)
                  clear own
                  unfold sOwn at d1
                  have T0 : wr.drew.cell? ⟨B, off + p, none⟩ = some (.slice (some ⟨g, 0, none⟩) len cp) ∧ wr.drew.cell? ⟨g, q * 3, none⟩ = some (.string (mk3 p q)) ∧ wr.drew.cell? ⟨g, q * 3 + 1, none⟩ = some (.string ⟨#[111, 119, 110]⟩) := ⟨c1, d0, d1⟩
                  generalize mk3 p q = ms at *
                  go_wp2_with fail
                  go_region_held3 (fun W => W.cell? ⟨B, off + p, none⟩ = some (.slice (some ⟨g, 0, none⟩) len cp) ∧ W.cell? ⟨g, q * 3, none⟩ = some (.string ms) ∧ W.cell? ⟨g, q * 3 + 1, none⟩ = some (.string ⟨#[111, 119, 110]⟩))
                    (first | exact T0 | exact T1)
                    (first
                      | (go_at_call 32; refine (MKk.out _).mono ?_; rintro e w2 ⟨rfl, hb2⟩; have D1 := hid hb2; have T1 : w2.cell? ⟨B, off + p, none⟩ = some (.slice (some ⟨g, 0, none⟩) len cp) ∧ w2.cell? ⟨g, q * 3, none⟩ = some (.string ms) ∧ w2.cell? ⟨g, q * 3 + 1, none⟩ = some (.string ⟨#[111, 119, 110]⟩) := ⟨(hb2.cell (p := ⟨B, off + p, none⟩) hB1).trans T0.1, (hb2.cell (p := ⟨g, q * 3, none⟩) hgl).trans T0.2.1, (hb2.cell (p := ⟨g, q * 3 + 1, none⟩) hgl).trans T0.2.2⟩; clear hb2))
                  have I9 := hid (IW.out.low ((Below.refl _ _).drew.trans D1.out) HBASE.out)
                  clear T0 T1 D1
                  go_wp2_with fail
                  exact ⟨⟨q + 1, by omega, by go_num, I9⟩, by simp [intOf]; omega⟩
                · obtain rfl : q = len := by omega
                  have g3 : ¬ (q : Int) < (q : Int) := by omega
                  go_wp2_with fail
                  go_loopw [11] (fun k wr => ∃ r : Nat, r ≤ 40 ∧ k = .int .i64 r ∧ Hid (InvB w wr base B off f h Mx 9)) (fun k _ => 40 - (intOf k).toNat)
                  case atStart => exact ⟨0, Nat.zero_le _, rfl, IW⟩
                  case round =>
                    obtain ⟨r, hr, rfl, IX⟩ := hrel
                    have c2 := IX.out.cells p hlt
                    rw [HV.out] at c2
                    have hB2 := IX.out.hB
                    by_cases hlr : r < 40
                    · have g5 : (r : Int) < 40 := by omega
                      have MKk := hid (fun W => MK.out p r W (by omega) (by omega))
                      obtain ⟨cg, h1, -, h3⟩ := IX.out.gs
                      have kg := (cell_of_row wr w.heap.size p cg _ _ h1).trans (h3 p hlt)
                      have hGl := IX.out.hG
                      have own := IX.out.own p hlt
                      have hnl : (Mx p ++ BH p 40).length = q + 40 := by rw [List.length_append, bh_len, HL.out]
                      rcases own.2 with ⟨e, hz⟩ | ⟨gb, cp', cur', e, -, -, hncp, -, -, -⟩
                      · omega
                      rw [e] at kg own
                      obtain ⟨d0, d1, d2, hgl⟩ := own_at own (bh_at (Mx p) p 40 r hlr)
                      rw [HL.out] at d0 d1 d2
                      rw [hnl] at kg
                      unfold sBeh at d1
                      clear own h1 h3 e hncp
                      have g6 : (q : Int) + (r : Int) < ((q + 40 : Nat) : Int) := by omega
                      have g7 : (0 : Int) ≤ (q : Int) + (r : Int) := by omega
                      generalize mk3 p r = ms at *
                      go_wp2_with fail
                      go_region
                      have BX := hid (show Below wr.heap.size wr (wr.alloc (.cells #[.string ms, .string ⟨#[98, 101, 104, 105, 110, 100]⟩, .string ⟨#[]⟩] 23)).drew from (belowA _ _).drew)
                      have n0 := three wr (.string ms) (.string ⟨#[98, 101, 104, 105, 110, 100]⟩) (.string ⟨#[]⟩) 23
                      have n1 : (wr.alloc (.cells #[.string ms, .string ⟨#[98, 101, 104, 105, 110, 100]⟩, .string ⟨#[]⟩] 23)).drew.cell? ⟨wr.heap.size, 0, none⟩ = some (.string ms) := n0.1
                      have n2 : (wr.alloc (.cells #[.string ms, .string ⟨#[98, 101, 104, 105, 110, 100]⟩, .string ⟨#[]⟩] 23)).drew.cell? ⟨wr.heap.size, 1, none⟩ = some (.string ⟨#[98, 101, 104, 105, 110, 100]⟩) := n0.2.1
                      have n3 : wr.heap.size < (wr.alloc (.cells #[.string ms, .string ⟨#[98, 101, 104, 105, 110, 100]⟩, .string ⟨#[]⟩] 23)).drew.heap.size := by simp
                      clear n0 d0 d1 d2 kg
                      generalize (wr.alloc (.cells #[.string ms, .string ⟨#[98, 101, 104, 105, 110, 100]⟩, .string ⟨#[]⟩] 23)).drew = wx at *
                      have T0 : wx.drew.cell? ⟨wr.heap.size, 0, none⟩ = some (.string ms) ∧ wx.drew.cell? ⟨wr.heap.size, 1, none⟩ = some (.string ⟨#[98, 101, 104, 105, 110, 100]⟩) := ⟨n1, n2⟩
                      go_wp2_with fail
                      go_region_held3 (fun W => W.cell? ⟨wr.heap.size, 0, none⟩ = some (.string ms) ∧ W.cell? ⟨wr.heap.size, 1, none⟩ = some (.string ⟨#[98, 101, 104, 105, 110, 100]⟩))
                        (first | exact T0 | exact T1)
                        (first
                          | (go_at_call 32; refine (MKk.out _).mono ?_; rintro e w2 ⟨rfl, hb2⟩; have D1 := hid hb2; have T1 : w2.cell? ⟨wr.heap.size, 0, none⟩ = some (.string ms) ∧ w2.cell? ⟨wr.heap.size, 1, none⟩ = some (.string ⟨#[98, 101, 104, 105, 110, 100]⟩) := ⟨(hb2.cell (p := ⟨wr.heap.size, 0, none⟩) n3).trans T0.1, (hb2.cell (p := ⟨wr.heap.size, 1, none⟩) n3).trans T0.2⟩; clear hb2))
                      have I9 := hid (IX.out.low (BX.out.drew.trans (D1.out.mono BX.out.size)) HBASE.out)
                      clear T0 T1 D1 BX
                      go_wp2_with fail
                      exact ⟨⟨r + 1, by omega, by go_num, I9⟩, by simp [intOf]; omega⟩
                    · obtain rfl : r = 40 := by omega
                      have g5 : ¬ ((40 : Nat) : Int) < 40 := by omega
                      go_wp2_with fail
                      exact ⟨⟨p + 1, by omega, by go_num, IX⟩, by simp [intOf]; omega⟩
            · obtain rfl : p = 9 := by omega
              have g9 : ¬ ((9 : Nat) : Int) < 9 := by omega
              go_wp2_with fail
              go_ret
              exact ⟨rfl, IV.out.below⟩
end Go.Proofs.YtppblibcbjpfnaaDoor.L
