import Derived.Test.YtkagdmhijjfnnabDoorLs1
namespace Go.Proofs.YtkagdmhijjfnnabDoor
open Go.RowKit Bs
set_option linter.unusedVariables false
set_option maxHeartbeats 4000000 in
set_option maxRecDepth 100000 in
theorem apartI_any (B off cap base : Nat) (f : Nat → Value) (M : Nat → List Value) (w : World) (hF : Ap.Fam 3 5 w base f M) (hc : ∀ j, j < 5 → w.cell? ⟨B, off + j, none⟩ = some (f j)) (hB : B < w.heap.size) (hn : ∀ j, j < 5 → (f j).ownBlock ≠ some B) (hb : base ≤ w.heap.size) :
    Calls Tryd.prog 41 #[.slice (some ⟨B, off, none⟩) 5 cap] w fun e w' => e = .returned (.bool true) ∧ Below base w w' ∧ ∀ k, k < w.heap.size → (∀ j, j < 5 → (f j).ownBlock ≠ some k) → w'.heap[k]? = w.heap[k]? := by
  obtain ⟨i0, hi0, hz0, hz1, hz2⟩ := info_prts infoI
  have HN := hid hn
  have HG := hid (fun j g (hj : j < 5) (e : (f j).ownBlock = some g) => show g ≠ w.heap.size from fun e' => by have := ((hF.own j hj).lt g e).2; omega)
  have km := make5 w
  have I0 := hid (show Ap.InvA 3 22 5 mkI w (w.alloc (.cells #[.slice none 0 0, .slice none 0 0, .slice none 0 0, .slice none 0 0, .slice none 0 0] 22)) base B off f M M 0 from ⟨hF.low (Ap.belowA _ _), fun j hj => ((Ap.belowA w _).cell (p := ⟨B, off + j, none⟩) hB).trans (hc j hj), fun _ _ => rfl, fun j hj => by omega, ⟨_, heap_alloc_new w _, rfl⟩, (Ap.belowA w _).mono hb, by simp; omega, by simp, fun k hk _ => (Ap.belowA w _).block k hk⟩)
  have HBASE := hid hb
  clear hF hc hn hb
  go_enter Tryd.func41, Tryd.ntmps41
  go_wp2
  clear km
  generalize w.alloc (.cells #[.slice none 0 0, .slice none 0 0, .slice none 0 0, .slice none 0 0, .slice none 0 0] 22) = W0 at *
  go_loopw [4] (fun i wr => ∃ (p : Nat) (Mx : Nat → List Value), p ≤ 5 ∧ i = .int .i64 p ∧ Hid (Ap.InvA 3 22 5 mkI w wr base B off f M Mx p)) (fun i _ => 5 - (intOf i).toNat)
  case atStart => exact ⟨0, M, by omega, rfl, I0⟩
  case round =>
    obtain ⟨p, Mx, hp, rfl, IV⟩ := hrel
    by_cases hlt : p < 5
    · have c0 := IV.out.cells p hlt
      have hBw := IV.out.hB
      have g1 : (p : Int) < 5 := by omega
      have g0 : (0 : Int) ≤ (p : Int) := by omega
      obtain ⟨a, cp, hv, ha⟩ := Ap.fam_slice IV.out.fam hlt
      have hshort := IV.out.fam.short p hlt
      generalize hl : (Mx p).length = len at *
      rw [hv] at c0
      have HV := hid hv
      have HLN := hid hl
      have HA := hid ha
      clear hv hl ha
      go_wp2_with fail
      go_loopw [5] (fun k wr => ∃ (q : Nat) (My : Nat → List Value), q ≤ len ∧ k = .int .i64 q ∧ Hid (Ap.InvA 3 22 5 mkI w wr base B off f M My p) ∧ Hid (Ap.Mkd mkI (My p) p q ∧ (My p).length = len)) (fun k _ => len - (intOf k).toNat)
      case atStart => exact ⟨0, Mx, Nat.zero_le _, rfl, IV, hid ⟨fun k hk => by omega, HLN.out⟩⟩
      case round =>
        obtain ⟨q, My, hq, rfl, IW, HM⟩ := hrel
        have c1 := IW.out.cells p hlt
        rw [HV.out] at c1
        have hB1 := IW.out.hB
        by_cases hlq : q < len
        · have g2 : (q : Int) < (len : Int) := by omega
          have g3 : (0 : Int) ≤ (q : Int) := by omega
          obtain ⟨g, rfl⟩ := HA.out (by omega)
          have own := IW.out.fam.own p hlt
          rw [HV.out] at own
          have hgl := (own.lt g rfl).2
          rcases own.2 with ⟨e, _⟩ | ⟨g', cap', cur', e, _, hh, hnc, _, hs, _⟩
          · cases e
          injection e with e1 _ e3
          injection e1 with e1
          injection e1 with e1 _ _
          subst e1 e3
          have hml := HM.out.2
          have hcz : q < cur'.size := by rw [hs]; omega
          obtain ⟨u0, e0⟩ : ∃ u, cur'[q]? = some u := ⟨_, Array.getElem?_eq_getElem (by omega)⟩
          have hgB : g ≠ B := fun e => HN.out p hlt (by rw [HV.out, e]; rfl)
          have hgG : g ≠ w.heap.size := HG.out p g hlt (by rw [HV.out]; rfl)
          have HST := hid (IW.out.set hlt (by rw [HV.out, hml]) (by rw [hml]; exact hlq) hgB hgG HM.out.1)
          have k0 := (cell_of_row wr g q cur' _ _ hh).trans e0
          have f0 := frozen_of_row wr g q cur' _ hh
          clear hh hml own hnc hs hcz
          go_wp2_with fail
          obtain ⟨Mz, i1, i2, i3⟩ := HST.out
          exact ⟨⟨q + 1, Mz, by omega, by go_num, hid i1, hid ⟨i2, i3.trans HM.out.2⟩⟩, by simp [intOf]; omega⟩
        · obtain rfl : q = len := by omega
          have g2 : ¬ (q : Int) < (q : Int) := by omega
          have I9 := hid (show Ap.InvA 3 22 5 mkI w wr base B off f M My (p + 1) from ⟨IW.out.fam, IW.out.cells, IW.out.len, fun j hj => by
            by_cases e : j = p
            · subst e
              rw [HM.out.2]
              exact HM.out.1
            · exact IW.out.done j (by omega), IW.out.gs, IW.out.below, IW.out.hB, IW.out.hG, IW.out.kept⟩)
          go_wp2_with fail
          exact ⟨⟨p + 1, My, by omega, by go_num, I9⟩, by simp [intOf]; omega⟩
    · obtain rfl : p = 5 := by omega
      have g1 : ¬ ((5 : Nat) : Int) < 5 := by omega
      have HMK := hid (fun j (hj : j < 5) => IV.out.done j hj)
      have HLN := hid IV.out.len
      have J0 := hid (show Ap.InvB 3 22 5 bhI w wr base B off f f Mx 0 from ⟨IV.out.fam, IV.out.cells, by obtain ⟨cg, h1, h2⟩ := IV.out.gs; exact ⟨cg, h1, h2, fun j hj => by omega⟩, fun j hj => by omega, fun j hj => by omega, fun j hj => by omega, IV.out.below, IV.out.hB, IV.out.hG, IV.out.kept⟩)
      clear IV
      go_wp2_with fail
      go_loopw [6] (fun i wr => ∃ (p : Nat) (h : Nat → Value), p ≤ 5 ∧ i = .int .i64 p ∧ Hid (Ap.InvB 3 22 5 bhI w wr base B off f h Mx p)) (fun i _ => 5 - (intOf i).toNat)
      case atStart => exact ⟨0, f, by omega, rfl, J0⟩
      case round =>
        obtain ⟨p, h, hp, rfl, IV⟩ := hrel
        by_cases hlt : p < 5
        · have c0 := IV.out.cells p hlt
          have hBw := IV.out.hB
          have g2 : (p : Int) < 5 := by omega
          have g0 : (0 : Int) ≤ (p : Int) := by omega
          obtain ⟨a, cp, hv, ha⟩ := Ap.fam_slice IV.out.fam hlt
          have hshort := IV.out.fam.short p hlt
          have O0 := hid (IV.out.fam.own p hlt)
          generalize hl : (Mx p).length = len at *
          rw [hv] at c0
          have HV := hid hv
          have HL := hid hl
          clear hv hl ha
          generalize wr = wB at *
          go_wp2_with fail
          go_loopw [7, 8] (fun g k wr => ∃ q : Nat, q ≤ 40 ∧ k = .int .i64 q ∧ Hid (Ap.InvB 3 22 5 bhI w wr base B off f h Mx p) ∧ Hid (Ap.Ow 3 wr base g (Mx p ++ Ap.BH bhI p q)) ∧ Hid ((g.ownBlock = (f p).ownBlock ∨ ∃ b, g.ownBlock = some b ∧ wB.heap.size ≤ b) ∧ wB.heap.size ≤ wr.heap.size)) (fun _ k _ => 40 - (intOf k).toNat)
          case atStart => exact ⟨0, by omega, rfl, IV, hid (by have := O0.out; rw [HV.out] at this; simpa [Ap.BH, Ap.Ow, HL.out] using this), hid ⟨Or.inl (by rw [HV.out]), Nat.le_refl _⟩⟩
          case round =>
            obtain ⟨q, hq, rfl, IW, OW, HG9⟩ := hrel
            by_cases hlq : q < 40
            · have g3 : (q : Int) < 40 := by omega
              have hlen : (Mx p ++ Ap.BH bhI p q).length = len + q := by rw [List.length_append, Ap.bh_len, HL.out]
              have O1 := OW
              clear OW
              generalize hQ : Mx p ++ Ap.BH bhI p q = Q at *
              have I2 := hid (IW.out.low (Ap.belowA wr (.cells #[bhI p q] 3)) HBASE.out)
              have Z2 := hid HG9.out.2
              have hb0 : base ≤ wr.heap.size := Nat.le_trans HBASE.out IW.out.below.size
              unfold bhI at I2
              go_wp2_with (at_builtin; refine Ap.wpList_append_stays _ rfl _ _ 22 rfl base 3 i0 (.int .i64 0) 1 8 Tryd.underlying22 hi0 hz0 hz1 hz2 rfl (by decide) _ _ _ rfl (World.ownsRow.alloc O1.out _) ⟨wr.heap.size, 0, none⟩ 1 1 [.int .i64 (1000000 * ((p : Int) + 1) + (q : Int))] rfl rfl (Ap.one_at _ _ _) (fun x hx => by simp at hx; rcases hx with rfl; rfl) (by unfold maxLen; omega) (by omega) (by simp; omega) (by decide) ?_; intro v' w3 hown' hgrow3 hst3 hblk3)
              have hvv := HG9.out.1
              have I3 := hid (I2.out.app (n := Q.length) hlt (by rw [hlen, HL.out]; omega) HBASE.out (by
                rcases hvv with e | ⟨b, e, hb⟩
                · exact Or.inl e
                · exact Or.inr ⟨b, e, fun j hj e' => by have := ((IV.out.fam.own j hj).lt b e').2; omega, fun j hj e' => by have := ((IV.out.own j hj).lt b e').2; omega, by have := IV.out.hB; omega, by have := IV.out.hG; omega⟩) (HN.out p hlt) (fun e => HG.out p _ hlt e rfl) (fun b e => (O1.out.lt b e).1) hgrow3 hst3)
              have O3 := hid (show Ap.Ow 3 w3 base v' (Mx p ++ Ap.BH bhI p (q + 1)) by rw [Ap.bh_next, ← List.append_assoc, hQ]; exact Ap.ow_snoc hown')
              have G3 := hid (show (v'.ownBlock = (f p).ownBlock ∨ ∃ b, v'.ownBlock = some b ∧ wB.heap.size ≤ b) ∧ wB.heap.size ≤ w3.heap.size from ⟨by
                rcases hblk3 with e | e
                · rw [e]; exact hvv
                · exact Or.inr ⟨_, e, by have := Z2.out; simp; omega⟩, by have := hgrow3.size; have := Z2.out; simp at *; omega⟩)
              clear hown' hgrow3 hst3 hblk3 hvv
              go_wp2_with fail
              exact ⟨⟨q + 1, by omega, by go_num, I3, O3, G3⟩, by simp [intOf]; omega⟩
            · obtain rfl : q = 40 := by omega
              have g3 : ¬ ((40 : Nat) : Int) < 40 := by omega
              have hvv := HG9.out.1
              have own := OW.out
              rcases own.2 with ⟨e, hz⟩ | ⟨gb, cp', cur', e, _⟩
              · rw [List.length_append, Ap.bh_len] at hz; omega
              subst e
              have J := hid (IW.out.put hlt OW.out HBASE.out (by omega) (by
                rcases hvv with e | ⟨b, e, hb⟩
                · exact Or.inl e
                · exact Or.inr ⟨b, e, fun j hj e' => by have := ((IV.out.fam.own j hj).lt b e').2; omega, by have := IV.out.hG; omega⟩) (fun j hj e => HG.out j _ hj e rfl))
              obtain ⟨cg, h1, h2, -⟩ := IW.out.gs
              obtain ⟨x0, ex⟩ : ∃ u, cg[p]? = some u := ⟨_, Array.getElem?_eq_getElem (by omega)⟩
              have k0 := (cell_of_row wr w.heap.size p cg _ _ h1).trans ex
              have f0 := frozen_of_row wr w.heap.size p cg _ h1
              generalize (Mx p ++ Ap.BH bhI p 40).length = nn at *
              clear own hvv h1 h2 ex OW
              go_wp2_with fail
              exact ⟨⟨p + 1, _, by omega, by go_num, J⟩, by simp [intOf]; omega⟩
        · obtain rfl : p = 5 := by omega
          have g2 : ¬ ((5 : Nat) : Int) < 5 := by omega
          have KC := IV
          clear IV J0
          generalize wr = wC at *
          go_wp2_with fail
          go_loopw [9] (fun i wr => ∃ p : Nat, p ≤ 5 ∧ i = .int .i64 p ∧ Hid (Ap.InvB 3 22 5 bhI w wr base B off f h Mx 5)) (fun i _ => 5 - (intOf i).toNat)
          case atStart => exact ⟨0, by omega, rfl, KC⟩
          case round =>
            obtain ⟨p, hp, rfl, IV⟩ := hrel
            by_cases hlt : p < 5
            · have g2 : (p : Int) < 5 := by omega
              have g0 : (0 : Int) ≤ (p : Int) := by omega
              obtain ⟨a, cp, hv, ha⟩ := Ap.fam_slice IV.out.fam hlt
              have hshort := IV.out.fam.short p hlt
              have HMp := hid (HMK.out p hlt)
              have c0 := IV.out.cells p hlt
              have hBw := IV.out.hB
              generalize hl : (Mx p).length = len at *
              rw [hv] at c0
              have HV := hid hv
              have HL := hid hl
              have HA := hid ha
              clear hv hl ha
              go_wp2_with fail
              go_loopw [10] (fun k wr => ∃ q : Nat, q ≤ len ∧ k = .int .i64 q ∧ Hid (Ap.InvB 3 22 5 bhI w wr base B off f h Mx 5)) (fun k _ => len - (intOf k).toNat)
              case atStart => exact ⟨0, Nat.zero_le _, rfl, IV⟩
              case round =>
                obtain ⟨q, hq, rfl, IW⟩ := hrel
                have c1 := IW.out.cells p hlt
                rw [HV.out] at c1
                have hB1 := IW.out.hB
                by_cases hlq : q < len
                · have g3 : (q : Int) < (len : Int) := by omega
                  have g4 : (0 : Int) ≤ (q : Int) := by omega
                  obtain ⟨g, rfl⟩ := HA.out (by omega)
                  have own := IW.out.fam.own p hlt
                  unfold Ap.Ow at own
                  rw [HV.out, HL.out] at own
                  obtain ⟨d0, hgl⟩ := Ap.ow_at own (HMp.out q hlq)
                  clear own
                  unfold mkI at d0
                  go_wp2_with fail
                  exact ⟨⟨q + 1, by omega, by go_num, IW⟩, by simp [intOf]; omega⟩
                · obtain rfl : q = len := by omega
                  have g3 : ¬ (q : Int) < (q : Int) := by omega
                  go_wp2_with fail
                  go_loopw [11] (fun k wr => ∃ r : Nat, r ≤ 40 ∧ k = .int .i64 r ∧ Hid (Ap.InvB 3 22 5 bhI w wr base B off f h Mx 5)) (fun k _ => 40 - (intOf k).toNat)
                  case atStart => exact ⟨0, Nat.zero_le _, rfl, IW⟩
                  case round =>
                    obtain ⟨r, hr, rfl, IX⟩ := hrel
                    have c2 := IX.out.cells p hlt
                    rw [HV.out] at c2
                    have hB2 := IX.out.hB
                    by_cases hlr : r < 40
                    · have g5 : (r : Int) < 40 := by omega
                      obtain ⟨cg, h1, -, h3⟩ := IX.out.gs
                      have kg := (cell_of_row wr w.heap.size p cg _ _ h1).trans (h3 p hlt)
                      have hGl := IX.out.hG
                      have own := IX.out.own p hlt
                      have hnl : (Mx p ++ Ap.BH bhI p 40).length = q + 40 := by rw [List.length_append, Ap.bh_len, HL.out]
                      rcases own.2 with ⟨e, hz⟩ | ⟨gb, cp', cur', e, -, -, hncp, -, -, -⟩
                      · omega
                      rw [e] at kg own
                      obtain ⟨d0, hgl⟩ := Ap.ow_at own (Ap.bh_at (Mx p) p 40 r hlr)
                      rw [HL.out] at d0
                      rw [hnl] at kg
                      unfold bhI at d0
                      clear own h1 h3 e hncp
                      have g6 : (q : Int) + (r : Int) < ((q + 40 : Nat) : Int) := by omega
                      have g7 : (0 : Int) ≤ (q : Int) + (r : Int) := by omega
                      have I9 := hid (IX.out.low (Below.refl _ _).drew HBASE.out)
                      go_wp2_with fail
                      go_region
                      go_wp2_with fail
                      exact ⟨⟨r + 1, by omega, by go_num, I9⟩, by simp [intOf]; omega⟩
                    · obtain rfl : r = 40 := by omega
                      have g5 : ¬ ((40 : Nat) : Int) < 40 := by omega
                      go_wp2_with fail
                      exact ⟨⟨p + 1, by omega, by go_num, IX⟩, by simp [intOf]; omega⟩
            · obtain rfl : p = 5 := by omega
              have g9 : ¬ ((5 : Nat) : Int) < 5 := by omega
              go_wp2_with fail
              go_ret
              exact ⟨rfl, IV.out.below, IV.out.kept⟩
end Go.Proofs.YtkagdmhijjfnnabDoor
