import Derived.Test.YtodamoblnlcodaaDoorRrs
namespace Go.Proofs.YtodamoblnlcodaaDoor.L
open Go.RowKit
set_option linter.unusedVariables false
def slLen : Value → Nat
  | .slice _ n _ => n
  | _ => 0
theorem own_drewN {w : World} {base : Nat} {v : Value} {l : List Lb} (h : Own w base v l) (n : Nat) : Own (w.drewN n) base v l := own_low h (below_drewN (Below.refl _ _) n)
theorem ky_last (o : List Lb) (y : Lb) : ky (o ++ [y]) o.length = y.1 := by
  unfold ky
  simp
set_option maxHeartbeats 16000000 in
set_option maxRecDepth 100000 in
theorem rrise_any (v : Value) (l : List Lb) (w : World) (hi : Items w v l) (hlen : l.length ≤ 64) (hd : Dist l) :
    Calls Tryd.prog 15 #[v] w fun e w' => ∃ v' l', e = .returned v' ∧ Items w' v' l' ∧ l'.Perm l ∧ Up l' ∧ Below w.heap.size w w' := by
  obtain ⟨i0, hi0, hz0, hz1, hz2⟩ := info_parts infoL
  obtain ⟨a, cap, rfl, x1⟩ := hi
  have HDI := hid (fun i j (hi : i < l.length) (hj : j < l.length) (hne : i ≠ j) => dist_ky hd hi hj hne)
  have HD := hid hd
  have HPM := hid (fun (r : List Lb) (p : ByteArray → Bool) hp hsub (a : Int) hr h => pass_mem (l := l) (r := r) (p := p) hp hsub (a := a) hr h)
  obtain ⟨len, hle⟩ : ∃ n, n = l.length := ⟨_, rfl⟩
  have N1 := hid hle
  rw [← hle] at hlen x1 HDI HPM ⊢
  have HX := hid x1
  clear hle hd x1
  go_enter Tryd.func15, Tryd.ntmps15
  go_wp2
  go_loopw [3] (fun o wr => ∃ (os rs : List Lb), Hid (RS l os rs) ∧ Hid (Below w.heap.size w wr) ∧ Hid (Own wr w.heap.size o os)) (fun o _ => len - slLen o)
  case atStart => exact ⟨[], l, hid ⟨List.Perm.refl _, List.Pairwise.nil, fun x hx => by simp at hx⟩, hid (Below.refl _ _), hid (World.ownsRow_nil _ _ _ _)⟩
  case round =>
    obtain ⟨os, rs, HRS, BE, OW⟩ := hrel
    have hws : w.heap.size ≤ wr.heap.size := BE.out.size
    have HIO := hid (own_items OW.out)
    obtain ⟨ao, co, e⟩ : ∃ a cap, _ = Value.slice a os.length cap := by
      obtain ⟨a', c', e, _⟩ := HIO.out
      exact ⟨a', c', e⟩
    subst e
    have hsum := rs_len HRS.out
    rw [← N1.out] at hsum
    have HPA := hid (pas_mem HRS.out)
    have HSU := hid (rs_sub HRS.out)
    by_cases hlt : os.length < len
    · have HRN := hid (show rs ≠ [] by rintro rfl; simp at hsum; omega)
      rcases HX.out with h0 | ⟨b, off, rfl, hbl, hc⟩
      · omega
      have hcw : ∀ j, j < len → wr.cell? ⟨b, off + j * 2, none⟩ = some (.string (ky l j)) ∧ wr.cell? ⟨b, off + j * 2 + 1, none⟩ = some (.string (vl l j)) := fun j hj => by
        rw [BE.out.cell (p := ⟨b, off + j * 2, none⟩) hbl, BE.out.cell (p := ⟨b, off + j * 2 + 1, none⟩) hbl]
        exact hc j hj
      have HCW := hid hcw
      have hsz : b < wr.heap.size := Nat.lt_of_lt_of_le hbl BE.out.size
      clear hc hcw
      rcases List.eq_nil_or_concat os with e | ⟨os', y, e⟩
      · subst e
        have hno : ([] : List Lb).length = 0 := rfl
        have HPS := hid (show ∀ s, pas [] s = true from fun s => rfl)
        rw [hno] at hlt hsum ⊢
        obtain ⟨OS, hOS⟩ : ∃ z, z = ([] : List Lb) := ⟨_, rfl⟩
        rw [← hOS] at HRS OW HPA HPS HIO
        clear HIO
        have HNO := hid (show OS.length = 0 by rw [hOS]; exact hno)
        clear hno hOS
        go_wp2
        go_loopw [4, 5] (fun x i wr' => ∃ (m : Nat) (at_ : Int), m ≤ len ∧ i = .int .i64 m ∧ x = .int .i64 at_ ∧ -1 ≤ at_ ∧ at_ ≤ 64 ∧ Hid (Lea l (pas OS) m at_) ∧ ∃ n, wr' = wr.drewN n) (fun _ i _ => len - (intOf i).toNat)
        case atStart => exact ⟨0, -1, Nat.zero_le _, rfl, rfl, by omega, by omega, hid (Or.inl ⟨rfl, fun j hj => by omega⟩), 0, rfl⟩
        case round =>
          obtain ⟨m, at_, hm, rfl, rfl, ha1, ha2, LE, ⟨nd, rfl⟩⟩ := hrel
          by_cases hlm : m < len
          · obtain ⟨c0, c1⟩ := HCW.out m hlm
            have hb1 : (m : Int) < (len : Int) := by omega
            have hb2 : (0 : Int) ≤ (m : Int) := by omega
            have lem := LE.out
            have gp : pas OS (ky l m) = true := HPS.out _
            rcases lem with ⟨rfl, h2⟩ | ⟨q', rfl, h2, h3, h4⟩
            · have LN := hid (lea_first h2 gp)
              generalize ky l m = sm at *
              generalize vl l m = nmm at *
              clear LE h2 gp
              go_wp2_with fail
              go_quiet (fail)
              go_wp2_with fail
              go_quiet (fail)
              go_wp2_with fail
              exact ⟨⟨m + 1, m, by omega, by go_num, rfl, by omega, by omega, LN, ⟨_, rfl⟩⟩, by simp [intOf]; omega⟩
            · obtain ⟨d0, d1⟩ := HCW.out q' (by omega)
              have hq1 : ¬ (q' : Int) < 0 := by omega
              have hq2 : q' < len := by omega
              have hq3 : (q' : Int) < (len : Int) := by omega
              have hq4 : (0 : Int) ≤ (q' : Int) := by omega
              cases hl : Op.bytesLess (ky l m).toList (ky l q').toList
              · have LN := hid (lea_keep h2 h3 h4 (HDI.out m q' hlm hq2 (by omega)) hl)
                generalize ky l m = sm at *
                generalize vl l m = nmm at *
                generalize ky l q' = sq at *
                generalize vl l q' = nq' at *
                clear LE h4 h3 gp
                go_wp2_with fail
                go_quiet (fail)
                go_wp2_with fail
                go_quiet (fail)
                go_wp2_with fail
                exact ⟨⟨m + 1, q', by omega, by go_num, rfl, by omega, by omega, LN, ⟨_, rfl⟩⟩, by simp [intOf]; omega⟩
              · have LN := hid (lea_take h4 gp hl)
                generalize ky l m = sm at *
                generalize vl l m = nmm at *
                generalize ky l q' = sq at *
                generalize vl l q' = nq' at *
                clear LE h4 h3 gp
                go_wp2_with fail
                go_quiet (fail)
                go_wp2_with fail
                go_quiet (fail)
                go_wp2_with fail
                exact ⟨⟨m + 1, m, by omega, by go_num, rfl, by omega, by omega, LN, ⟨_, rfl⟩⟩, by simp [intOf]; omega⟩
          · obtain rfl : m = len := by omega
            obtain ⟨q, rfl, hq, hqm, hqa⟩ := HPM.out rs _ HPA.out HSU.out at_ HRN.out LE.out
            obtain ⟨rn, hrn⟩ := rs_next HD.out HRS.out hqm hqa
            have RN := hid hrn
            obtain ⟨d0, d1⟩ := HCW.out q hq
            have hq1 : ¬ (q : Int) < 0 := by omega
            have hnl := HNO.out
            have OW2 := hid (show Own wr w.heap.size (.slice ao 0 co) OS by have := OW.out; rwa [HNO.out] at this)
            generalize ky l q = sT at *
            generalize vl l q = nT at *
            clear LE hqm hqa hrn
            go_wp2_with (first
              | (at_builtin; refine wpList_append_own _ rfl _ _ 22 rfl w.heap.size 27 i0 (.agg #[.string ByteArray.empty, .string ByteArray.empty]) 2 32 Tryd.underlying22 hi0 hz0 hz1 hz2 rfl (by decide) _ _ _ rfl (World.ownsRow.alloc (show (wr.drewN nd).ownsRow w.heap.size 27 2 _ 0 (cellsF OS) from by have := own_drewN OW2.out nd; unfold Own at this; rw [HNO.out] at this; exact this) _) ⟨wr.heap.size, 0, none⟩ 1 1 [.string sT, .string nT] rfl rfl (cell_two_at _ _ _ _ _ (by simp)) (fun x hx => by simp at hx; rcases hx with rfl | rfl <;> rfl) (by unfold maxLen; omega) (by omega) (by simp; omega) ?_; intro v' w3 hown' hgrow3 hnil3)
              | go_in)
            clear hnil3
            have BE3 : Below w.heap.size w w3 := ((below_drewN BE.out _).alloc hws _).grown hgrow3 (by simp; omega) (fun j hj => own_base OW2.out j hj)
            have O3 : Own w3 w.heap.size v' (OS ++ [(sT, nT)]) := own_snoc (x := (sT, nT)) (by rw [HNO.out]; exact hown')
            obtain ⟨a3, c3, e3, _⟩ := own_items O3
            exact ⟨⟨OS ++ [(sT, nT)], rn, RN, hid BE3, hid O3⟩, by rw [e3]; simp [slLen, HNO.out]; omega⟩
      · rw [List.concat_eq_append] at e
        subst e
        have HPS := hid (fun s => pas_snoc os' y s)
        obtain ⟨bo, oo, rfl, hbo, hyc⟩ : ∃ bo oo, ao = some ⟨bo, oo, none⟩ ∧ bo < wr.heap.size ∧ wr.cell? ⟨bo, oo + os'.length * 2, none⟩ = some (.string y.1) := by
          obtain ⟨a', c', e, h⟩ := HIO.out
          cases e
          rcases h with h | ⟨b', o', rfl, h1, h2⟩
          · simp at h
          · refine ⟨b', o', rfl, h1, ?_⟩
            have := (h2 os'.length (by simp)).1
            rwa [ky_last] at this
        obtain ⟨pl, hpl⟩ : ∃ n, n = os'.length := ⟨_, rfl⟩
        have hno : (os' ++ [y]).length = pl + 1 := by rw [hpl]; simp
        rw [← hpl] at hyc
        obtain ⟨yk, hyk⟩ : ∃ s, s = y.1 := ⟨_, rfl⟩
        rw [← hyk] at hyc HPS
        have gpl : (0 : Int) < ((pl + 1 : Nat) : Int) := by omega
        rw [hno] at hlt hsum ⊢
        obtain ⟨OS, hOS⟩ : ∃ z, z = (os' ++ [y]) := ⟨_, rfl⟩
        rw [← hOS] at HRS OW HPA HPS HIO
        clear HIO
        have HNO := hid (show OS.length = pl + 1 by rw [hOS]; exact hno)
        clear hno hOS hpl hyk
        have hlt2 : (pl : Int) + 1 < (len : Int) := by omega
        go_wp2
        go_loopw [4, 5] (fun x i wr' => ∃ (m : Nat) (at_ : Int), m ≤ len ∧ i = .int .i64 m ∧ x = .int .i64 at_ ∧ -1 ≤ at_ ∧ at_ ≤ 64 ∧ Hid (Lea l (pas OS) m at_) ∧ ∃ n, wr' = wr.drewN n) (fun _ i _ => len - (intOf i).toNat)
        case atStart => exact ⟨0, -1, Nat.zero_le _, rfl, rfl, by omega, by omega, hid (Or.inl ⟨rfl, fun j hj => by omega⟩), 0, rfl⟩
        case round =>
          obtain ⟨m, at_, hm, rfl, rfl, ha1, ha2, LE, ⟨nd, rfl⟩⟩ := hrel
          by_cases hlm : m < len
          · obtain ⟨c0, c1⟩ := HCW.out m hlm
            have hb1 : (m : Int) < (len : Int) := by omega
            have hb2 : (0 : Int) ≤ (m : Int) := by omega
            have lem := LE.out
            rcases less_total (ky l m).toList yk.toList with g | g | g
            · have LN := hid (lea_skip lem (by rw [HPS.out]; exact (less_asymm _ _ g).1))
              generalize ky l m = sm at *
              generalize vl l m = nmm at *
              clear LE lem
              go_wp2_with fail
              go_quiet (fail)
              go_wp2_with fail
              exact ⟨⟨m + 1, at_, by omega, by go_num, rfl, by omega, by omega, LN, ⟨_, rfl⟩⟩, by simp [intOf]; omega⟩
            · have LN := hid (lea_skip lem (by rw [HPS.out, g]; exact less_irrefl _))
              have f2 := less_irrefl yk.toList
              generalize ky l m = sm at *
              generalize vl l m = nmm at *
              clear LE lem
              go_wp2_with fail
              go_quiet (fail)
              go_wp2_with fail
              exact ⟨⟨m + 1, at_, by omega, by go_num, rfl, by omega, by omega, LN, ⟨_, rfl⟩⟩, by simp [intOf]; omega⟩
            · obtain ⟨f1, f2, f3⟩ := less_asymm _ _ g
              have gp : pas OS (ky l m) = true := by rw [HPS.out]; exact g
              rcases lem with ⟨rfl, h2⟩ | ⟨q', rfl, h2, h3, h4⟩
              · have LN := hid (lea_first h2 gp)
                generalize ky l m = sm at *
                generalize vl l m = nmm at *
                clear LE h2 gp
                go_wp2_with fail
                go_quiet (fail)
                go_wp2_with fail
                go_quiet (fail)
                go_wp2_with fail
                exact ⟨⟨m + 1, m, by omega, by go_num, rfl, by omega, by omega, LN, ⟨_, rfl⟩⟩, by simp [intOf]; omega⟩
              · obtain ⟨d0, d1⟩ := HCW.out q' (by omega)
                have hq1 : ¬ (q' : Int) < 0 := by omega
                have hq2 : q' < len := by omega
                have hq3 : (q' : Int) < (len : Int) := by omega
                have hq4 : (0 : Int) ≤ (q' : Int) := by omega
                cases hl : Op.bytesLess (ky l m).toList (ky l q').toList
                · have LN := hid (lea_keep h2 h3 h4 (HDI.out m q' hlm hq2 (by omega)) hl)
                  generalize ky l m = sm at *
                  generalize vl l m = nmm at *
                  generalize ky l q' = sq at *
                  generalize vl l q' = nq' at *
                  clear LE h4 h3 gp
                  go_wp2_with fail
                  go_quiet (fail)
                  go_wp2_with fail
                  go_quiet (fail)
                  go_wp2_with fail
                  exact ⟨⟨m + 1, q', by omega, by go_num, rfl, by omega, by omega, LN, ⟨_, rfl⟩⟩, by simp [intOf]; omega⟩
                · have LN := hid (lea_take h4 gp hl)
                  generalize ky l m = sm at *
                  generalize vl l m = nmm at *
                  generalize ky l q' = sq at *
                  generalize vl l q' = nq' at *
                  clear LE h4 h3 gp
                  go_wp2_with fail
                  go_quiet (fail)
                  go_wp2_with fail
                  go_quiet (fail)
                  go_wp2_with fail
                  exact ⟨⟨m + 1, m, by omega, by go_num, rfl, by omega, by omega, LN, ⟨_, rfl⟩⟩, by simp [intOf]; omega⟩
          · obtain rfl : m = len := by omega
            obtain ⟨q, rfl, hq, hqm, hqa⟩ := HPM.out rs _ HPA.out HSU.out at_ HRN.out LE.out
            obtain ⟨rn, hrn⟩ := rs_next HD.out HRS.out hqm hqa
            have RN := hid hrn
            obtain ⟨d0, d1⟩ := HCW.out q hq
            have hq1 : ¬ (q : Int) < 0 := by omega
            have hnl := HNO.out
            have OW2 := hid (show Own wr w.heap.size (.slice (some ⟨bo, oo, none⟩) (pl + 1) co) OS by have := OW.out; rwa [HNO.out] at this)
            generalize ky l q = sT at *
            generalize vl l q = nT at *
            clear LE hqm hqa hrn
            go_wp2_with (first
              | (at_builtin; refine wpList_append_own _ rfl _ _ 22 rfl w.heap.size 27 i0 (.agg #[.string ByteArray.empty, .string ByteArray.empty]) 2 32 Tryd.underlying22 hi0 hz0 hz1 hz2 rfl (by decide) _ _ _ rfl (World.ownsRow.alloc (show (wr.drewN nd).ownsRow w.heap.size 27 2 _ (pl + 1) (cellsF OS) from by have := own_drewN OW2.out nd; unfold Own at this; rw [HNO.out] at this; exact this) _) ⟨wr.heap.size, 0, none⟩ 1 1 [.string sT, .string nT] rfl rfl (cell_two_at _ _ _ _ _ (by simp)) (fun x hx => by simp at hx; rcases hx with rfl | rfl <;> rfl) (by unfold maxLen; omega) (by omega) (by simp; omega) ?_; intro v' w3 hown' hgrow3 hnil3)
              | go_in)
            clear hnil3
            have BE3 : Below w.heap.size w w3 := ((below_drewN BE.out _).alloc hws _).grown hgrow3 (by simp; omega) (fun j hj => own_base OW2.out j hj)
            have O3 : Own w3 w.heap.size v' (OS ++ [(sT, nT)]) := own_snoc (x := (sT, nT)) (by rw [HNO.out]; exact hown')
            obtain ⟨a3, c3, e3, _⟩ := own_items O3
            exact ⟨⟨OS ++ [(sT, nT)], rn, RN, hid BE3, hid O3⟩, by rw [e3]; simp [slLen, HNO.out]; omega⟩
    · have hr : rs = [] := List.length_eq_zero_iff.1 (by omega)
      subst hr
      have HF := hid (show os.Perm l by have := HRS.out.perm; rwa [List.append_nil] at this)
      go_wp2_with fail
      go_ret
      exact ⟨_, os, rfl, HIO.out, HF.out, HRS.out.up, BE.out⟩
end Go.Proofs.YtodamoblnlcodaaDoor.L
