import Derived.Test.YtdhjoimiejdgbaaDoorStp
import Derived.Test.YtdhjoimiejdgbaaDoorCha
import Derived.Test.YtdhjoimiejdgbaaDoorLo1
namespace Go.Proofs.YtdhjoimiejdgbaaDoor.L
open Go.RowKit Bs Go.Maps
set_option linter.unusedVariables false
theorem step_op {w0 W : World} {B : Nat} {st : Nat → St} (h : Wh w0 W B st) (hr : Re st) (ta : Tab w0) (k oa ot ov : Int) (s : ByteArray) (hs : s.size ≤ maxLen) :
    Calls Tryd.prog 11 #[.pointer (some ⟨B, 0, none⟩), .agg #[.int .i64 k, .int .i64 oa, .int .i64 ot, .string s, .int .i64 ov]] W fun e w' => e = .returned (.bool true) ∧ ∃ st', Wh w0 w' B st' ∧ Re st' := by
  by_cases h1 : k = 1
  · subst h1; exact st_ch1 w0 W B st oa ot ov s (fun W' i hi hW => ch_all1 hW hr i hi oa ot ov s) h hr
  by_cases h2 : k = 2
  · subst h2; exact st_ch2 w0 W B st oa ot ov s (fun W' i hi hW => ch_all2 hW hr ta i hi oa ot ov s hs) h hr
  by_cases h3 : k = 3
  · subst h3; exact st_ch3 w0 W B st oa ot ov s (fun W' i hi hW => ch_all3 hW hr ta i hi oa ot ov s hs) h hr
  by_cases h4 : k = 4
  · subst h4; exact st_ch4 w0 W B st oa ot ov s (fun W' i hi hW => ch_all4 hW hr ta i hi oa ot ov s hs) h hr
  by_cases h5 : k = 5
  · subst h5; exact st_find w0 W B st oa ot ov s hs h hr
  by_cases h6 : k = 6
  · subst h6; exact st_at w0 W B st oa ot ov s h hr
  by_cases h7 : k = 7
  · subst h7; exact st_len w0 W B st oa ot ov s h hr
  by_cases h8 : k = 8
  · subst h8; exact st_names w0 W B st oa ot ov s h hr
  by_cases h9 : k = 9
  · subst h9; exact st_all w0 W B st oa ot ov s h hr
  by_cases h10 : k = 10
  · subst h10; exact st_copy w0 W B st oa ot ov s h hr
  have n : ∀ q : Int, k ≠ q → (k == q) = false := fun q hq => beq_eq_false_iff_ne.2 hq
  exact st_other w0 W B st oa ot ov s k (n _ h1) (n _ h2) (n _ h3) (n _ h4) (n _ h5) (n _ h6) (n _ h7) (n _ h8) (n _ h9) (n _ h10) h hr
set_option maxHeartbeats 8000000 in
set_option maxRecDepth 100000 in
theorem answers_law (v : Value) (os : List Opd) (w : World) (hv : ItemsO w v os) (hg : GoodO os) (ht : Tab w) :
    Calls Tryd.prog 3 #[v] w fun e w' => e = .returned (.bool true) ∧ Below w.heap.size w w' := by
  have FX := hid (fixed_any w ht)
  obtain ⟨a, cap, rfl, hi⟩ := hv
  have hl := hg.1
  have HG := hid hg.2
  obtain ⟨L, hL⟩ : ∃ L, L = os.length := ⟨_, rfl⟩
  rw [← hL] at hl ⊢
  have HI := hid hi
  have HL := hid hL
  have HT := hid ht
  unfold maxLen at hl
  clear hL hg hi ht
  generalize hQ : (fun (e : Ending) (w' : World) => e = .returned (.bool true) ∧ Below w.heap.size w w') = Q
  have HQ := hid hQ
  clear hQ
  go_enter Tryd.func3, Tryd.ntmps3
  go_wp2_with (first
    | (go_at_call 9; refine FX.out.mono ?_; rintro e w1 ⟨rfl, B1⟩)
    | (go_at_call 10; refine (begin_any _).mono ?_; rintro e w2 ⟨B, st0', rfl, hW0, hR0⟩))
  have TA := hid (HT.out.low B1)
  have BW := hid B1
  have H0 : Hid (∃ st, Wh w1 w2 B st ∧ Re st) := hid ⟨_, hW0, hR0⟩
  clear hW0 hR0 B1 FX
  go_loopw [18] (fun i wr => ∃ k : Nat, k ≤ L ∧ i = .int .i64 k ∧ Hid (∃ st, Wh w1 wr B st ∧ Re st)) (fun i _ => L - (intOf i).toNat)
  case atStart => exact ⟨0, Nat.zero_le _, rfl, H0⟩
  case round =>
    clear H0
    obtain ⟨k, hk, rfl, HX⟩ := hrel
    obtain ⟨st, hWs, hRs⟩ := HX.out
    have HW := hid hWs
    have HR := hid hRs
    clear HX hWs hRs
    by_cases hlt : k < L
    · have hkl : k < os.length := by rw [← HL.out]; exact hlt
      rcases HI.out with h0 | ⟨b, off, ea, hbl, hc⟩
      · omega
      subst ea
      obtain ⟨x0, x1, x2, x3, x4⟩ := hc k hkl
      have BL := hid (BW.out.trans (HW.out.lo.mono BW.out.size))
      rw [← BL.out.cell (p := ⟨b, off + k * 5, none⟩) hbl] at x0
      rw [← BL.out.cell (p := ⟨b, off + k * 5 + 1, none⟩) hbl] at x1
      rw [← BL.out.cell (p := ⟨b, off + k * 5 + 2, none⟩) hbl] at x2
      rw [← BL.out.cell (p := ⟨b, off + k * 5 + 3, none⟩) hbl] at x3
      rw [← BL.out.cell (p := ⟨b, off + k * 5 + 4, none⟩) hbl] at x4
      have hsz := HG.out _ (List.getElem_mem hkl)
      generalize os[k].k = kk at *
      generalize os[k].a = oa at *
      generalize os[k].t = ot at *
      generalize os[k].s = s at *
      generalize os[k].v = ov at *
      have CS := hid (step_op (HW.out.low ((Below.refl wr.heap.size wr).alloc (Nat.le_refl _) (.cells #[.int .i64 kk, .int .i64 oa, .int .i64 ot, .string s, .int .i64 ov] 28))) HR.out TA.out kk oa ot ov s hsz)
      clear hc hkl hsz
      go_wp2_with (go_at_call 11; refine CS.out.mono ?_; rintro e w5 ⟨rfl, hst⟩; have HS5 := hid hst; clear hst)
      exact ⟨⟨k + 1, by omega, by go_num, HS5⟩, by simp [intOf]; omega⟩
    · have hkL : L = k := by omega
      subst hkL
      have H1 : Hid (∃ st, Wh w1 wr B st ∧ Re st) := hid ⟨st, HW.out, HR.out⟩
      clear HW HR
      go_wp2_with fail
      go_loopw [27] (fun i wr => ∃ k : Nat, k ≤ 4 ∧ i = .int .i64 k ∧ Hid (∃ st, Wh w1 wr B st ∧ Re st)) (fun i _ => 4 - (intOf i).toNat)
      case atStart => exact ⟨0, Nat.zero_le _, rfl, H1⟩
      case round =>
        clear H1
        obtain ⟨k, hk, rfl, HX⟩ := hrel
        obtain ⟨st, hWs, hRs⟩ := HX.out
        have HW := hid hWs
        have HR := hid hRs
        clear HX hWs hRs
        by_cases hlt : k < 4
        · obtain ⟨b, hb⟩ := (HW.out.tq k hlt).form
          obtain ⟨va, vc, hv⟩ := own_len (HW.out.od k hlt)
          obtain ⟨c0, c1, c2⟩ := HW.out.cells hlt
          rw [hb] at c0
          rw [hv] at c2
          have SD := hid (sd_of hlt HW.out HR.out hb hv)
          generalize (st k).mo = mo at *
          generalize hLe : (st k).d.length = Ld at *
          have HLE := hid hLe.symm
          clear hLe hb hv
          have SN := hid (fun W (h : Below wr.heap.size wr W) => seen_any (.pointer b) (st k).m (st k).l (st k).F mo va Ld vc (st k).d W HLE.out (SD.out.low h))
          have hk4 : (k : Int) < 4 := by omega
          clear SD HLE
          go_wp2_with fail
          go_region_held3 (fun X => X.cell? ⟨B, k, none⟩ = some (.pointer b) ∧ X.cell? ⟨B, 4 + k * 2, none⟩ = some (.int .i64 mo) ∧ X.cell? ⟨B, 4 + k * 2 + 1, none⟩ = some (.slice va Ld vc))
            (first | exact ⟨c0, c1, c2⟩ | exact T2)
            (first
              | (go_at_call 12; refine (SN.out _ (belowDr wr)).mono ?_; rintro e w5 ⟨rfl, hb⟩
                 have W5 := hid (HW.out.low (belowU hb))
                 have T2 := And.intro ((hb.cell (p := ⟨B, k, none⟩) HW.out.lt).trans c0) (And.intro ((hb.cell (p := ⟨B, 4 + k * 2, none⟩) HW.out.lt).trans c1) ((hb.cell (p := ⟨B, 4 + k * 2 + 1, none⟩) HW.out.lt).trans c2))
                 clear hb))
          go_wp2_with fail
          exact ⟨⟨k + 1, by omega, by go_num, hid ⟨st, W5.out, HR.out⟩⟩, by simp [intOf]; omega⟩
        · obtain rfl : k = 4 := by omega
          go_wp2_with fail
          rw [← HQ.out]
          exact ⟨rfl, BW.out.trans (HW.out.lo.mono BW.out.size)⟩
end Go.Proofs.YtdhjoimiejdgbaaDoor.L
