import Derived.Test.YtppblibcbjpfnaaDoorTl3
namespace Go.Proofs.YtppblibcbjpfnaaDoor.L
open Go.RowKit Go.Sort
set_option linter.unusedVariables false
/-- A list as Make answers it. -/
structure OkUp (l : List Tn) : Prop where
  len : l.length ≤ 16
  each : ∀ x ∈ l, tE x = 0
  up : l.Pairwise fun x y => tltB x y = true
theorem tlt_not {x y : Tn} (h : tltB x y = true) : ¬ sameK x y := fun e => by
  rw [(tlt_same (c := y) e).1, tlt_irrefl] at h
  cases h
theorem OkUp.ok {l : List Tn} (h : OkUp l) : OkT l := ⟨h.len, h.each, h.up.imp tlt_not⟩
theorem up_adj {l : List Tn} (h : ∀ j (hj : j + 1 < l.length), tltB l[j] l[j + 1] = true) : l.Pairwise fun x y => tltB x y = true := by
  rw [List.pairwise_iff_getElem]
  intro i j hi hj hij
  obtain ⟨d, rfl⟩ : ∃ d, j = i + 1 + d := ⟨j - (i + 1), by omega⟩
  induction d with
  | zero => exact h i hj
  | succ d ih => exact tlt_trans _ _ _ (ih (by omega) (by omega)) (h (i + 1 + d) hj)
theorem below_grow (w : World) (q : Nat) (os : Array Obj) : RowKit.Below w.heap.size w (grow (w.drewN q) os) := by
  refine ⟨rfl, rfl, rfl, ?_, fun k hk => ?_⟩
  · show w.heap.size ≤ (w.heap ++ os).size
    simp
  · show (w.heap ++ os)[k]? = _
    rw [Array.getElem?_append_left hk]
theorem ord_low (x y : Tn) (w : World) : Calls Tryd.prog 44 #[tv x, tv y] w fun e w' => e = .returned (.int .i64 (ordI x y)) ∧ RowKit.Below w.heap.size w w' := by
  refine (order_any x y w).mono ?_
  rintro e w' ⟨rfl, q, os, rfl⟩
  exact ⟨rfl, below_grow w q os⟩
theorem six_low {W W' : World} {b i1 i2 i3 i4 i5 i6 : Nat} {u1 u2 u3 u4 u5 u6 : Value} (h : W.cell? ⟨b, i1, none⟩ = some u1 ∧ W.cell? ⟨b, i2, none⟩ = some u2 ∧ W.cell? ⟨b, i3, none⟩ = some u3 ∧ W.cell? ⟨b, i4, none⟩ = some u4 ∧ W.cell? ⟨b, i5, none⟩ = some u5 ∧ W.cell? ⟨b, i6, none⟩ = some u6) (hb : RowKit.Below W.heap.size W W') (h1 : b < W.heap.size) :
    W'.cell? ⟨b, i1, none⟩ = some u1 ∧ W'.cell? ⟨b, i2, none⟩ = some u2 ∧ W'.cell? ⟨b, i3, none⟩ = some u3 ∧ W'.cell? ⟨b, i4, none⟩ = some u4 ∧ W'.cell? ⟨b, i5, none⟩ = some u5 ∧ W'.cell? ⟨b, i6, none⟩ = some u6 := by
  obtain ⟨a1, a2, a3, a4, a5, a6⟩ := h
  exact ⟨(hb.cell (p := ⟨b, i1, none⟩) h1).trans a1, (hb.cell (p := ⟨b, i2, none⟩) h1).trans a2, (hb.cell (p := ⟨b, i3, none⟩) h1).trans a3, (hb.cell (p := ⟨b, i4, none⟩) h1).trans a4, (hb.cell (p := ⟨b, i5, none⟩) h1).trans a5, (hb.cell (p := ⟨b, i6, none⟩) h1).trans a6⟩
/-- What Check answers. -/
def ChR (l : List Tn) (e : Int) : Prop := (e ≠ 0 ∧ ∃ a, CE l a e) ∨ (CE l 0 0 ∧ e = 45 ∧ ¬ OkUp l) ∨ (e = 0 ∧ OkUp l)
theorem ch_one {l : List Tn} {e e' : Int} (h : ChR l e) (h' : ChR l e') : e = e' := by
  rcases h with ⟨hn, a, h⟩ | ⟨h, rfl, hu⟩ | ⟨rfl, ho⟩ <;> rcases h' with ⟨hn', a', h'⟩ | ⟨h', rfl, hu'⟩ | ⟨rfl, ho'⟩
  · exact (ce_one h h').2
  · exact absurd (ce_one h h').2 hn
  · exact absurd (ce_one h (okT_ce ho'.ok)).2 hn
  · exact absurd (ce_one h' h).2 hn'
  · rfl
  · exact absurd ho' hu
  · exact absurd (ce_one h' (okT_ce ho.ok)).2 hn'
  · exact absurd ho hu'
  · rfl
set_option maxHeartbeats 4000000 in
set_option maxRecDepth 100000 in
theorem check_any (v : Value) (l : List Tn) (w : World) (hc : ItemsG 3 tf w v l) (hg : GoodT l) : Calls Tryd.prog 17 #[v] w fun e w' => ∃ er : Int, e = .returned (.int .i64 er) ∧ RowKit.Below w.heap.size w w' ∧ ((0 ≤ er ∧ er ≤ 1000) ∧ ChR l er) ∧ (er = 0 ↔ OkUp l) := by
  have HE := hid (each_any v l w hc hg)
  have hl := hg.1.1
  unfold maxLen at hl
  obtain ⟨a, cap, rfl, hc⟩ := hc
  have HA := hid hc
  have HM := hid (fun x y W => ord_low x y W)
  clear hc
  obtain ⟨len, hlen⟩ : ∃ n, n = l.length := ⟨_, rfl⟩
  have HLEN := hid hlen
  rw [← hlen] at hl HE ⊢
  clear hlen hg
  go_enter Tryd.func17, Tryd.ntmps17
  go_wp2_with fail
  refine HE.out.mono ?_
  rintro e w1 ⟨at', er, rfl, hce, hb⟩
  have B1 := hid hb
  clear hb HE
  rcases hce.cases with ⟨h1, h2, h3, h4⟩ | ⟨rfl, rfl, h3, h4⟩
  · have h1' : (er != 0) = true := by simpa using h1
    have R := hid (show ((0 ≤ er ∧ er ≤ 1000) ∧ ChR l er) ∧ (er = 0 ↔ OkUp l) from ⟨⟨by omega, Or.inl ⟨h1, at', hce⟩⟩, ⟨fun h => absurd h h1, fun h => absurd h.ok h4⟩⟩)
    clear h1 h2 h3 h4 hce
    go_wp2_with fail
    go_ret
    exact ⟨_, rfl, B1.out, R.out.1, R.out.2⟩
  · have H16 := hid h3
    have HEA := hid h4
    have HCE := hid hce
    clear h3 h4 hce
    go_wp2_with fail
    go_loopw [5] (fun i wr => ∃ k : Nat, i = .int .i64 (k + 1 : Nat) ∧ (k + 1 ≤ len ∨ (k = 0 ∧ len = 0)) ∧ Hid (RowKit.Below w1.heap.size w1 wr) ∧ Hid (∀ j (hj : j + 1 < l.length), j < k → tltB l[j] l[j + 1] = true)) (fun i _ => len + 1 - (intOf i).toNat)
    case atStart => exact ⟨0, rfl, by omega, hid (RowKit.Below.refl _ _), hid (fun j hj h => by omega)⟩
    case round =>
      obtain ⟨k, rfl, hk, HB, HO⟩ := hrel
      by_cases hlt : k + 1 < len
      · have hkl : k + 1 < l.length := by rw [← HLEN.out]; exact hlt
        rcases HA.out with h0 | ⟨b, off, rfl, hat⟩
        · omega
        have hbl := hat.1
        have HBW := hid (B1.out.trans (HB.out.mono B1.out.size))
        have c0 : wr.cell? ⟨b, off + k * 3, none⟩ = some (.string l[k].1) := (HBW.out.cell (p := ⟨b, off + k * 3, none⟩) hbl).trans (hat.2 k (by omega) 0 (by decide))
        have c1 : wr.cell? ⟨b, off + k * 3 + 1, none⟩ = some (.string l[k].2.1) := (HBW.out.cell (p := ⟨b, off + k * 3 + 1, none⟩) hbl).trans (hat.2 k (by omega) 1 (by decide))
        have c2 : wr.cell? ⟨b, off + k * 3 + 2, none⟩ = some (.string l[k].2.2) := (HBW.out.cell (p := ⟨b, off + k * 3 + 2, none⟩) hbl).trans (hat.2 k (by omega) 2 (by decide))
        have d0 : wr.cell? ⟨b, off + (k + 1) * 3, none⟩ = some (.string l[k + 1].1) := (HBW.out.cell (p := ⟨b, off + (k + 1) * 3, none⟩) hbl).trans (hat.2 (k + 1) hkl 0 (by decide))
        have d1 : wr.cell? ⟨b, off + (k + 1) * 3 + 1, none⟩ = some (.string l[k + 1].2.1) := (HBW.out.cell (p := ⟨b, off + (k + 1) * 3 + 1, none⟩) hbl).trans (hat.2 (k + 1) hkl 1 (by decide))
        have d2 : wr.cell? ⟨b, off + (k + 1) * 3 + 2, none⟩ = some (.string l[k + 1].2.2) := (HBW.out.cell (p := ⟨b, off + (k + 1) * 3 + 2, none⟩) hbl).trans (hat.2 (k + 1) hkl 2 (by decide))
        have s2 : b < wr.heap.size := Nat.lt_of_lt_of_le hbl HBW.out.size
        have HMk := hid (fun W => HM.out l[k] l[k + 1] W)
        have HOk := hid (fun h : tltB l[k] l[k + 1] = true => show ∀ j (hj : j + 1 < l.length), j < k + 1 → tltB l[j] l[j + 1] = true from fun j hj h' => by
          by_cases e : j < k
          · exact HO.out j hj e
          · obtain rfl : j = k := by omega
            exact h)
        have HX := hid (fun h : tltB l[k] l[k + 1] = false => show ¬ OkUp l from fun o => by
          have := List.pairwise_iff_getElem.1 o.up k (k + 1) (by omega) hkl (by omega)
          rw [h] at this
          cases this)
        have hN := ord_neg l[k] l[k + 1]
        generalize l[k] = x at *
        generalize l[k + 1] = y at *
        obtain ⟨x0, x1, x2⟩ := x
        obtain ⟨y0, y1, y2⟩ := y
        simp only [tv] at c0 c1 c2 d0 d1 d2 HMk
        generalize ordI (x0, x1, x2) (y0, y1, y2) = oi at *
        clear hat HO
        have g0 : (0 : Int) ≤ (k : Int) := by omega
        have g1 : (k : Int) + 1 < (len : Int) := by omega
        have g2 : (0 : Int) ≤ (k : Int) + 1 := by omega
        have g3 : (k : Int) < (len : Int) := by omega
        have hwr : IntKind.i64.wrap (k : Int) = (k : Int) := by rw [IntKind.wrap_i64]; omega
        cases e1 : tltB (x0, x1, x2) (y0, y1, y2)
        · have HX2 := hid (HX.out e1)
          have g4 : (0 : Int) ≤ oi := by
            rw [e1] at hN
            have := of_decide_eq_false hN
            omega
          clear HX HOk hN e1
          go_wp2_with fail
          have T0 : wr.drew.cell? ⟨b, off + k * 3, none⟩ = some (.string x0) ∧ wr.drew.cell? ⟨b, off + k * 3 + 1, none⟩ = some (.string x1) ∧ wr.drew.cell? ⟨b, off + k * 3 + 2, none⟩ = some (.string x2) ∧ wr.drew.cell? ⟨b, off + (k + 1) * 3, none⟩ = some (.string y0) ∧ wr.drew.cell? ⟨b, off + (k + 1) * 3 + 1, none⟩ = some (.string y1) ∧ wr.drew.cell? ⟨b, off + (k + 1) * 3 + 2, none⟩ = some (.string y2) := ⟨c0, c1, c2, d0, d1, d2⟩
          go_region_held3 (fun W => W.cell? ⟨b, off + k * 3, none⟩ = some (.string x0) ∧ W.cell? ⟨b, off + k * 3 + 1, none⟩ = some (.string x1) ∧ W.cell? ⟨b, off + k * 3 + 2, none⟩ = some (.string x2) ∧ W.cell? ⟨b, off + (k + 1) * 3, none⟩ = some (.string y0) ∧ W.cell? ⟨b, off + (k + 1) * 3 + 1, none⟩ = some (.string y1) ∧ W.cell? ⟨b, off + (k + 1) * 3 + 2, none⟩ = some (.string y2))
            (first | exact T0 | exact T1)
            (first
              | (go_at_call 44; refine (HMk.out _).mono ?_; rintro e w2 ⟨rfl, hb⟩; have T1 := six_low T0 hb s2; have D1 := hid hb; clear hb))
          have B2 := hid (show RowKit.Below w1.heap.size w1 w2 from HB.out.drew.trans (D1.out.mono HB.out.size))
          clear T0 T1 D1
          go_wp2_with fail
          go_ret
          exact ⟨45, rfl, B1.out.trans (B2.out.mono B1.out.size), ⟨by decide, Or.inr (Or.inl ⟨HCE.out, rfl, HX2.out⟩)⟩, ⟨fun h => absurd h (by decide), fun h => absurd h HX2.out⟩⟩
        · have HO2 := hid (HOk.out e1)
          have g4 : ¬ (0 : Int) ≤ oi := by
            rw [e1] at hN
            have := of_decide_eq_true hN
            omega
          clear HX HOk hN e1
          go_wp2_with fail
          have T0 : wr.drew.cell? ⟨b, off + k * 3, none⟩ = some (.string x0) ∧ wr.drew.cell? ⟨b, off + k * 3 + 1, none⟩ = some (.string x1) ∧ wr.drew.cell? ⟨b, off + k * 3 + 2, none⟩ = some (.string x2) ∧ wr.drew.cell? ⟨b, off + (k + 1) * 3, none⟩ = some (.string y0) ∧ wr.drew.cell? ⟨b, off + (k + 1) * 3 + 1, none⟩ = some (.string y1) ∧ wr.drew.cell? ⟨b, off + (k + 1) * 3 + 2, none⟩ = some (.string y2) := ⟨c0, c1, c2, d0, d1, d2⟩
          go_region_held3 (fun W => W.cell? ⟨b, off + k * 3, none⟩ = some (.string x0) ∧ W.cell? ⟨b, off + k * 3 + 1, none⟩ = some (.string x1) ∧ W.cell? ⟨b, off + k * 3 + 2, none⟩ = some (.string x2) ∧ W.cell? ⟨b, off + (k + 1) * 3, none⟩ = some (.string y0) ∧ W.cell? ⟨b, off + (k + 1) * 3 + 1, none⟩ = some (.string y1) ∧ W.cell? ⟨b, off + (k + 1) * 3 + 2, none⟩ = some (.string y2))
            (first | exact T0 | exact T1)
            (first
              | (go_at_call 44; refine (HMk.out _).mono ?_; rintro e w2 ⟨rfl, hb⟩; have T1 := six_low T0 hb s2; have D1 := hid hb; clear hb))
          have B2 := hid (show RowKit.Below w1.heap.size w1 w2 from HB.out.drew.trans (D1.out.mono HB.out.size))
          clear T0 T1 D1
          go_wp2_with fail
          exact ⟨⟨k + 1, by go_num, by omega, B2, HO2⟩, by simp [intOf]; omega⟩
      · have g1 : ¬ (k : Int) + 1 < (len : Int) := by omega
        have R := hid (show OkUp l from ⟨H16.out, HEA.out, up_adj (fun j hj => HO.out j hj (by have := HLEN.out; omega))⟩)
        clear HO
        go_wp2
        go_ret
        exact ⟨0, rfl, B1.out.trans (HB.out.mono B1.out.size), ⟨by decide, Or.inr (Or.inr ⟨rfl, R.out⟩)⟩, ⟨fun _ => R.out, fun _ => rfl⟩⟩
end Go.Proofs.YtppblibcbjpfnaaDoor.L
