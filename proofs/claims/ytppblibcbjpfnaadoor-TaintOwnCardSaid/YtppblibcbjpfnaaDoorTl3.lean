import Derived.Test.YtppblibcbjpfnaaDoorTl2
import Derived.Test.YtppblibcbjpfnaaDoorTps
namespace Go.Proofs.YtppblibcbjpfnaaDoor.L
open Go.RowKit
set_option linter.unusedVariables false
/-- What Make takes. -/
structure OkT (l : List Tn) : Prop where
  len : l.length ≤ 16
  each : ∀ x ∈ l, tE x = 0
  dist : l.Pairwise fun x y => ¬ sameK x y
theorem each_mem {l : List Tn} (h : ∀ j (hj : j < l.length), tE l[j] = 0) : ∀ x ∈ l, tE x = 0 := by
  intro x hx
  obtain ⟨k, hk, rfl⟩ := List.getElem_of_mem hx
  exact h k hk
theorem dist_of {l : List Tn} (h : ∀ j (hj : j < l.length), (l.take j).any (isK l[j].1 l[j].2.2) = false) : l.Pairwise fun x y => ¬ sameK x y := by
  rw [List.pairwise_iff_getElem]
  intro i j hi hj hij hs
  have := h j hj
  rw [Bool.eq_false_iff] at this
  refine this (List.any_eq_true.2 ⟨l[i], ?_, isK_iff.2 hs⟩)
  rw [List.mem_take_iff_getElem]
  exact ⟨i, by omega, rfl⟩
theorem not_dist {l : List Tn} {k : Nat} (hk : k < l.length) (h : (l.take k).any (isK l[k].1 l[k].2.2) = true) : ¬ l.Pairwise fun x y => ¬ sameK x y := by
  intro hp
  obtain ⟨x, hx, e⟩ := List.any_eq_true.1 h
  rw [List.mem_take_iff_getElem] at hx
  obtain ⟨i, hi, rfl⟩ := hx
  exact List.pairwise_iff_getElem.1 hp i k (by omega) hk (by omega) (isK_iff.1 e)
theorem CE.cases {l : List Tn} {at' e : Int} (h : CE l at' e) : (e ≠ 0 ∧ (0 < e ∧ e ≤ 1000) ∧ (0 ≤ at' ∧ at' ≤ l.length) ∧ ¬ OkT l) ∨ (e = 0 ∧ at' = 0 ∧ l.length ≤ 16 ∧ ∀ x ∈ l, tE x = 0) := by
  rcases h with ⟨h, rfl, rfl⟩ | ⟨h, ⟨k, hk, rfl, rfl, hne, _⟩ | ⟨rfl, rfl, ha⟩⟩
  · refine Or.inl ⟨by decide, by decide, ⟨Int.le_refl _, by omega⟩, fun o => ?_⟩
    have := o.len
    omega
  · refine Or.inl ⟨hne, ?_, by omega, fun o => hne (o.each _ (List.getElem_mem hk))⟩
    rcases tE_cases l[k] with e | e | e | e
    · exact absurd e hne
    · rw [e]; decide
    · rw [e]; decide
    · rw [e]; decide
  · exact Or.inr ⟨rfl, rfl, h, each_mem ha⟩
theorem items_take {W : World} {a : Option Addr} {cap k : Nat} {l : List Tn} (h : l.length = 0 ∨ ∃ b off, a = some ⟨b, off, none⟩ ∧ At 3 tf W b off l) (hk : k < l.length) (cap' : Nat) : ItemsG 3 tf W (.slice a k cap') (l.take k) := by
  have hl : (l.take k).length = k := by rw [List.length_take]; omega
  refine ⟨a, cap', by rw [hl], ?_⟩
  rcases h with h | ⟨b, off, rfl, h1, h2⟩
  · omega
  · refine Or.inr ⟨b, off, rfl, h1, fun j hj i hi => ?_⟩
    rw [hl] at hj
    rw [h2 j (by omega) i hi, List.getElem_take]
/-- What Make answers, to the place. -/
def MkR (l : List Tn) (a e : Int) : Prop := (e ≠ 0 ∧ CE l a e) ∨ (CE l 0 0 ∧ e = 45 ∧ ∃ (k : Nat) (hk : k < l.length), a = (k : Int) ∧ (l.take k).any (isK l[k].1 l[k].2.2) = true ∧ ∀ j (hj : j < l.length), j < k → (l.take j).any (isK l[j].1 l[j].2.2) = false) ∨ (e = 0 ∧ a = 0 ∧ OkT l)
theorem okT_ce {l : List Tn} (h : OkT l) : CE l 0 0 := Or.inr ⟨h.len, Or.inr ⟨rfl, rfl, fun j hj => h.each _ (List.getElem_mem hj)⟩⟩
theorem mk_one {l : List Tn} {a e a' e' : Int} (h : MkR l a e) (h' : MkR l a' e') : a = a' ∧ e = e' := by
  rcases h with ⟨hn, h⟩ | ⟨h, rfl, k, hk, rfl, hd, hb⟩ | ⟨rfl, rfl, ho⟩ <;> rcases h' with ⟨hn', h'⟩ | ⟨h', rfl, k', hk', rfl, hd', hb'⟩ | ⟨rfl, rfl, ho'⟩
  · exact ce_one h h'
  · exact absurd (ce_one h h').2 hn
  · exact absurd (ce_one h (okT_ce ho')).2 hn
  · exact absurd (ce_one h' h).2 hn'
  · have e1 : ¬ k < k' := fun c => by rw [hb' k hk c] at hd; cases hd
    have e2 : ¬ k' < k := fun c => by rw [hb k' hk' c] at hd'; cases hd'
    exact ⟨by omega, rfl⟩
  · exact absurd ho'.dist (not_dist hk hd)
  · exact absurd (ce_one h' (okT_ce ho)).2 hn'
  · exact absurd ho.dist (not_dist hk' hd')
  · exact ⟨rfl, rfl⟩
set_option maxHeartbeats 4000000 in
set_option maxRecDepth 100000 in
theorem make_any (v : Value) (l : List Tn) (w : World) (hc : CameT w v l) (hg : GoodT l) : Calls Tryd.prog 15 #[v] w fun e w' => ∃ v' l' at' er, e = .returned (.tuple #[v', .int .i64 at', .int .i64 er]) ∧ Below w.heap.size w w' ∧ ((er ≠ 0 ∧ (0 < er ∧ er ≤ 1000) ∧ v' = .slice none 0 0 ∧ (0 ≤ at' ∧ at' ≤ l.length) ∧ ¬ OkT l) ∨ (er = 0 ∧ at' = 0 ∧ CameT w' v' l' ∧ SortedT l l' ∧ OkT l)) ∧ MkR l at' er := by
  have HSR := hid (fun W (hb : Below w.heap.size w W) => sorted_any v l W (hc.low hb) hg)
  have HE := hid (each_any v l w hc.items hg)
  have hl := hg.1.1
  unfold maxLen at hl
  obtain ⟨a, cap, rfl, hi, hcap⟩ : ∃ a cap, v = .slice a l.length cap ∧ (l.length = 0 ∨ ∃ b off, a = some ⟨b, off, none⟩ ∧ At 3 tf w b off l) ∧ l.length ≤ cap := by
    rcases hc with ⟨rfl, rfl⟩ | ⟨a, cap, rfl, hcap, h⟩
    · exact ⟨none, 0, rfl, Or.inl rfl, Nat.zero_le _⟩
    · refine ⟨some a, cap, rfl, ?_, hcap.1⟩
      rcases h with h | ⟨b, off, rfl, h⟩
      · exact Or.inl h
      · exact Or.inr ⟨b, off, rfl, h⟩
  have HA := hid hi
  clear hi hc
  obtain ⟨len, hlen⟩ : ∃ n, n = l.length := ⟨_, rfl⟩
  have HLEN := hid hlen
  rw [← hlen] at hl HSR hcap HE ⊢
  clear hlen hg
  go_enter Tryd.func15, Tryd.ntmps15
  go_wp2_with fail
  refine HE.out.mono ?_
  rintro e w1 ⟨at', er, rfl, hce, hb⟩
  have B1 := hid hb
  clear hb HE
  rcases hce.cases with ⟨h1, h2, h3, h4⟩ | ⟨rfl, rfl, h3, h4⟩
  · have h1' : (er != 0) = true := by simpa using h1
    have R := hid (show er ≠ 0 ∧ (0 < er ∧ er ≤ 1000) ∧ (0 ≤ at' ∧ at' ≤ len) ∧ ¬ OkT l from ⟨h1, h2, by rw [HLEN.out]; exact h3, h4⟩)
    have RM := hid (show MkR l at' er from Or.inl ⟨h1, hce⟩)
    clear h1 h2 h3 h4 hce
    go_wp2_with fail
    go_ret3
    exact ⟨_, [], _, _, rfl, B1.out, Or.inl ⟨R.out.1, R.out.2.1, rfl, R.out.2.2.1, R.out.2.2.2⟩, RM.out⟩
  · have H16 := hid h3
    have HEA := hid h4
    have HCE := hid hce
    clear h3 h4 hce
    go_wp2_with fail
    have BW := B1
    go_loopw [20] (fun i wr => ∃ k : Nat, k ≤ len ∧ i = .int .i64 k ∧ Hid (Below w1.heap.size w1 wr) ∧ Hid (∀ j (hj : j < l.length), j < k → (l.take j).any (isK l[j].1 l[j].2.2) = false)) (fun i _ => len - (intOf i).toNat)
    case atStart => exact ⟨0, Nat.zero_le _, rfl, hid (Below.refl _ _), hid (fun j hj h => by omega)⟩
    case round =>
      obtain ⟨k, hk, rfl, HB, HO⟩ := hrel
      by_cases hlt : k < len
      · have hkl : k < l.length := by rw [← HLEN.out]; exact hlt
        have HIT := hid (fun c' => items_take (cap := cap) HA.out hkl c')
        rcases HA.out with h0 | ⟨b, off, rfl, hat⟩
        · omega
        have hbl := hat.1
        have HBW := hid (B1.out.trans (HB.out.mono B1.out.size))
        have c0 : wr.cell? ⟨b, off + k * 3, none⟩ = some (.string l[k].1) := (HBW.out.cell (p := ⟨b, off + k * 3, none⟩) hbl).trans (hat.2 k hkl 0 (by decide))
        have c1 : wr.cell? ⟨b, off + k * 3 + 1, none⟩ = some (.string l[k].2.1) := (HBW.out.cell (p := ⟨b, off + k * 3 + 1, none⟩) hbl).trans (hat.2 k hkl 1 (by decide))
        have c2 : wr.cell? ⟨b, off + k * 3 + 2, none⟩ = some (.string l[k].2.2) := (HBW.out.cell (p := ⟨b, off + k * 3 + 2, none⟩) hbl).trans (hat.2 k hkl 2 (by decide))
        have s2 : b < wr.heap.size := Nat.lt_of_lt_of_le hbl HBW.out.size
        have HH := hid (fun c' W (hb : Below w.heap.size w W) => has_any (.slice (some ⟨b, off, none⟩) k c') (l.take k) l[k].1 l[k].2.2 W ((HIT.out c').low hb) (by unfold maxLen; rw [List.length_take]; omega))
        have HOk := hid (fun h : (l.take k).any (isK l[k].1 l[k].2.2) = false => show ∀ j (hj : j < l.length), j < k + 1 → (l.take j).any (isK l[j].1 l[j].2.2) = false from fun j hj h' => by
          by_cases e : j < k
          · exact HO.out j hj e
          · obtain rfl : j = k := by omega
            exact h)
        have HX := hid (fun h : (l.take k).any (isK l[k].1 l[k].2.2) = true => show (¬ l.Pairwise fun x y => ¬ sameK x y) ∧ MkR l (k : Int) 45 from ⟨not_dist hkl h, Or.inr (Or.inl ⟨HCE.out, rfl, k, hkl, rfl, h, HO.out⟩)⟩)
        generalize (l.take k).any (isK l[k].1 l[k].2.2) = r at *
        generalize l[k] = t at *
        obtain ⟨x, y, z⟩ := t
        simp only at c0 c1 c2 HH
        clear hat HO HIT
        have g1 : (0 : Int) ≤ (k : Int) := by omega
        have g2 : (k : Int) ≤ (cap : Int) := by omega
        cases r
        · have HO2 := hid (HOk.out rfl)
          clear HX HOk
          go_wp2_with fail
          have n0 := three wr (.string x) (.string y) (.string z) 23
          have T0 : (wr.alloc (.cells #[.string x, .string y, .string z] 23)).drew.cell? ⟨wr.heap.size, 0, none⟩ = some (.string x) ∧ (wr.alloc (.cells #[.string x, .string y, .string z] 23)).drew.cell? ⟨wr.heap.size, 2, none⟩ = some (.string z) := ⟨n0.1, n0.2.2⟩
          have hza : wr.heap.size < (wr.alloc (.cells #[.string x, .string y, .string z] 23)).heap.size := by simp
          have BA := hid (HB.out.alloc HB.out.size (.cells #[.string x, .string y, .string z] 23))
          clear n0
          go_region_held3 (fun W => W.cell? ⟨wr.heap.size, 0, none⟩ = some (.string x) ∧ W.cell? ⟨wr.heap.size, 2, none⟩ = some (.string z))
            (first | exact T0 | exact T1)
            (first
              | (go_at_call 42; refine (HH.out _ _ (BW.out.trans (BA.out.drew.mono BW.out.size))).mono ?_; rintro e w2 ⟨rfl, hb⟩; have T1 : w2.cell? ⟨wr.heap.size, 0, none⟩ = some (.string x) ∧ w2.cell? ⟨wr.heap.size, 2, none⟩ = some (.string z) := ⟨(hb.cell (p := ⟨wr.heap.size, 0, none⟩) hza).trans T0.1, (hb.cell (p := ⟨wr.heap.size, 2, none⟩) hza).trans T0.2⟩; have D1 := hid hb; clear hb))
          have B2 := hid (BA.out.drew.trans (D1.out.mono BA.out.size))
          clear T0 T1 D1 BA
          go_wp2_with fail
          exact ⟨⟨k + 1, by omega, by go_num, B2, HO2⟩, by simp [intOf]; omega⟩
        · have HX2 := hid (HX.out rfl)
          clear HX HOk
          go_wp2_with fail
          have n0 := three wr (.string x) (.string y) (.string z) 23
          have T0 : (wr.alloc (.cells #[.string x, .string y, .string z] 23)).drew.cell? ⟨wr.heap.size, 0, none⟩ = some (.string x) ∧ (wr.alloc (.cells #[.string x, .string y, .string z] 23)).drew.cell? ⟨wr.heap.size, 2, none⟩ = some (.string z) := ⟨n0.1, n0.2.2⟩
          have hza : wr.heap.size < (wr.alloc (.cells #[.string x, .string y, .string z] 23)).heap.size := by simp
          have BA := hid (HB.out.alloc HB.out.size (.cells #[.string x, .string y, .string z] 23))
          clear n0
          go_region_held3 (fun W => W.cell? ⟨wr.heap.size, 0, none⟩ = some (.string x) ∧ W.cell? ⟨wr.heap.size, 2, none⟩ = some (.string z))
            (first | exact T0 | exact T1)
            (first
              | (go_at_call 42; refine (HH.out _ _ (BW.out.trans (BA.out.drew.mono BW.out.size))).mono ?_; rintro e w2 ⟨rfl, hb⟩; have T1 : w2.cell? ⟨wr.heap.size, 0, none⟩ = some (.string x) ∧ w2.cell? ⟨wr.heap.size, 2, none⟩ = some (.string z) := ⟨(hb.cell (p := ⟨wr.heap.size, 0, none⟩) hza).trans T0.1, (hb.cell (p := ⟨wr.heap.size, 2, none⟩) hza).trans T0.2⟩; have D1 := hid hb; clear hb))
          have B2 := hid (BA.out.drew.trans (D1.out.mono BA.out.size))
          clear T0 T1 D1 BA
          go_wp2_with fail
          go_ret3
          exact ⟨_, [], _, _, rfl, B1.out.trans (B2.out.mono B1.out.size), Or.inl ⟨by decide, by decide, rfl, by omega, fun o => HX2.out.1 o.dist⟩, HX2.out.2⟩
      · obtain rfl : k = len := by omega
        have HD := hid (dist_of (fun j hj => HO.out j hj (by rw [HLEN.out]; exact hj)))
        have HBW := hid (B1.out.trans (HB.out.mono B1.out.size))
        have SR := hid (HSR.out wr HBW.out)
        clear HO HSR
        go_wp2_with fail
        refine SR.out.mono ?_
        rintro e w3 ⟨v3, l3, rfl, hc3, hs3, hb⟩
        have R := hid (show CameT w3 v3 l3 ∧ SortedT l l3 ∧ Below w.heap.size w w3 from ⟨hc3, hs3, HBW.out.trans (hb.mono HBW.out.size)⟩)
        clear hc3 hs3 hb
        go_wp2_with fail
        go_ret3
        exact ⟨_, l3, _, _, rfl, R.out.2.2, Or.inr ⟨rfl, rfl, R.out.1, R.out.2.1, ⟨H16.out, HEA.out, HD.out⟩⟩, Or.inr (Or.inr ⟨rfl, rfl, ⟨H16.out, HEA.out, HD.out⟩⟩)⟩
end Go.Proofs.YtppblibcbjpfnaaDoor.L
