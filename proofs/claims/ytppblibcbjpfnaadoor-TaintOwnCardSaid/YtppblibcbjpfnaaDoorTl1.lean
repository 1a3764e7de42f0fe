import Derived.Test.YtppblibcbjpfnaaDoorSr4
namespace Go.Proofs.YtppblibcbjpfnaaDoor.L
open Go.RowKit
set_option linter.unusedVariables false
theorem results_c1 {fn : Func} {p : Tmp} {ty : TypeId} (h : fn.results = #[.cell p ty]) (tmps : Array Value) (P : Program) (w : World) :
    (results fn tmps).run P w = ((asAddr (tmps.getD p undef)).run P w).andThen fun a w₁ => (loadVar ty a).run P w₁ := by
  simp only [results, h]
  simp [Sem.run_bind, Result.andThen]
set_option maxHeartbeats 4000000 in
theorem mark_any (k f : ByteArray) (w : World) : Calls Tryd.prog 45 #[.string k, .string f] w fun e w' => e = .returned (.agg #[.string k, .string ⟨#[]⟩, .string f]) ∧ Below w.heap.size w w' := by
  go_enter Tryd.func45, Tryd.ntmps45
  go_wp2
  (try simp only [Exit.inBlock, Exit.then])
  refine bodyPost_ret (v := .agg #[.string k, .string ⟨#[]⟩, .string f]) ?_ rfl ⟨rfl, belowA _ _⟩
  rw [results_c1 rfl]
  go_simp
/-- Has it this key and this effect? -/
def isK (k f : ByteArray) (t : Tn) : Bool := eqS t.1 k && eqS t.2.2 f
theorem isK_iff {k f : ByteArray} {t : Tn} : isK k f t = true ↔ t.1 = k ∧ t.2.2 = f := by
  unfold isK
  rw [Bool.and_eq_true, eqS_iff, eqS_iff]
theorem any_snoc {l : List Tn} {p : Tn → Bool} {k : Nat} (h : ∀ j (hj : j < l.length), j < k → p l[j] = false) {hk : k < l.length} (hn : p l[k] = false) : ∀ j (hj : j < l.length), j < k + 1 → p l[j] = false := by
  intro j hj h'
  by_cases e : j < k
  · exact h j hj e
  · obtain rfl : j = k := by omega
    exact hn
theorem any_false {l : List Tn} {p : Tn → Bool} (h : ∀ j (hj : j < l.length), p l[j] = false) : l.any p = false := by
  rw [Bool.eq_false_iff]
  intro e
  obtain ⟨x, hx, e⟩ := List.any_eq_true.1 e
  obtain ⟨k, hk, rfl⟩ := List.getElem_of_mem hx
  rw [h k hk] at e
  cases e
theorem five_low {W W' : World} {b c : Nat} {x z p q r : Value} (h : W.cell? ⟨b, 0, none⟩ = some x ∧ W.cell? ⟨b, 2, none⟩ = some z ∧ W.cell? ⟨c, 0, none⟩ = some p ∧ W.cell? ⟨c, 1, none⟩ = some q ∧ W.cell? ⟨c, 2, none⟩ = some r) (hb : Below W.heap.size W W') (h1 : b < W.heap.size) (h2 : c < W.heap.size) : W'.cell? ⟨b, 0, none⟩ = some x ∧ W'.cell? ⟨b, 2, none⟩ = some z ∧ W'.cell? ⟨c, 0, none⟩ = some p ∧ W'.cell? ⟨c, 1, none⟩ = some q ∧ W'.cell? ⟨c, 2, none⟩ = some r :=
  ⟨(hb.cell (p := ⟨b, 0, none⟩) h1).trans h.1, (hb.cell (p := ⟨b, 2, none⟩) h1).trans h.2.1, (hb.cell (p := ⟨c, 0, none⟩) h2).trans h.2.2.1, (hb.cell (p := ⟨c, 1, none⟩) h2).trans h.2.2.2.1, (hb.cell (p := ⟨c, 2, none⟩) h2).trans h.2.2.2.2⟩
set_option maxHeartbeats 4000000 in
theorem has_any (v : Value) (l : List Tn) (sk sf : ByteArray) (w : World) (hc : ItemsG 3 tf w v l) (hl : l.length ≤ maxLen) : Calls Tryd.prog 42 #[v, .string sk, .string sf] w fun e w' => e = .returned (.bool (l.any (isK sk sf))) ∧ Below w.heap.size w w' := by
  unfold maxLen at hl
  obtain ⟨a, cap, rfl, hc⟩ := hc
  have HA := hid hc
  have HM := hid (fun k f W => mark_any k f W)
  clear hc
  obtain ⟨len, hlen⟩ : ∃ n, n = l.length := ⟨_, rfl⟩
  have HLEN := hid hlen
  rw [← hlen] at hl ⊢
  clear hlen
  go_enter Tryd.func42, Tryd.ntmps42
  go_wp2_with fail
  refine (HM.out _ _ _).mono ?_
  rintro e w1 ⟨rfl, hb⟩
  have B1 := hid hb
  clear hb
  go_wp2_with fail
  have HT := hid (three w1 (.string sk) (.string ⟨#[]⟩) (.string sf) 23)
  have HW := hid (B1.out.alloc B1.out.size (.cells #[.string sk, .string ⟨#[]⟩, .string sf] 23))
  have hsz : w1.heap.size < (w1.alloc (.cells #[.string sk, .string ⟨#[]⟩, .string sf] 23)).heap.size := by simp
  generalize w1.alloc (.cells #[.string sk, .string ⟨#[]⟩, .string sf] 23) = W1 at *
  go_loopw [15] (fun i wr => ∃ k : Nat, k ≤ len ∧ i = .int .i64 k ∧ Hid (Below W1.heap.size W1 wr) ∧ Hid (∀ j (hj : j < l.length), j < k → isK sk sf l[j] = false)) (fun i _ => len - (intOf i).toNat)
  case atStart => exact ⟨0, Nat.zero_le _, rfl, hid (Below.refl _ _), hid (fun j hj h => by omega)⟩
  case round =>
    obtain ⟨k, hk, rfl, HB, HO⟩ := hrel
    by_cases hlt : k < len
    · have hkl : k < l.length := by rw [← HLEN.out]; exact hlt
      rcases HA.out with h0 | ⟨b, off, rfl, hat⟩
      · omega
      have hbl := hat.1
      have HBW := hid (HW.out.trans (HB.out.mono HW.out.size))
      have c0 : wr.cell? ⟨b, off + k * 3, none⟩ = some (.string l[k].1) := (HBW.out.cell (p := ⟨b, off + k * 3, none⟩) hbl).trans (hat.2 k hkl 0 (by decide))
      have c1 : wr.cell? ⟨b, off + k * 3 + 1, none⟩ = some (.string l[k].2.1) := (HBW.out.cell (p := ⟨b, off + k * 3 + 1, none⟩) hbl).trans (hat.2 k hkl 1 (by decide))
      have c2 : wr.cell? ⟨b, off + k * 3 + 2, none⟩ = some (.string l[k].2.2) := (HBW.out.cell (p := ⟨b, off + k * 3 + 2, none⟩) hbl).trans (hat.2 k hkl 2 (by decide))
      have d0 : wr.cell? ⟨w1.heap.size, 0, none⟩ = some (.string sk) := (HB.out.cell (p := ⟨w1.heap.size, 0, none⟩) hsz).trans HT.out.1
      have d1 : wr.cell? ⟨w1.heap.size, 1, none⟩ = some (.string ⟨#[]⟩) := (HB.out.cell (p := ⟨w1.heap.size, 1, none⟩) hsz).trans HT.out.2.1
      have d2 : wr.cell? ⟨w1.heap.size, 2, none⟩ = some (.string sf) := (HB.out.cell (p := ⟨w1.heap.size, 2, none⟩) hsz).trans HT.out.2.2
      have s1 : w1.heap.size < wr.heap.size := Nat.lt_of_lt_of_le hsz HB.out.size
      have s2 : b < wr.heap.size := Nat.lt_of_lt_of_le hbl HBW.out.size
      have HXk := hid (fun h : isK sk sf l[k] = true => show l.any (isK sk sf) = true from List.any_eq_true.2 ⟨l[k], List.getElem_mem hkl, h⟩)
      have HOk := hid (fun h : isK sk sf l[k] = false => any_snoc HO.out (hk := hkl) h)
      generalize l[k] = t at *
      obtain ⟨x, y, z⟩ := t
      simp only at c0 c1 c2
      unfold isK eqS at HXk HOk
      simp only at HXk HOk
      clear HO hat
      cases e1 : (x.toList == sk.toList)
      · have HO2 := hid (HOk.out (by rw [e1]; rfl))
        clear HXk HOk
        go_wp2_with fail
        have A0 := belowA wr (.cells #[.string x, .string y, .string z] 23)
        have n0 := three wr (.string x) (.string y) (.string z) 23
        have T0 : (wr.alloc (.cells #[.string x, .string y, .string z] 23)).drew.cell? ⟨wr.heap.size, 0, none⟩ = some (.string x) ∧ (wr.alloc (.cells #[.string x, .string y, .string z] 23)).drew.cell? ⟨wr.heap.size, 2, none⟩ = some (.string z) ∧ (wr.alloc (.cells #[.string x, .string y, .string z] 23)).drew.cell? ⟨w1.heap.size, 0, none⟩ = some (.string sk) ∧ (wr.alloc (.cells #[.string x, .string y, .string z] 23)).drew.cell? ⟨w1.heap.size, 1, none⟩ = some (.string ⟨#[]⟩) ∧ (wr.alloc (.cells #[.string x, .string y, .string z] 23)).drew.cell? ⟨w1.heap.size, 2, none⟩ = some (.string sf) := ⟨n0.1, n0.2.2, (A0.cell (p := ⟨w1.heap.size, 0, none⟩) s1).trans d0, (A0.cell (p := ⟨w1.heap.size, 1, none⟩) s1).trans d1, (A0.cell (p := ⟨w1.heap.size, 2, none⟩) s1).trans d2⟩
        have hza : wr.heap.size < (wr.alloc (.cells #[.string x, .string y, .string z] 23)).heap.size := by simp
        have hzb : w1.heap.size < (wr.alloc (.cells #[.string x, .string y, .string z] 23)).heap.size := by simp; omega
        have BA := hid (HB.out.alloc HB.out.size (.cells #[.string x, .string y, .string z] 23))
        clear A0 n0
        go_region_held3 (fun W => W.cell? ⟨wr.heap.size, 0, none⟩ = some (.string x) ∧ W.cell? ⟨wr.heap.size, 2, none⟩ = some (.string z) ∧ W.cell? ⟨w1.heap.size, 0, none⟩ = some (.string sk) ∧ W.cell? ⟨w1.heap.size, 1, none⟩ = some (.string ⟨#[]⟩) ∧ W.cell? ⟨w1.heap.size, 2, none⟩ = some (.string sf))
          (first | exact T0 | exact T1)
          (first
            | (go_at_call 45; refine (HM.out _ _ _).mono ?_; rintro e w2 ⟨rfl, hb⟩; have T1 := five_low T0 hb hza hzb; have D1 := hid hb; clear hb))
        have B2 := hid (BA.out.drew.trans (D1.out.mono BA.out.size))
        clear T0 T1 D1 BA
        go_wp2_with fail
        exact ⟨⟨k + 1, by omega, by go_num, B2, HO2⟩, by simp [intOf]; omega⟩
      · cases e2 : (z.toList == sf.toList)
        · have HO2 := hid (HOk.out (by rw [e1, e2]; rfl))
          clear HXk HOk
          go_wp2_with fail
          have A0 := belowA wr (.cells #[.string x, .string y, .string z] 23)
          have n0 := three wr (.string x) (.string y) (.string z) 23
          have T0 : (wr.alloc (.cells #[.string x, .string y, .string z] 23)).drew.cell? ⟨wr.heap.size, 0, none⟩ = some (.string x) ∧ (wr.alloc (.cells #[.string x, .string y, .string z] 23)).drew.cell? ⟨wr.heap.size, 2, none⟩ = some (.string z) ∧ (wr.alloc (.cells #[.string x, .string y, .string z] 23)).drew.cell? ⟨w1.heap.size, 0, none⟩ = some (.string sk) ∧ (wr.alloc (.cells #[.string x, .string y, .string z] 23)).drew.cell? ⟨w1.heap.size, 1, none⟩ = some (.string ⟨#[]⟩) ∧ (wr.alloc (.cells #[.string x, .string y, .string z] 23)).drew.cell? ⟨w1.heap.size, 2, none⟩ = some (.string sf) := ⟨n0.1, n0.2.2, (A0.cell (p := ⟨w1.heap.size, 0, none⟩) s1).trans d0, (A0.cell (p := ⟨w1.heap.size, 1, none⟩) s1).trans d1, (A0.cell (p := ⟨w1.heap.size, 2, none⟩) s1).trans d2⟩
          have hza : wr.heap.size < (wr.alloc (.cells #[.string x, .string y, .string z] 23)).heap.size := by simp
          have hzb : w1.heap.size < (wr.alloc (.cells #[.string x, .string y, .string z] 23)).heap.size := by simp; omega
          have BA := hid (HB.out.alloc HB.out.size (.cells #[.string x, .string y, .string z] 23))
          clear A0 n0
          go_region_held3 (fun W => W.cell? ⟨wr.heap.size, 0, none⟩ = some (.string x) ∧ W.cell? ⟨wr.heap.size, 2, none⟩ = some (.string z) ∧ W.cell? ⟨w1.heap.size, 0, none⟩ = some (.string sk) ∧ W.cell? ⟨w1.heap.size, 1, none⟩ = some (.string ⟨#[]⟩) ∧ W.cell? ⟨w1.heap.size, 2, none⟩ = some (.string sf))
            (first | exact T0 | exact T1)
            (first
              | (go_at_call 45; refine (HM.out _ _ _).mono ?_; rintro e w2 ⟨rfl, hb⟩; have T1 := five_low T0 hb hza hzb; have D1 := hid hb; clear hb))
          have B2 := hid (BA.out.drew.trans (D1.out.mono BA.out.size))
          clear T0 T1 D1 BA
          go_wp2_with fail
          exact ⟨⟨k + 1, by omega, by go_num, B2, HO2⟩, by simp [intOf]; omega⟩
        · have HN := hid (HXk.out (by rw [e1, e2]; rfl))
          clear HXk HOk
          go_wp2_with fail
          have A0 := belowA wr (.cells #[.string x, .string y, .string z] 23)
          have n0 := three wr (.string x) (.string y) (.string z) 23
          have T0 : (wr.alloc (.cells #[.string x, .string y, .string z] 23)).drew.cell? ⟨wr.heap.size, 0, none⟩ = some (.string x) ∧ (wr.alloc (.cells #[.string x, .string y, .string z] 23)).drew.cell? ⟨wr.heap.size, 2, none⟩ = some (.string z) ∧ (wr.alloc (.cells #[.string x, .string y, .string z] 23)).drew.cell? ⟨w1.heap.size, 0, none⟩ = some (.string sk) ∧ (wr.alloc (.cells #[.string x, .string y, .string z] 23)).drew.cell? ⟨w1.heap.size, 1, none⟩ = some (.string ⟨#[]⟩) ∧ (wr.alloc (.cells #[.string x, .string y, .string z] 23)).drew.cell? ⟨w1.heap.size, 2, none⟩ = some (.string sf) := ⟨n0.1, n0.2.2, (A0.cell (p := ⟨w1.heap.size, 0, none⟩) s1).trans d0, (A0.cell (p := ⟨w1.heap.size, 1, none⟩) s1).trans d1, (A0.cell (p := ⟨w1.heap.size, 2, none⟩) s1).trans d2⟩
          have hza : wr.heap.size < (wr.alloc (.cells #[.string x, .string y, .string z] 23)).heap.size := by simp
          have hzb : w1.heap.size < (wr.alloc (.cells #[.string x, .string y, .string z] 23)).heap.size := by simp; omega
          have BA := hid (HB.out.alloc HB.out.size (.cells #[.string x, .string y, .string z] 23))
          clear A0 n0
          go_region_held3 (fun W => W.cell? ⟨wr.heap.size, 0, none⟩ = some (.string x) ∧ W.cell? ⟨wr.heap.size, 2, none⟩ = some (.string z) ∧ W.cell? ⟨w1.heap.size, 0, none⟩ = some (.string sk) ∧ W.cell? ⟨w1.heap.size, 1, none⟩ = some (.string ⟨#[]⟩) ∧ W.cell? ⟨w1.heap.size, 2, none⟩ = some (.string sf))
            (first | exact T0 | exact T1)
            (first
              | (go_at_call 45; refine (HM.out _ _ _).mono ?_; rintro e w2 ⟨rfl, hb⟩; have T1 := five_low T0 hb hza hzb; have D1 := hid hb; clear hb))
          have B2 := hid (BA.out.drew.trans (D1.out.mono BA.out.size))
          clear T0 T1 D1 BA
          go_wp2_with fail
          go_ret
          exact ⟨ret_bool HN.out.symm, HW.out.trans (B2.out.mono HW.out.size)⟩
    · obtain rfl : k = len := by omega
      have HN := hid (any_false (fun j hj => HO.out j hj (by rw [HLEN.out]; exact hj)))
      clear HO
      go_wp2
      go_ret
      exact ⟨ret_bool HN.out.symm, HW.out.trans (HB.out.mono HW.out.size)⟩
end Go.Proofs.YtppblibcbjpfnaaDoor.L
