import Derived.Test.YtodamoblnlcodaaDoorRd1
import Derived.Test.YtodamoblnlcodaaDoorRgt
import Derived.Test.YtodamoblnlcodaaDoorDme
namespace Go.Proofs.YtodamoblnlcodaaDoor.L
open Go.RowKit
set_option linter.unusedVariables false
theorem results_one {fn : Func} {p : Tmp} {ty : TypeId} (h : fn.results = #[.cell p ty]) (tmps : Array Value) (P : Program) (w : World) :
    (results fn tmps).run P w = ((asAddr (tmps.getD p undef)).run P w).andThen fun a w₁ => (loadVar ty a).run P w₁ := by
  simp only [results, h]
  simp [Sem.run_bind, Result.andThen]
set_option maxHeartbeats 4000000 in
set_option maxRecDepth 100000 in
theorem rone_any (v1 v2 : Value) (a b : List Lb) (s : ByteArray) (w : World) (h1 : Items w v1 a) (h2 : Items w v2 b) (g1 : a.length ≤ maxLen) (g2 : b.length ≤ maxLen) : Calls Tryd.prog 16 #[v1, v2, .string s] w fun e w' => e = .returned (dv (oneD a b s)) ∧ Below w.heap.size w w' := by
  have F1 := hid (fun W (hb : Below w.heap.size w W) => rget_any v1 a s W (h1.low hb) g1)
  have F2 := hid (fun W (hb : Below w.heap.size w W) => rget_any v2 b s W (h2.low hb) g2)
  have B0 := hid (belowA w (.cells #[.string ⟨#[]⟩, .string ⟨#[]⟩, .string ⟨#[]⟩, .bool false, .bool false] 35))
  unfold dv oneD
  simp only
  generalize getN a s = p at *
  generalize getN b s = q at *
  obtain ⟨p1, p2⟩ := p
  obtain ⟨q1, q2⟩ := q
  simp only at F1 F2 ⊢
  clear h1 h2
  go_enter Tryd.func16, Tryd.ntmps16
  go_wp2_with fail
  refine (F1.out _ B0.out).mono ?_
  rintro e w1 ⟨rfl, hw⟩; subst hw
  go_wp2_with fail
  refine (F2.out _ B0.out).mono ?_
  rintro e w1 ⟨rfl, hw⟩; subst hw
  go_wp2_with fail
  (try simp only [Exit.inBlock, Exit.then])
  refine bodyPost_ret (v := .agg #[.string s, .string p1, .string q1, .bool p2, .bool q2]) ?_ rfl ⟨rfl, belowA _ _⟩
  rw [results_one rfl]
  go_simp
set_option maxHeartbeats 4000000 in
theorem rdiff_no (v1 v2 : Value) (a b : List Lb) (w : World) (h1 : Items w v1 a) (h2 : Items w v2 b) (g1 : Good a) (g2 : Good b) (h : ¬ ((checkN a).2 = 0 ∧ (checkN b).2 = 0)) :
    Calls Tryd.prog 6 #[v1, v2] w fun e w' => e = .returned (.slice none 0 0) ∧ Below w.heap.size w w' := by
  have F1 := hid (rcheck_any v1 a w h1 g1)
  have F2 := hid (fun W (hb : Below w.heap.size w W) => rcheck_any v2 b W (h2.low hb) g2)
  generalize checkN a = p at *
  generalize checkN b = q at *
  obtain ⟨p1, p2⟩ := p
  obtain ⟨q1, q2⟩ := q
  simp only at F1 F2 h
  clear h1 h2
  by_cases hp : p2 = 0
  · have hq : (q2 != 0) = true := by simp; exact fun e => h ⟨hp, e⟩
    subst hp
    clear h
    go_enter Tryd.func6, Tryd.ntmps6
    go_wp2_with fail
    refine F1.out.mono ?_
    rintro e w1 ⟨rfl, hb⟩
    have B1 := hid hb
    clear hb
    go_wp2_with fail
    refine (F2.out _ B1.out).mono ?_
    rintro e w2 ⟨rfl, hb⟩
    have B2 := hid (B1.out.trans (hb.mono B1.out.size))
    clear hb
    go_wp2_with fail
    go_ret
    exact ⟨rfl, B2.out⟩
  · have hq : (p2 != 0) = true := by simpa using hp
    clear h hp
    go_enter Tryd.func6, Tryd.ntmps6
    go_wp2_with fail
    refine F1.out.mono ?_
    rintro e w1 ⟨rfl, hb⟩
    have B1 := hid hb
    clear hb
    go_wp2_with fail
    refine (F2.out _ B1.out).mono ?_
    rintro e w2 ⟨rfl, hb⟩
    have B2 := hid (B1.out.trans (hb.mono B1.out.size))
    clear hb
    go_wp2_with fail
    go_ret
    exact ⟨rfl, B2.out⟩
theorem cell_five_at (w : World) (b0 : Nat) (a b c d e : Value) (t : TypeId) (hb : b0 = w.heap.size) : ∀ (j : Nat) (u : Value), [a, b, c, d, e][j]? = some u → (w.alloc (.cells #[a, b, c, d, e] t)).cell? ((⟨b0, 0, none⟩ : Addr).add j) = some u := by
  subst hb
  exact cell_five_new w a b c d e t
theorem row_low {w w' : World} {base : Nat} {e : TypeId} {size : Nat} {v : Value} {n : Nat} {xs : List Value} (h : w.ownsRow base e size v n xs) (hb : Below w.heap.size w w') : w'.ownsRow base e size v n xs := by
  obtain ⟨h1, h2⟩ := h
  refine ⟨h1, ?_⟩
  rcases h2 with h2 | ⟨g, cap, cur, hv, hg, hh, r⟩
  · exact Or.inl h2
  · refine Or.inr ⟨g, cap, cur, hv, hg, ?_, r⟩
    have hlt : g < w.heap.size := by
      apply Classical.byContradiction
      intro n
      rw [Array.getElem?_eq_none (by omega)] at hh
      cases hh
    rw [hb.block g hlt]
    exact hh
theorem rdiff_pure {a b : List Lb} (oa : OkL a) (ob : OkL b) {T : List Lb} (hp : T.Perm (un a b)) (hu : Up T) : rdL a b T = df a b ∧ T.length ≤ 64 := by
  refine ⟨rd_eq oa.up ob.up hp hu, ?_⟩
  rw [hp.length_eq]
  have := un_len a b
  have h1 := oa.len
  have h2 := ob.len
  omega
set_option maxHeartbeats 16000000 in
set_option maxRecDepth 100000 in
theorem rdiff_ok (v1 v2 : Value) (a b : List Lb) (w : World) (h1 : Items w v1 a) (h2 : Items w v2 b) (g1 : Good a) (g2 : Good b) (oa : OkL a) (ob : OkL b) :
    Calls Tryd.prog 6 #[v1, v2] w fun e w' => ∃ v', e = .returned v' ∧ ItemsD w' v' (df a b) ∧ Below w.heap.size w w' := by
  obtain ⟨i0, hi0, hz0, hz1, hz2⟩ := info_parts infoL
  obtain ⟨j0, hj0, hy0, hy1, hy2⟩ := info_parts infoD
  have F1 := hid (rcheck_any v1 a w h1 g1)
  have F2 := hid (fun W (hb : Below w.heap.size w W) => rcheck_any v2 b W (h2.low hb) g2)
  rw [check_ok oa] at F1
  rw [check_ok ob] at F2
  have F3 := hid (fun s W (hb : Below w.heap.size w W) => rfind_any v1 a s W (h1.low hb) g1.1.1)
  have F4 := hid (fun s W (hb : Below w.heap.size w W) => rone_any v1 v2 a b s W (h1.low hb) (h2.low hb) g1.1.1 g2.1.1)
  have RI := hid (fun V W (h : Items W V (un a b)) => rrise_any V (un a b) W h (by have := un_len a b; have := oa.len; have := ob.len; omega) (un_dist oa.up ob.up))
  have PU := hid (fun T hp hu => rdiff_pure oa ob (T := T) hp hu)
  obtain ⟨a1, c1, rfl, x1⟩ := h1
  obtain ⟨a2, c2, rfl, x2⟩ := h2
  have la := oa.len
  have lb := ob.len
  obtain ⟨na, hna⟩ : ∃ n, n = a.length := ⟨_, rfl⟩
  obtain ⟨nb, hnb⟩ : ∃ n, n = b.length := ⟨_, rfl⟩
  have HNA := hid hna
  have HNB := hid hnb
  rw [← hna] at F1 F3 F4 x1 la ⊢
  rw [← hnb] at F2 F4 x2 lb ⊢
  have X1 := hid x1
  have X2 := hid x2
  clear hna hnb x1 x2 g1 g2 oa ob
  go_enter Tryd.func6, Tryd.ntmps6
  go_wp2_with fail
  refine F1.out.mono ?_
  rintro e w1 ⟨rfl, hb⟩
  have B1 := hid hb
  clear hb
  go_wp2_with fail
  refine (F2.out _ B1.out).mono ?_
  rintro e w2 ⟨rfl, hb⟩
  have B2 := hid (B1.out.trans (hb.mono B1.out.size))
  clear hb B1
  go_wp2_with fail
  go_loopw [9, 10] (fun al i wr => ∃ k : Nat, k ≤ na ∧ i = .int .i64 k ∧ Hid (Below w2.heap.size w2 wr) ∧ Hid (Own wr w2.heap.size al (a.take k))) (fun _ i _ => na - (intOf i).toNat)
  case atStart => exact ⟨0, Nat.zero_le _, rfl, hid (Below.refl _ _), hid (World.ownsRow_nil _ _ _ _)⟩
  case round =>
    obtain ⟨k, hk, rfl, HB, OW⟩ := hrel
    have hws : w2.heap.size ≤ wr.heap.size := HB.out.size
    by_cases hlt : k < na
    · rcases X1.out with h0 | ⟨b0, off, rfl, hbl, hc⟩
      · omega
      obtain ⟨q0, q1⟩ := hc k hlt
      have hbl2 : b0 < w2.heap.size := Nat.lt_of_lt_of_le hbl B2.out.size
      rw [← B2.out.cell (p := ⟨b0, off + k * 2, none⟩) hbl, ← HB.out.cell (p := ⟨b0, off + k * 2, none⟩) hbl2] at q0
      rw [← B2.out.cell (p := ⟨b0, off + k * 2 + 1, none⟩) hbl, ← HB.out.cell (p := ⟨b0, off + k * 2 + 1, none⟩) hbl2] at q1
      have hsz : b0 < wr.heap.size := Nat.lt_of_lt_of_le hbl2 HB.out.size
      have HT := hid (take_kv a k (by rw [← HNA.out]; exact hlt))
      have hkl : (a.take k).length = k := by rw [List.length_take, ← HNA.out]; omega
      generalize ky a k = s' at *
      generalize vl a k = n at *
      generalize a.take k = S at *
      clear hc
      go_wp2_with (first
        | (at_builtin; refine wpList_append_own _ rfl _ _ 22 rfl w2.heap.size 27 i0 (.agg #[.string ByteArray.empty, .string ByteArray.empty]) 2 32 Tryd.underlying22 hi0 hz0 hz1 hz2 rfl (by decide) _ _ _ rfl (World.ownsRow.alloc OW.out _) ⟨wr.heap.size, 0, none⟩ 1 1 [.string s', .string n] rfl rfl (cell_two_at _ _ _ _ _ (by simp)) (fun x hx => by simp at hx; rcases hx with rfl | rfl <;> rfl) (by unfold maxLen at *; omega) (by omega) (by simp; omega) ?_; intro v' w3 hown' hgrow3 hnil3)
        | go_in)
      clear hnil3
      have B3 : Below w2.heap.size w2 w3 := (HB.out.alloc hws _).grown hgrow3 (by simp; omega) (fun j hj => own_base OW.out j hj)
      exact ⟨⟨k + 1, by omega, by go_num, hid B3, hid (by rw [HT.out]; exact own_snoc (x := (s', n)) hown')⟩, by simp [intOf]; omega⟩
    · obtain rfl : k = na := by omega
      have HO := hid (show Own wr w2.heap.size _ (un a (b.take 0)) by
        have o := OW.out
        rw [HNA.out, List.take_length] at o
        unfold un
        simpa using o)
      have HB0 := HB
      clear OW HB
      go_wp2_with fail
      go_loopw [9, 11] (fun al i wq => ∃ k : Nat, k ≤ nb ∧ i = .int .i64 k ∧ Hid (Below w2.heap.size w2 wq) ∧ Hid (Own wq w2.heap.size al (un a (b.take k)))) (fun _ i _ => nb - (intOf i).toNat)
      case atStart => exact ⟨0, Nat.zero_le _, rfl, HB0, HO⟩
      case round =>
        obtain ⟨k', hk', rfl, HB, OW⟩ := hrel
        have hws : w2.heap.size ≤ wr.heap.size := HB.out.size
        by_cases hlt' : k' < nb
        · rcases X2.out with h0 | ⟨b0, off, rfl, hbl, hc⟩
          · omega
          obtain ⟨q0, q1⟩ := hc k' hlt'
          have hbl2 : b0 < w2.heap.size := Nat.lt_of_lt_of_le hbl B2.out.size
          rw [← B2.out.cell (p := ⟨b0, off + k' * 2, none⟩) hbl, ← HB.out.cell (p := ⟨b0, off + k' * 2, none⟩) hbl2] at q0
          rw [← B2.out.cell (p := ⟨b0, off + k' * 2 + 1, none⟩) hbl, ← HB.out.cell (p := ⟨b0, off + k' * 2 + 1, none⟩) hbl2] at q1
          have hsz : b0 < wr.heap.size := Nat.lt_of_lt_of_le hbl2 HB.out.size
          have HT := hid (un_take a b k' (by rw [← HNB.out]; exact hlt'))
          have hkl : (un a (b.take k')).length ≤ 64 := by
            have := un_len a (b.take k')
            rw [List.length_take, ← HNA.out] at this
            omega
          have FF := hid (F3.out (ky b k') wr (B2.out.trans (HB.out.mono B2.out.size)))
          have HFR := hid (find_range a (ky b k'))
          generalize hfn : findN a (ky b k') = fN at *
          generalize ky b k' = s' at *
          generalize vl b k' = n at *
          generalize un a (b.take k') = S at *
          clear hc hfn
          by_cases hf : fN < 0
          · rw [if_pos hf] at HT
            go_wp2_with fail
            refine FF.out.mono ?_
            rintro e wx ⟨rfl, hw⟩; subst hw
            go_wp2_with (first
              | (at_builtin; refine wpList_append_own _ rfl _ _ 22 rfl w2.heap.size 27 i0 (.agg #[.string ByteArray.empty, .string ByteArray.empty]) 2 32 Tryd.underlying22 hi0 hz0 hz1 hz2 rfl (by decide) _ _ _ rfl (World.ownsRow.alloc OW.out _) ⟨_, 0, none⟩ 1 1 [.string s', .string n] rfl rfl (cell_two_at _ _ _ _ _ (by simp)) (fun x hx => by simp at hx; rcases hx with rfl | rfl <;> rfl) (by unfold maxLen at *; omega) (by omega) (by simp; omega) ?_; intro v' w3 hown' hgrow3 hnil3)
              | go_in)
            clear hnil3
            have B3 : Below w2.heap.size w2 w3 := (HB.out.alloc hws _).grown hgrow3 (by simp; omega) (fun j hj => own_base OW.out j hj)
            exact ⟨⟨k' + 1, by omega, by go_num, hid B3, hid (by rw [HT.out]; exact own_snoc (x := (s', n)) hown')⟩, by simp [intOf]; omega⟩
          · rw [if_neg hf, List.append_nil] at HT
            go_wp2_with fail
            refine FF.out.mono ?_
            rintro e wx ⟨rfl, hw⟩; subst hw
            go_wp2_with fail
            exact ⟨⟨k' + 1, by omega, by go_num, HB, hid (by rw [HT.out]; exact OW.out)⟩, by simp [intOf]; omega⟩
        · obtain rfl : k' = nb := by omega
          have HI := hid (show Items wr _ (un a b) by
            have o := own_items OW.out
            rw [HNB.out, List.take_length] at o
            exact o)
          go_wp2_with fail
          refine (RI.out _ _ HI.out).mono ?_
          rintro e w4 ⟨v4, T, rfl, i4, p4, u4, hb⟩
          have B4 := hid (B2.out.trans ((HB.out.trans (hb.mono HB.out.size)).mono B2.out.size))
          obtain ⟨hrd, hT⟩ := PU.out T p4 u4
          have HRD := hid hrd
          obtain ⟨a4, c4, rfl, x4⟩ := i4
          obtain ⟨nT, hnT⟩ : ∃ n, n = T.length := ⟨_, rfl⟩
          have HNT := hid hnT
          rw [← hnT] at x4 hT ⊢
          have X4 := hid x4
          clear hb p4 u4 HI OW HB hrd x4 hnT
          go_wp2_with fail
          go_loopw [13, 14] (fun o i wq => ∃ k : Nat, k ≤ nT ∧ i = .int .i64 k ∧ Hid (Below w4.heap.size w4 wq) ∧ Hid (wq.ownsRow w4.heap.size 35 5 o (rdL a b (T.take k)).length (cellsD (rdL a b (T.take k))))) (fun _ i _ => nT - (intOf i).toNat)
          case atStart => exact ⟨0, Nat.zero_le _, rfl, hid (Below.refl _ _), hid (World.ownsRow_nil _ _ _ _)⟩
          case round =>
            obtain ⟨m, hm, rfl, HB, OW⟩ := hrel
            have hws : w4.heap.size ≤ wr.heap.size := HB.out.size
            by_cases hlm : m < nT
            · rcases X4.out with h0 | ⟨b0, off, rfl, hbl, hc⟩
              · omega
              obtain ⟨q0, q1⟩ := hc m hlm
              rw [← HB.out.cell (p := ⟨b0, off + m * 2, none⟩) hbl] at q0
              rw [← HB.out.cell (p := ⟨b0, off + m * 2 + 1, none⟩) hbl] at q1
              have hsz : b0 < wr.heap.size := Nat.lt_of_lt_of_le hbl HB.out.size
              have HT := hid (rd_take a b T m (by rw [← HNT.out]; exact hlm))
              have hkl : (rdL a b (T.take m)).length ≤ 64 := by
                have := rd_len a b (T.take m)
                rw [List.length_take] at this
                omega
              have FF := hid (F4.out (ky T m) wr (B4.out.trans (HB.out.mono B4.out.size)))
              generalize oneD a b (ky T m) = d at *
              generalize ky T m = s' at *
              generalize vl T m = n at *
              generalize rdL a b (T.take m) = S at *
              clear hc
              obtain ⟨dk, dO, dn, dh, ds⟩ := d
              unfold difB at HT
              simp only [dv] at FF HT
              go_wp2_with fail
              refine FF.out.mono ?_
              rintro e wx ⟨rfl, hbx⟩
              have HBX := hid (HB.out.trans (hbx.mono HB.out.size))
              have OWX := hid (row_low OW.out hbx)
              have hwx : w4.heap.size ≤ wx.heap.size := HBX.out.size
              clear hbx OW HB
              cases dh with
              | false =>
                cases ds with
                | false =>
                  cases e1 : (dO.toList == dn.toList)
                  · have e1' : (dO.toList != dn.toList) = true := by simp [bne, e1]
                    rw [if_pos (by simp [e1'])] at HT
                    go_wp2_with (first
                      | (at_builtin; refine wpList_append_own _ rfl _ _ 24 rfl w4.heap.size 35 j0 (.agg #[.string ByteArray.empty, .string ByteArray.empty, .string ByteArray.empty, .bool false, .bool false]) 5 56 Tryd.underlying24 hj0 hy0 hy1 hy2 rfl (by decide) _ _ _ rfl (World.ownsRow.alloc (World.ownsRow.alloc OWX.out _) _) ⟨wx.heap.size + 1, 0, none⟩ 1 1 [.string dk, .string dO, .string dn, .bool false, .bool false] rfl rfl (cell_five_at _ _ _ _ _ _ _ _ (by simp)) (fun x hx => by simp at hx; rcases hx with rfl | rfl | rfl | rfl | rfl <;> rfl) (by unfold maxLen; omega) (by omega) (by simp; omega) ?_; intro v' w9 hown' hgrow9 hnil9)
                      | go_in)
                    clear hnil9
                    have B9 : Below w4.heap.size w4 w9 := ((HBX.out.alloc hwx _).alloc (by simp; omega) _).grown hgrow9 (by simp; omega) (fun j hj => own_base OWX.out j hj)
                    exact ⟨⟨m + 1, by omega, by go_num, hid B9, hid (by rw [HT.out, cellsD_snoc, List.length_append]; exact hown')⟩, by simp [intOf]; omega⟩
                  · have e1' : (dO.toList != dn.toList) = false := by simp [bne, e1]
                    rw [if_neg (by simp [e1'])] at HT
                    rw [List.append_nil] at HT
                    go_wp2_with fail
                    exact ⟨⟨m + 1, by omega, by go_num, hid (HBX.out.alloc hwx _), hid (by rw [HT.out]; exact World.ownsRow.alloc OWX.out _)⟩, by simp [intOf]; omega⟩
                | true =>
                  rw [if_pos (by simp)] at HT
                  go_wp2_with (first
                    | (at_builtin; refine wpList_append_own _ rfl _ _ 24 rfl w4.heap.size 35 j0 (.agg #[.string ByteArray.empty, .string ByteArray.empty, .string ByteArray.empty, .bool false, .bool false]) 5 56 Tryd.underlying24 hj0 hy0 hy1 hy2 rfl (by decide) _ _ _ rfl (World.ownsRow.alloc (World.ownsRow.alloc OWX.out _) _) ⟨wx.heap.size + 1, 0, none⟩ 1 1 [.string dk, .string dO, .string dn, .bool false, .bool true] rfl rfl (cell_five_at _ _ _ _ _ _ _ _ (by simp)) (fun x hx => by simp at hx; rcases hx with rfl | rfl | rfl | rfl | rfl <;> rfl) (by unfold maxLen; omega) (by omega) (by simp; omega) ?_; intro v' w9 hown' hgrow9 hnil9)
                    | go_in)
                  clear hnil9
                  have B9 : Below w4.heap.size w4 w9 := ((HBX.out.alloc hwx _).alloc (by simp; omega) _).grown hgrow9 (by simp; omega) (fun j hj => own_base OWX.out j hj)
                  exact ⟨⟨m + 1, by omega, by go_num, hid B9, hid (by rw [HT.out, cellsD_snoc, List.length_append]; exact hown')⟩, by simp [intOf]; omega⟩
              | true =>
                cases ds with
                | false =>
                  rw [if_pos (by simp)] at HT
                  go_wp2_with (first
                    | (at_builtin; refine wpList_append_own _ rfl _ _ 24 rfl w4.heap.size 35 j0 (.agg #[.string ByteArray.empty, .string ByteArray.empty, .string ByteArray.empty, .bool false, .bool false]) 5 56 Tryd.underlying24 hj0 hy0 hy1 hy2 rfl (by decide) _ _ _ rfl (World.ownsRow.alloc (World.ownsRow.alloc OWX.out _) _) ⟨wx.heap.size + 1, 0, none⟩ 1 1 [.string dk, .string dO, .string dn, .bool true, .bool false] rfl rfl (cell_five_at _ _ _ _ _ _ _ _ (by simp)) (fun x hx => by simp at hx; rcases hx with rfl | rfl | rfl | rfl | rfl <;> rfl) (by unfold maxLen; omega) (by omega) (by simp; omega) ?_; intro v' w9 hown' hgrow9 hnil9)
                    | go_in)
                  clear hnil9
                  have B9 : Below w4.heap.size w4 w9 := ((HBX.out.alloc hwx _).alloc (by simp; omega) _).grown hgrow9 (by simp; omega) (fun j hj => own_base OWX.out j hj)
                  exact ⟨⟨m + 1, by omega, by go_num, hid B9, hid (by rw [HT.out, cellsD_snoc, List.length_append]; exact hown')⟩, by simp [intOf]; omega⟩
                | true =>
                  cases e1 : (dO.toList == dn.toList)
                  · have e1' : (dO.toList != dn.toList) = true := by simp [bne, e1]
                    rw [if_pos (by simp [e1'])] at HT
                    go_wp2_with (first
                      | (at_builtin; refine wpList_append_own _ rfl _ _ 24 rfl w4.heap.size 35 j0 (.agg #[.string ByteArray.empty, .string ByteArray.empty, .string ByteArray.empty, .bool false, .bool false]) 5 56 Tryd.underlying24 hj0 hy0 hy1 hy2 rfl (by decide) _ _ _ rfl (World.ownsRow.alloc (World.ownsRow.alloc OWX.out _) _) ⟨wx.heap.size + 1, 0, none⟩ 1 1 [.string dk, .string dO, .string dn, .bool true, .bool true] rfl rfl (cell_five_at _ _ _ _ _ _ _ _ (by simp)) (fun x hx => by simp at hx; rcases hx with rfl | rfl | rfl | rfl | rfl <;> rfl) (by unfold maxLen; omega) (by omega) (by simp; omega) ?_; intro v' w9 hown' hgrow9 hnil9)
                      | go_in)
                    clear hnil9
                    have B9 : Below w4.heap.size w4 w9 := ((HBX.out.alloc hwx _).alloc (by simp; omega) _).grown hgrow9 (by simp; omega) (fun j hj => own_base OWX.out j hj)
                    exact ⟨⟨m + 1, by omega, by go_num, hid B9, hid (by rw [HT.out, cellsD_snoc, List.length_append]; exact hown')⟩, by simp [intOf]; omega⟩
                  · have e1' : (dO.toList != dn.toList) = false := by simp [bne, e1]
                    rw [if_neg (by simp [e1'])] at HT
                    rw [List.append_nil] at HT
                    go_wp2_with fail
                    exact ⟨⟨m + 1, by omega, by go_num, hid (HBX.out.alloc hwx _), hid (by rw [HT.out]; exact World.ownsRow.alloc OWX.out _)⟩, by simp [intOf]; omega⟩
            · obtain rfl : m = nT := by omega
              have HF := hid (show ItemsD wr _ (df a b) by
                have o := own_itemsD OW.out
                rw [HNT.out, List.take_length, HRD.out] at o
                exact o)
              have HB9 := hid (B4.out.trans (HB.out.mono B4.out.size))
              go_wp2_with fail
              go_ret
              exact ⟨_, rfl, HF.out, HB9.out⟩
end Go.Proofs.YtodamoblnlcodaaDoor.L
