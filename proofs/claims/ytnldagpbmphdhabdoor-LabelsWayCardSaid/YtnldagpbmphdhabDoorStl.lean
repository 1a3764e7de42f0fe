import Derived.Test.YtnldagpbmphdhabDoorPch
namespace Go.Proofs.YtnldagpbmphdhabDoor.L
open Go.RowKit
set_option linter.unusedVariables false
set_option maxHeartbeats 4000000 in
set_option maxRecDepth 100000 in
theorem index_no (v : Value) (l : List Lb) (x : Lb) (w : World) (hi : Items w v l) (hl : l.length ≤ 64) (hx : x ∉ l) : Calls Tryd.prog 98 #[v, .agg #[.string x.1, .string x.2]] w fun e w' => e = .returned (.int .i64 (-1)) ∧ Below w.heap.size w w' := by
  obtain ⟨a, c, rfl, h⟩ := hi
  obtain ⟨len, hlen⟩ : ∃ n, n = l.length := ⟨_, rfl⟩
  have HX := hid hx
  have HLEN := hid hlen
  rw [← hlen] at h hl ⊢
  clear hlen hx
  obtain ⟨xk, xv⟩ := x
  go_enter Tryd.func98, Tryd.ntmps98
  go_wp2
  go_loopw [8] (fun i wr => ∃ k : Nat, k ≤ len ∧ i = .int .i64 k ∧ Hid (Below (w.heap.size + 1) (w.alloc (.cells #[.string xk, .string xv] 33)) wr) ∧ Hid (∀ j, j < k → (ky l j, vl l j) ≠ (xk, xv))) (fun i _ => len - (intOf i).toNat)
  case atStart => exact ⟨0, Nat.zero_le _, rfl, hid (Below.refl _ _), hid (fun j hj => by omega)⟩
  case round =>
    obtain ⟨k, hk, rfl, HB, HN⟩ := hrel
    by_cases hlt : k < len
    · rcases h with h0 | ⟨b, off, rfl, hbl, hc⟩
      · omega
      obtain ⟨c0, c1⟩ := hc k hlt
      have A0 := belowA w (.cells #[.string xk, .string xv] 33)
      rw [← A0.cell (p := ⟨b, off + k * 2, none⟩) hbl, ← HB.out.cell (p := ⟨b, off + k * 2, none⟩) (Nat.lt_succ_of_lt hbl)] at c0
      rw [← A0.cell (p := ⟨b, off + k * 2 + 1, none⟩) hbl, ← HB.out.cell (p := ⟨b, off + k * 2 + 1, none⟩) (Nat.lt_succ_of_lt hbl)] at c1
      have m0 : wr.cell? ⟨w.heap.size, 0, none⟩ = some (.string xk) := (HB.out.cell (p := ⟨w.heap.size, 0, none⟩) (Nat.lt_succ_self _)).trans (by simp [go_sem])
      have m1 : wr.cell? ⟨w.heap.size, 1, none⟩ = some (.string xv) := (HB.out.cell (p := ⟨w.heap.size, 1, none⟩) (Nat.lt_succ_self _)).trans (by simp [go_sem])
      have HBW := hid (fun m => A0.trans ((below_drewN HB.out m).mono (Nat.le_succ _)))
      have g1 : (k : Int) < (len : Int) := by omega
      have g2 : (0 : Int) ≤ (k : Int) := by omega
      clear A0
      have HN2 := hid (show (ky l k, vl l k) ≠ (xk, xv) → ∀ j, j < k + 1 → (ky l j, vl l j) ≠ (xk, xv) from fun hne j hj => by
        rcases Nat.lt_succ_iff_lt_or_eq.1 hj with h | rfl
        · exact HN.out j h
        · exact hne)
      have HMEM := hid (kv_mem l k (by rw [← HLEN.out]; exact hlt))
      generalize ky l k = s' at *
      generalize vl l k = n at *
      clear hc
      by_cases e1 : s' = xk
      · subst e1
        by_cases e2 : n = xv
        · subst e2
          exact absurd HMEM.out HX.out
        · have n2 : (xv.toList == n.toList) = false := by simp; exact fun h => e2 (bytes_ext h).symm
          have HN3 := hid (HN2.out (fun e => e2 (Prod.mk.inj e).2))
          clear HN2 e2
          go_wp2_with fail
          go_quiet (fail)
          go_wp2
          exact ⟨⟨k + 1, by omega, by go_num, hid (below_drewN HB.out nq), HN3⟩, by simp [intOf]; omega⟩
      · have n2 : (xk.toList == s'.toList) = false := by simp; exact fun h => e1 (bytes_ext h).symm
        have HN3 := hid (HN2.out (fun e => e1 (Prod.mk.inj e).1))
        clear HN2 e1
        go_wp2_with fail
        go_quiet (fail)
        go_wp2
        exact ⟨⟨k + 1, by omega, by go_num, hid (below_drewN HB.out nq), HN3⟩, by simp [intOf]; omega⟩
    · obtain rfl : k = len := by omega
      have HBW := hid ((belowA w (.cells #[.string xk, .string xv] 33)).trans (HB.out.mono (Nat.le_succ _)))
      go_wp2
      go_ret
      exact ⟨rfl, HBW.out⟩
set_option maxHeartbeats 4000000 in
set_option maxRecDepth 100000 in
theorem contains_no (v : Value) (l : List Lb) (x : Lb) (w : World) (hi : Items w v l) (hl : l.length ≤ 64) (hx : x ∉ l) : Calls Tryd.prog 73 #[v, .agg #[.string x.1, .string x.2]] w fun e w' => e = .returned (.bool false) ∧ Below w.heap.size w w' := by
  have HI := hid (fun W (hb : Below w.heap.size w W) => index_no v l x W (hi.low hb) hl hx)
  clear hi hx hl
  go_enter Tryd.func73, Tryd.ntmps73
  go_wp2_with fail
  refine (HI.out _ (belowA _ _)).mono ?_
  rintro e w1 ⟨rfl, hb0⟩
  have hb := (belowA w (.cells #[.string x.1, .string x.2] 33)).trans (hb0.mono (by simp))
  clear hb0
  go_wp2_with fail
  go_ret
  exact ⟨rfl, hb⟩
set_option maxHeartbeats 4000000 in
set_option maxRecDepth 100000 in
theorem fits_no (v : Value) (l : List Lb) (d : Df) (w : World) (hi : Items w v l) (hl : l.length ≤ 64) (hk : d.k.size ≤ maxLen) (hu : Up l) (hg : getN l d.k ≠ (d.o, d.had)) (hz : d.had = false → (getN l d.k).2 = true) : Calls Tryd.prog 59 #[v, dv d] w fun e w' => e = .returned (.bool false) ∧ Below w.heap.size w w' := by
  obtain ⟨k, o, n, had, has⟩ := d
  simp only at hk hg hz
  unfold dv
  simp only
  cases had with
  | true =>
    have hm : (k, o) ∉ l := fun h => hg (get_up hu h)
    have HC := hid (fun W (hb : Below w.heap.size w W) => contains_no v l (k, o) W (hi.low hb) hl hm)
    clear hi hg hm hk hl hz
    go_enter Tryd.func59, Tryd.ntmps59
    go_wp2_with fail
    refine (HC.out _ (belowA _ _)).mono ?_
    rintro e w1 ⟨rfl, hb0⟩
    have hb := (belowA w (.cells #[.string k, .string o, .string n, .bool true, .bool has] 47)).trans (hb0.mono (by simp))
    clear hb0
    go_wp2_with fail
    go_ret
    exact ⟨rfl, hb⟩
  | false =>
    have HC := hid (fun W (hb : Below w.heap.size w W) => has_any v l k W (hi.low hb) (by unfold maxLen; omega) hk)
    rw [hz rfl] at HC
    clear hi hg hk hl hz
    go_enter Tryd.func59, Tryd.ntmps59
    go_wp2_with fail
    refine (HC.out _ (belowA _ _)).mono ?_
    rintro e w1 ⟨rfl, hb0⟩
    have hb := (belowA w (.cells #[.string k, .string o, .string n, .bool false, .bool has] 47)).trans (hb0.mono (by simp))
    clear hb0
    go_wp2_with fail
    go_ret
    exact ⟨rfl, hb⟩
set_option maxHeartbeats 4000000 in
set_option maxRecDepth 100000 in
theorem checkdiff_stale (v : Value) (l : List Lb) (t : ByteArray) (d : Df) (w : World) (hi : Items w v l) (hl : l.length ≤ 64) (ht : t.size ≤ maxLen) (hk : d.k.size ≤ maxLen) (ho : d.o.size ≤ maxLen) (hn : d.n.size ≤ maxLen)
    (hK : keyB d.k = true) (hO : valB d.o = true) (hN : valB d.n = true) (hr : Op.bytesLess t.toList d.k.toList = true) (hf : Fine d) (hu : Up l) (hg : getN l d.k ≠ (d.o, d.had)) (hz : d.had = false → (getN l d.k).2 = true) :
    Calls Tryd.prog 40 #[v, .string t, dv d] w fun e w' => e = .returned (.int .i64 38) ∧ Below w.heap.size w w' := by
  have KK := hid (fun W => key_any d.k W hk)
  rw [hK] at KK
  have OO := hid (fun W => value_any d.o W ho)
  rw [hO] at OO
  have NN := hid (fun W => value_any d.n W hn)
  rw [hN] at NN
  have RR := hid (fun W => rise_any t d.k W)
  rw [show riseE t d.k = 0 by
    obtain ⟨z1, z2, z3⟩ := less_asymm _ _ hr
    unfold riseE eqS
    rw [z3, z1]
    rfl] at RR
  have SS := hid (fun W => something_any d W hf)
  have FF := hid (fun W (hb : Below w.heap.size w W) => fits_no v l d W (hi.low hb) hl hk hu hg hz)
  obtain ⟨k, o, n, had, has⟩ := d
  simp only [dv] at KK OO NN SS FF RR ⊢
  clear hi hl ht hk ho hn hK hO hN hf hg hr hz
  go_enter Tryd.func40, Tryd.ntmps40
  go_wp2_with fail
  have F0 := five_new w ⟨k, o, n, had, has⟩ 47
  have b0 := belowA w (.cells #[.string k, .string o, .string n, .bool had, .bool has] 47)
  refine (KK.out _).mono ?_
  rintro e w1 ⟨rfl, hb⟩
  obtain ⟨d0, d1, d2, d3, d4⟩ := F0.low hb (by simp)
  have F1 := hid (F0.low hb (by simp))
  have B1 := hid (b0.trans (hb.mono b0.size))
  have Z1 := hid (show w.heap.size < w1.heap.size from Nat.lt_of_lt_of_le (by simp) hb.size)
  clear hb F0 b0
  simp only at d0 d1 d2 d3 d4
  go_wp2_with fail
  refine (RR.out _).mono ?_
  rintro e w1x ⟨rfl, hw⟩
  subst hw
  go_wp2_with fail
  refine (SS.out _).mono ?_
  rintro e w2 ⟨rfl, hb⟩
  clear d0 d1 d2 d3 d4
  obtain ⟨d0, d1, d2, d3, d4⟩ := F1.out.low hb Z1.out
  have B2 := hid (B1.out.trans (hb.mono B1.out.size))
  clear hb F1 B1 Z1
  simp only at d0 d1 d2 d3 d4
  go_wp2_with fail
  refine (OO.out _).mono ?_
  rintro e w2x ⟨rfl, hw⟩
  subst hw
  go_wp2_with fail
  refine (NN.out _).mono ?_
  rintro e w2y ⟨rfl, hw⟩
  subst hw
  have B3 := B2
  go_wp2_with fail
  refine (FF.out _ B3.out).mono ?_
  rintro e w3 ⟨rfl, hb⟩
  have B4 := hid (B3.out.trans (hb.mono B3.out.size))
  clear hb B3 B2
  go_wp2_with fail
  go_ret
  exact ⟨rfl, B4.out⟩
set_option maxHeartbeats 4000000 in
set_option maxRecDepth 100000 in
theorem patch_stale (v v2 : Value) (a b : List Lb) (w : World) (hc : Came w v b) (h2 : ItemsD w v2 (df a b)) (gb : Good b) (oa : OkL a) (ob : OkL b) (hL : (df a b).length ≤ 64) (hne : df a b ≠ []) :
    Calls Tryd.prog 19 #[v, v2] w fun e w' => e = .returned (.tuple #[.slice none 0 0, .int .i64 38]) ∧ Below w.heap.size w w' := by
  have HC := hid (check_any v b w hc.items gb)
  rw [check_ok ob] at HC
  go_enter Tryd.func19, Tryd.ntmps19
  go_wp2_with fail
  refine HC.out.mono ?_
  rintro e w1 ⟨rfl, hb⟩
  obtain ⟨a1, c1, rfl⟩ := came_slice hc
  have H2 := hid (h2.low hb)
  have HA := hid (hc.low hb)
  obtain ⟨a2, c2, rfl, -⟩ := h2
  have B1 := hid hb
  clear hb HC hc
  go_wp2_with fail
  have hS := df_says _ a b (Nat.le_refl _) oa.up ob.up
  have HG := hid (df_good oa ob)
  have hb64 : b.length ≤ 64 := by have := ob.len; omega
  have CD := hid (fun (W : World) (d : Df) (hb : Below w1.heap.size w1 W) (hd : d ∈ df a b) =>
    checkdiff_stale (.slice a1 b.length c1) b ByteArray.empty d W (HA.out.items.low hb) hb64 (by unfold maxLen; decide) (by have := key_size (HG.out d hd).1; unfold maxLen; omega) (by have := val_size (HG.out d hd).2.1; unfold maxLen; omega) (by have := val_size (HG.out d hd).2.2; unfold maxLen; omega) (HG.out d hd).1 (HG.out d hd).2.1 (HG.out d hd).2.2 (key_full (HG.out d hd).1) (fine_of hS hd) ob.up
      (fun e => by
        rw [hS.new d hd] at e
        obtain ⟨e1, e2⟩ := Prod.mk.inj e
        exact hS.differ d hd e2.symm e1.symm)
      (fun e => by
        rw [hS.new d hd]
        cases x : d.has
        · exfalso
          refine hS.differ d hd (e.trans x.symm) ?_
          rw [(fine_of hS hd).noOld e, (fine_of hS hd).noNew x]
        · rfl))
  have H2' := H2
  generalize df a b = L at *
  clear hS HG
  obtain ⟨lenD, hlenD⟩ : ∃ n, n = L.length := ⟨_, rfl⟩
  have HLD := hid hlenD
  have hpos : 0 < lenD := by
    rw [hlenD]
    exact List.length_pos_iff.2 hne
  rw [← hlenD] at hL ⊢
  clear hlenD
  go_loopw [8, 23] (fun bv i wr => i = .int .i64 0 ∧ bv = .string ByteArray.empty ∧ Hid (Below w1.heap.size w1 wr)) (fun _ i _ => lenD - (intOf i).toNat)
  case atStart => exact ⟨rfl, rfl, hid (Below.refl _ _)⟩
  case round =>
    obtain ⟨rfl, rfl, HQ⟩ := hrel
    obtain ⟨a2', c2', e2, h0 | ⟨b0, off, rfl, hbl, hc⟩⟩ := H2'.out
    · have := HLD.out
      omega
    simp only [Value.slice.injEq] at e2
    obtain ⟨rfl, _, rfl⟩ := e2
    have hjl : 0 < L.length := by rw [← HLD.out]; exact hpos
    obtain ⟨d0, d1, d2, d3, d4⟩ := hc 0 hjl
    rw [Nat.zero_mul, Nat.add_zero] at d0 d1 d2 d3 d4
    rw [← HQ.out.cell (p := ⟨b0, off, none⟩) hbl] at d0
    rw [← HQ.out.cell (p := ⟨b0, off + 1, none⟩) hbl] at d1
    rw [← HQ.out.cell (p := ⟨b0, off + 2, none⟩) hbl] at d2
    rw [← HQ.out.cell (p := ⟨b0, off + 3, none⟩) hbl] at d3
    rw [← HQ.out.cell (p := ⟨b0, off + 4, none⟩) hbl] at d4
    have hsz : b0 < wr.heap.size := Nat.lt_of_lt_of_le hbl HQ.out.size
    have hdm : L[0] ∈ L := List.getElem_mem _
    have g1 : (0 : Int) < (lenD : Int) := by omega
    generalize L[0] = d at *
    have BA := HQ.out.trans ((belowA wr (.cells #[.string d.k, .string d.o, .string d.n, .bool d.had, .bool d.has] 47)).mono HQ.out.size)
    have CDD := hid (CD.out _ d BA hdm)
    have HBA := hid BA
    clear hc hdm BA CD
    obtain ⟨dk, dO, dn, dh, ds⟩ := d
    simp only [dv] at CDD d0 d1 d2 d3 d4 HBA
    go_wp2_with fail
    refine CDD.out.mono ?_
    rintro e w2 ⟨rfl, hb⟩
    have B2 := hid (B1.out.trans ((HBA.out.trans (hb.mono HBA.out.size)).mono B1.out.size))
    clear hb CDD
    go_wp2_with fail
    first | go_ret2 | go_ret
    exact ⟨rfl, B2.out⟩
end Go.Proofs.YtnldagpbmphdhabDoor.L
