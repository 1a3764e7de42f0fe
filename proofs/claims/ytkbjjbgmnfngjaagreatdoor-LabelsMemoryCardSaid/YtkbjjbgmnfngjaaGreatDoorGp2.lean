import Derived.Test.YtkbjjbgmnfngjaaGreatDoorGp1
import Derived.Test.YtkbjjbgmnfngjaaGreatDoorRgt
namespace Go.Proofs.YtkbjjbgmnfngjaaGreatDoor.L
open Go.RowKit
set_option linter.unusedVariables false
set_option maxHeartbeats 4000000 in
set_option maxRecDepth 100000 in
theorem index_no (v : Value) (l : List Lb) (x : Lb) (w : World) (hi : Items w v l) (hl : l.length ≤ 64) (hx : x ∉ l) : Calls Tryz.prog 103 #[v, .agg #[.string x.1, .string x.2]] w fun e w' => e = .returned (.int .i64 (-1)) ∧ Below w.heap.size w w' := by
  obtain ⟨a, c, rfl, h⟩ := hi
  obtain ⟨len, hlen⟩ : ∃ n, n = l.length := ⟨_, rfl⟩
  have HX := hid hx
  have HLEN := hid hlen
  rw [← hlen] at h hl ⊢
  clear hlen hx
  obtain ⟨xk, xv⟩ := x
  go_enter Tryz.func103, Tryz.ntmps103
  go_wp2
  go_loopw [8] (fun i wr => ∃ k : Nat, k ≤ len ∧ i = .int .i64 k ∧ Hid (Below (w.heap.size + 1) (w.alloc (.cells #[.string xk, .string xv] 36)) wr) ∧ Hid (∀ j, j < k → (ky l j, vl l j) ≠ (xk, xv))) (fun i _ => len - (intOf i).toNat)
  case atStart => exact ⟨0, Nat.zero_le _, rfl, hid (Below.refl _ _), hid (fun j hj => by omega)⟩
  case round =>
    obtain ⟨k, hk, rfl, HB, HN⟩ := hrel
    by_cases hlt : k < len
    · rcases h with h0 | ⟨b, off, rfl, hbl, hc⟩
      · omega
      obtain ⟨c0, c1⟩ := hc k hlt
      have A0 := belowA w (.cells #[.string xk, .string xv] 36)
      rw [← A0.cell (p := ⟨b, off + k * 2, none⟩) hbl, ← HB.out.cell (p := ⟨b, off + k * 2, none⟩) (Nat.lt_succ_of_lt hbl)] at c0
      rw [← A0.cell (p := ⟨b, off + k * 2 + 1, none⟩) hbl, ← HB.out.cell (p := ⟨b, off + k * 2 + 1, none⟩) (Nat.lt_succ_of_lt hbl)] at c1
      have m0 : wr.cell? ⟨w.heap.size, 0, none⟩ = some (.string xk) := (HB.out.cell (p := ⟨w.heap.size, 0, none⟩) (Nat.lt_succ_self _)).trans (by simp [go_sem])
      have m1 : wr.cell? ⟨w.heap.size, 1, none⟩ = some (.string xv) := (HB.out.cell (p := ⟨w.heap.size, 1, none⟩) (Nat.lt_succ_self _)).trans (by simp [go_sem])
      have HBW := hid (fun m => A0.trans ((below_drewN HB.out m).mono (Nat.le_succ _)))
      have g1 : (k : Int) < (len : Int) := by omega
      have g2 : (0 : Int) ≤ (k : Int) := by omega
      clear A0
      have HN2 := hid (show (ky l k, vl l k) ≠ (xk, xv) → ∀ j, j < k + 1 → (ky l j, vl l j) ≠ (xk, xv) from fun hne j hj => by
        rcases Nat.lt_succ_iff_lt_or_eq.1 hj with h | rfl
        · exact HN.out j h
        · exact hne)
      have HMEM := hid (kv_mem l k (by rw [← HLEN.out]; exact hlt))
      generalize ky l k = s' at *
      generalize vl l k = n at *
      clear hc
      by_cases e1 : s' = xk
      · subst e1
        by_cases e2 : n = xv
        · subst e2
          exact absurd HMEM.out HX.out
        · have n2 : (xv.toList == n.toList) = false := by simp; exact fun h => e2 (bytes_ext h).symm
          have HN3 := hid (HN2.out (fun e => e2 (Prod.mk.inj e).2))
          clear HN2 e2
          go_wp2_with fail
          go_quiet (fail)
          go_wp2
          exact ⟨⟨k + 1, by omega, by go_num, hid (below_drewN HB.out nq), HN3⟩, by simp [intOf]; omega⟩
      · have n2 : (xk.toList == s'.toList) = false := by simp; exact fun h => e1 (bytes_ext h).symm
        have HN3 := hid (HN2.out (fun e => e1 (Prod.mk.inj e).1))
        clear HN2 e1
        go_wp2_with fail
        go_quiet (fail)
        go_wp2
        exact ⟨⟨k + 1, by omega, by go_num, hid (below_drewN HB.out nq), HN3⟩, by simp [intOf]; omega⟩
    · obtain rfl : k = len := by omega
      have HBW := hid ((belowA w (.cells #[.string xk, .string xv] 36)).trans (HB.out.mono (Nat.le_succ _)))
      go_wp2
      go_ret
      exact ⟨rfl, HBW.out⟩
set_option maxHeartbeats 4000000 in
set_option maxRecDepth 100000 in
theorem contains_no (v : Value) (l : List Lb) (x : Lb) (w : World) (hi : Items w v l) (hl : l.length ≤ 64) (hx : x ∉ l) : Calls Tryz.prog 87 #[v, .agg #[.string x.1, .string x.2]] w fun e w' => e = .returned (.bool false) ∧ Below w.heap.size w w' := by
  have HI := hid (fun W (hb : Below w.heap.size w W) => index_no v l x W (hi.low hb) hl hx)
  clear hi hx hl
  go_enter Tryz.func87, Tryz.ntmps87
  go_wp2_with fail
  refine (HI.out _ (belowA _ _)).mono ?_
  rintro e w1 ⟨rfl, hb0⟩
  have hb := (belowA w (.cells #[.string x.1, .string x.2] 36)).trans (hb0.mono (by simp))
  clear hb0
  go_wp2_with fail
  go_ret
  exact ⟨rfl, hb⟩
set_option maxHeartbeats 4000000 in
set_option maxRecDepth 100000 in
theorem fits_no (v : Value) (l : List Lb) (d : Df) (w : World) (hi : Items w v l) (hl : l.length ≤ 64) (hk : d.k.size ≤ maxLen) (hu : Up l) (hg : getN l d.k ≠ (d.o, d.had)) (hz : d.had = false → (getN l d.k).2 = true) : Calls Tryz.prog 61 #[v, dv d] w fun e w' => e = .returned (.bool false) ∧ Below w.heap.size w w' := by
  obtain ⟨k, o, n, had, has⟩ := d
  simp only at hk hg hz
  unfold dv
  simp only
  cases had with
  | true =>
    have hm : (k, o) ∉ l := fun h => hg (get_up hu h)
    have HC := hid (fun W (hb : Below w.heap.size w W) => contains_no v l (k, o) W (hi.low hb) hl hm)
    clear hi hg hm hk hl hz
    go_enter Tryz.func61, Tryz.ntmps61
    go_wp2_with fail
    refine (HC.out _ (belowA _ _)).mono ?_
    rintro e w1 ⟨rfl, hb0⟩
    have hb := (belowA w (.cells #[.string k, .string o, .string n, .bool true, .bool has] 52)).trans (hb0.mono (by simp))
    clear hb0
    go_wp2_with fail
    go_ret
    exact ⟨rfl, hb⟩
  | false =>
    have HC := hid (fun W (hb : Below w.heap.size w W) => has_any v l k W (hi.low hb) (by unfold maxLen; omega) hk)
    rw [hz rfl] at HC
    clear hi hg hk hl hz
    go_enter Tryz.func61, Tryz.ntmps61
    go_wp2_with fail
    refine (HC.out _ (belowA _ _)).mono ?_
    rintro e w1 ⟨rfl, hb0⟩
    have hb := (belowA w (.cells #[.string k, .string o, .string n, .bool false, .bool has] 52)).trans (hb0.mono (by simp))
    clear hb0
    go_wp2_with fail
    go_ret
    exact ⟨rfl, hb⟩
set_option maxHeartbeats 4000000 in
set_option maxRecDepth 100000 in
theorem checkdiff_stl (v : Value) (l : List Lb) (t : ByteArray) (d : Df) (w : World) (hi : Items w v l) (hl : l.length ≤ 64) (ht : t.size ≤ maxLen) (hk : d.k.size ≤ maxLen) (ho : d.o.size ≤ maxLen) (hn : d.n.size ≤ maxLen)
    (hK : keyB d.k = true) (hO : valB d.o = true) (hN : valB d.n = true) (hr : Op.bytesLess t.toList d.k.toList = true) (hf : Fine d) (hu : Up l) (hg : getN l d.k ≠ (d.o, d.had)) (hz : d.had = false → (getN l d.k).2 = true) :
    Calls Tryz.prog 39 #[v, .string t, dv d] w fun e w' => e = .returned (.int .i64 38) ∧ Below w.heap.size w w' := by
  have KK := hid (fun W => key_any d.k W hk)
  rw [hK] at KK
  have OO := hid (fun W => value_any d.o W ho)
  rw [hO] at OO
  have NN := hid (fun W => value_any d.n W hn)
  rw [hN] at NN
  have RR := hid (fun W => rise_any t d.k W)
  rw [show riseE t d.k = 0 by
    obtain ⟨z1, z2, z3⟩ := less_asymm _ _ hr
    unfold riseE eqS
    rw [z3, z1]
    rfl] at RR
  have SS := hid (fun W => something_any d W hf)
  have FF := hid (fun W (hb : Below w.heap.size w W) => fits_no v l d W (hi.low hb) hl hk hu hg hz)
  obtain ⟨k, o, n, had, has⟩ := d
  simp only [dv] at KK OO NN SS FF RR ⊢
  clear hi hl ht hk ho hn hK hO hN hf hg hr hz
  go_enter Tryz.func39, Tryz.ntmps39
  go_wp2_with fail
  have F0 := five_new w ⟨k, o, n, had, has⟩ 52
  have b0 := belowA w (.cells #[.string k, .string o, .string n, .bool had, .bool has] 52)
  refine (KK.out _).mono ?_
  rintro e w1 ⟨rfl, hb⟩
  obtain ⟨d0, d1, d2, d3, d4⟩ := F0.low hb (by simp)
  have F1 := hid (F0.low hb (by simp))
  have B1 := hid (b0.trans (hb.mono b0.size))
  have Z1 := hid (show w.heap.size < w1.heap.size from Nat.lt_of_lt_of_le (by simp) hb.size)
  clear hb F0 b0
  simp only at d0 d1 d2 d3 d4
  go_wp2_with fail
  refine (RR.out _).mono ?_
  rintro e w1x ⟨rfl, hw⟩
  subst hw
  go_wp2_with fail
  refine (SS.out _).mono ?_
  rintro e w2 ⟨rfl, hb⟩
  clear d0 d1 d2 d3 d4
  obtain ⟨d0, d1, d2, d3, d4⟩ := F1.out.low hb Z1.out
  have B2 := hid (B1.out.trans (hb.mono B1.out.size))
  clear hb F1 B1 Z1
  simp only at d0 d1 d2 d3 d4
  go_wp2_with fail
  refine (OO.out _).mono ?_
  rintro e w2x ⟨rfl, hw⟩
  subst hw
  go_wp2_with fail
  refine (NN.out _).mono ?_
  rintro e w2y ⟨rfl, hw⟩
  subst hw
  have B3 := B2
  go_wp2_with fail
  refine (FF.out _ B3.out).mono ?_
  rintro e w3 ⟨rfl, hb⟩
  have B4 := hid (B3.out.trans (hb.mono B3.out.size))
  clear hb B3 B2
  go_wp2_with fail
  go_ret
  exact ⟨rfl, B4.out⟩
set_option maxHeartbeats 4000000 in
set_option maxRecDepth 100000 in
theorem checkdiff_31 (v : Value) (l : List Lb) (t : ByteArray) (d : Df) (w : World) (hi : Items w v l) (hl : l.length ≤ 64) (ht : t.size ≤ maxLen) (hk : d.k.size ≤ maxLen) (ho : d.o.size ≤ maxLen) (hn : d.n.size ≤ maxLen) (a1 : keyB d.k = false) :
    Calls Tryz.prog 39 #[v, .string t, dv d] w fun e w' => e = .returned (.int .i64 31) ∧ Below w.heap.size w w' := by
  have KK := hid (fun W => key_any d.k W hk)
  rw [a1] at KK
  obtain ⟨k, o, n, had, has⟩ := d
  simp only [dv] at *
  clear hi hl ht hk ho hn
  go_enter Tryz.func39, Tryz.ntmps39
  go_wp2_with fail
  have F0 := five_new w ⟨k, o, n, had, has⟩ 52
  have b0 := belowA w (.cells #[.string k, .string o, .string n, .bool had, .bool has] 52)
  refine (KK.out _).mono ?_
  rintro e w1 ⟨rfl, hb⟩
  obtain ⟨d0, d1, d2, d3, d4⟩ := F0.low hb (by simp)
  have F1 := hid (F0.low hb (by simp))
  have B1 := hid (b0.trans (hb.mono b0.size))
  have Z1 := hid (show w.heap.size < w1.heap.size from Nat.lt_of_lt_of_le (by simp) hb.size)
  clear hb F0 b0
  simp only at d0 d1 d2 d3 d4
  go_wp2_with fail
  go_ret
  exact ⟨rfl, B1.out⟩
set_option maxHeartbeats 4000000 in
set_option maxRecDepth 100000 in
theorem checkdiff_rise (v : Value) (l : List Lb) (t : ByteArray) (d : Df) (w : World) (hi : Items w v l) (hl : l.length ≤ 64) (ht : t.size ≤ maxLen) (hk : d.k.size ≤ maxLen) (ho : d.o.size ≤ maxLen) (hn : d.n.size ≤ maxLen) (a1 : keyB d.k = true) (a2 : riseE t d.k ≠ 0) :
    Calls Tryz.prog 39 #[v, .string t, dv d] w fun e w' => e = .returned (.int .i64 (riseE t d.k)) ∧ Below w.heap.size w w' := by
  have KK := hid (fun W => key_any d.k W hk)
  rw [a1] at KK
  have RR := hid (fun W => rise_any t d.k W)
  have hne : (riseE t d.k != 0) = true := by simpa using a2
  generalize riseE t d.k = rv at *
  obtain ⟨k, o, n, had, has⟩ := d
  simp only [dv] at *
  clear hi hl ht hk ho hn
  go_enter Tryz.func39, Tryz.ntmps39
  go_wp2_with fail
  have F0 := five_new w ⟨k, o, n, had, has⟩ 52
  have b0 := belowA w (.cells #[.string k, .string o, .string n, .bool had, .bool has] 52)
  refine (KK.out _).mono ?_
  rintro e w1 ⟨rfl, hb⟩
  obtain ⟨d0, d1, d2, d3, d4⟩ := F0.low hb (by simp)
  have F1 := hid (F0.low hb (by simp))
  have B1 := hid (b0.trans (hb.mono b0.size))
  have Z1 := hid (show w.heap.size < w1.heap.size from Nat.lt_of_lt_of_le (by simp) hb.size)
  clear hb F0 b0
  simp only at d0 d1 d2 d3 d4
  go_wp2_with fail
  refine (RR.out _).mono ?_
  rintro e w1x ⟨rfl, hw⟩
  subst hw
  go_wp2_with fail
  go_ret
  exact ⟨rfl, B1.out⟩
set_option maxHeartbeats 4000000 in
set_option maxRecDepth 100000 in
theorem checkdiff_37 (v : Value) (l : List Lb) (t : ByteArray) (d : Df) (w : World) (hi : Items w v l) (hl : l.length ≤ 64) (ht : t.size ≤ maxLen) (hk : d.k.size ≤ maxLen) (ho : d.o.size ≤ maxLen) (hn : d.n.size ≤ maxLen) (a1 : keyB d.k = true) (a2 : riseE t d.k = 0) (a3 : somB d = false) :
    Calls Tryz.prog 39 #[v, .string t, dv d] w fun e w' => e = .returned (.int .i64 37) ∧ Below w.heap.size w w' := by
  have KK := hid (fun W => key_any d.k W hk)
  rw [a1] at KK
  have RR := hid (fun W => rise_any t d.k W)
  rw [a2] at RR
  have SS := hid (fun W => something_all d W)
  rw [a3] at SS
  obtain ⟨k, o, n, had, has⟩ := d
  simp only [dv] at *
  clear hi hl ht hk ho hn
  go_enter Tryz.func39, Tryz.ntmps39
  go_wp2_with fail
  have F0 := five_new w ⟨k, o, n, had, has⟩ 52
  have b0 := belowA w (.cells #[.string k, .string o, .string n, .bool had, .bool has] 52)
  refine (KK.out _).mono ?_
  rintro e w1 ⟨rfl, hb⟩
  obtain ⟨d0, d1, d2, d3, d4⟩ := F0.low hb (by simp)
  have F1 := hid (F0.low hb (by simp))
  have B1 := hid (b0.trans (hb.mono b0.size))
  have Z1 := hid (show w.heap.size < w1.heap.size from Nat.lt_of_lt_of_le (by simp) hb.size)
  clear hb F0 b0
  simp only at d0 d1 d2 d3 d4
  go_wp2_with fail
  refine (RR.out _).mono ?_
  rintro e w1x ⟨rfl, hw⟩
  subst hw
  go_wp2_with fail
  refine (SS.out _).mono ?_
  rintro e w2 ⟨rfl, hb⟩
  clear d0 d1 d2 d3 d4
  obtain ⟨d0, d1, d2, d3, d4⟩ := F1.out.low hb Z1.out
  have B2 := hid (B1.out.trans (hb.mono B1.out.size))
  clear hb F1 B1 Z1
  simp only at d0 d1 d2 d3 d4
  go_wp2_with fail
  go_ret
  exact ⟨rfl, B2.out⟩
set_option maxHeartbeats 4000000 in
set_option maxRecDepth 100000 in
theorem checkdiff_32o (v : Value) (l : List Lb) (t : ByteArray) (d : Df) (w : World) (hi : Items w v l) (hl : l.length ≤ 64) (ht : t.size ≤ maxLen) (hk : d.k.size ≤ maxLen) (ho : d.o.size ≤ maxLen) (hn : d.n.size ≤ maxLen) (a1 : keyB d.k = true) (a2 : riseE t d.k = 0) (a3 : somB d = true) (a4 : valB d.o = false) :
    Calls Tryz.prog 39 #[v, .string t, dv d] w fun e w' => e = .returned (.int .i64 32) ∧ Below w.heap.size w w' := by
  have KK := hid (fun W => key_any d.k W hk)
  rw [a1] at KK
  have RR := hid (fun W => rise_any t d.k W)
  rw [a2] at RR
  have SS := hid (fun W => something_all d W)
  rw [a3] at SS
  have OO := hid (fun W => value_any d.o W ho)
  rw [a4] at OO
  obtain ⟨k, o, n, had, has⟩ := d
  simp only [dv] at *
  clear hi hl ht hk ho hn
  go_enter Tryz.func39, Tryz.ntmps39
  go_wp2_with fail
  have F0 := five_new w ⟨k, o, n, had, has⟩ 52
  have b0 := belowA w (.cells #[.string k, .string o, .string n, .bool had, .bool has] 52)
  refine (KK.out _).mono ?_
  rintro e w1 ⟨rfl, hb⟩
  obtain ⟨d0, d1, d2, d3, d4⟩ := F0.low hb (by simp)
  have F1 := hid (F0.low hb (by simp))
  have B1 := hid (b0.trans (hb.mono b0.size))
  have Z1 := hid (show w.heap.size < w1.heap.size from Nat.lt_of_lt_of_le (by simp) hb.size)
  clear hb F0 b0
  simp only at d0 d1 d2 d3 d4
  go_wp2_with fail
  refine (RR.out _).mono ?_
  rintro e w1x ⟨rfl, hw⟩
  subst hw
  go_wp2_with fail
  refine (SS.out _).mono ?_
  rintro e w2 ⟨rfl, hb⟩
  clear d0 d1 d2 d3 d4
  obtain ⟨d0, d1, d2, d3, d4⟩ := F1.out.low hb Z1.out
  have B2 := hid (B1.out.trans (hb.mono B1.out.size))
  clear hb F1 B1 Z1
  simp only at d0 d1 d2 d3 d4
  go_wp2_with fail
  refine (OO.out _).mono ?_
  rintro e w2x ⟨rfl, hw⟩
  subst hw
  go_wp2_with fail
  go_ret
  exact ⟨rfl, B2.out⟩
set_option maxHeartbeats 4000000 in
set_option maxRecDepth 100000 in
theorem checkdiff_32n (v : Value) (l : List Lb) (t : ByteArray) (d : Df) (w : World) (hi : Items w v l) (hl : l.length ≤ 64) (ht : t.size ≤ maxLen) (hk : d.k.size ≤ maxLen) (ho : d.o.size ≤ maxLen) (hn : d.n.size ≤ maxLen) (a1 : keyB d.k = true) (a2 : riseE t d.k = 0) (a3 : somB d = true) (a4 : valB d.o = true) (a5 : valB d.n = false) :
    Calls Tryz.prog 39 #[v, .string t, dv d] w fun e w' => e = .returned (.int .i64 32) ∧ Below w.heap.size w w' := by
  have KK := hid (fun W => key_any d.k W hk)
  rw [a1] at KK
  have RR := hid (fun W => rise_any t d.k W)
  rw [a2] at RR
  have SS := hid (fun W => something_all d W)
  rw [a3] at SS
  have OO := hid (fun W => value_any d.o W ho)
  rw [a4] at OO
  have NN := hid (fun W => value_any d.n W hn)
  rw [a5] at NN
  obtain ⟨k, o, n, had, has⟩ := d
  simp only [dv] at *
  clear hi hl ht hk ho hn
  go_enter Tryz.func39, Tryz.ntmps39
  go_wp2_with fail
  have F0 := five_new w ⟨k, o, n, had, has⟩ 52
  have b0 := belowA w (.cells #[.string k, .string o, .string n, .bool had, .bool has] 52)
  refine (KK.out _).mono ?_
  rintro e w1 ⟨rfl, hb⟩
  obtain ⟨d0, d1, d2, d3, d4⟩ := F0.low hb (by simp)
  have F1 := hid (F0.low hb (by simp))
  have B1 := hid (b0.trans (hb.mono b0.size))
  have Z1 := hid (show w.heap.size < w1.heap.size from Nat.lt_of_lt_of_le (by simp) hb.size)
  clear hb F0 b0
  simp only at d0 d1 d2 d3 d4
  go_wp2_with fail
  refine (RR.out _).mono ?_
  rintro e w1x ⟨rfl, hw⟩
  subst hw
  go_wp2_with fail
  refine (SS.out _).mono ?_
  rintro e w2 ⟨rfl, hb⟩
  clear d0 d1 d2 d3 d4
  obtain ⟨d0, d1, d2, d3, d4⟩ := F1.out.low hb Z1.out
  have B2 := hid (B1.out.trans (hb.mono B1.out.size))
  clear hb F1 B1 Z1
  simp only at d0 d1 d2 d3 d4
  go_wp2_with fail
  refine (OO.out _).mono ?_
  rintro e w2x ⟨rfl, hw⟩
  subst hw
  go_wp2_with fail
  refine (NN.out _).mono ?_
  rintro e w2y ⟨rfl, hw⟩
  subst hw
  go_wp2_with fail
  go_ret
  exact ⟨rfl, B2.out⟩
theorem checkdiff_all (v : Value) (l : List Lb) (t : ByteArray) (d : Df) (w : World) (hi : Items w v l) (hu : Up l) (hl : l.length ≤ 64) (ht : t.size ≤ maxLen) (hk : d.k.size ≤ maxLen) (ho : d.o.size ≤ maxLen) (hn : d.n.size ≤ maxLen) :
    Calls Tryz.prog 39 #[v, .string t, dv d] w fun e w' => e = .returned (.int .i64 (cE l t d)) ∧ Below w.heap.size w w' := by
  unfold cE
  rcases wE_cases t d with ⟨a1, e⟩ | ⟨a1, a2, e⟩ | ⟨a1, a2, a3, e⟩ | ⟨a1, a2, a3, a4, e⟩ | ⟨a1, a2, a3, a4, a5, e⟩ | ⟨a1, a2, a3, a4, a5, e⟩
  · rw [e, if_neg (by decide)]
    exact checkdiff_31 v l t d w hi hl ht hk ho hn a1
  · rw [e, if_neg a2]
    exact checkdiff_rise v l t d w hi hl ht hk ho hn a1 a2
  · rw [e, if_neg (by decide)]
    exact checkdiff_37 v l t d w hi hl ht hk ho hn a1 a2 a3
  · rw [e, if_neg (by decide)]
    exact checkdiff_32o v l t d w hi hl ht hk ho hn a1 a2 a3 a4
  · rw [e, if_neg (by decide)]
    exact checkdiff_32n v l t d w hi hl ht hk ho hn a1 a2 a3 a4 a5
  · rw [e, if_pos rfl]
    cases f : fitB l d
    · rw [if_pos rfl]
      refine checkdiff_stl v l t d w hi hl ht hk ho hn a1 a4 a5 (rise_zero a2) (som_fine a3) hu (fit_no f) (fun eh => ?_)
      cases g : (getN l d.k).2
      · exfalso
        have := (get_no g).1
        exact fit_no f (by rw [this, eh, (som_fine a3).noOld eh])
      · rfl
    · rw [if_neg (by decide)]
      exact checkdiff_ok v l t d w hi hl ht hk ho hn a1 a4 a5 (rise_zero a2) (som_fine a3) (fit_yes f)
/-- What every list of differences that came in is. -/
def GoodD (L : List Df) : Prop := L.length ≤ 2600000000000 ∧ ∀ d ∈ L, d.k.size ≤ maxLen ∧ d.o.size ≤ maxLen ∧ d.n.size ≤ maxLen
set_option maxHeartbeats 4000000 in
theorem patch_no (v v2 : Value) (l : List Lb) (w : World) (hi : Items w v l) (hg : Good l) (h : (checkN l).2 ≠ 0) :
    Calls Tryz.prog 25 #[v, v2] w fun e w' => e = .returned (.tuple #[.slice none 0 0, .int .i64 (checkN l).2]) ∧ Below w.heap.size w w' := by
  have HC := hid (check_any v l w hi hg)
  have hne : ((checkN l).2 != 0) = true := by simpa using h
  generalize checkN l = r at *
  clear h hi
  go_enter Tryz.func25, Tryz.ntmps25
  go_wp2_with fail
  refine HC.out.mono ?_
  rintro e w1 ⟨rfl, hb⟩
  have B1 := hid hb
  clear hb
  go_wp2_with fail
  go_ret2
  exact ⟨rfl, B1.out⟩
theorem out_good {l : List Lb} {L : List Df} (hg : Good l) (hl : l.length ≤ 64) (hd : GoodD L) : Good (outL l L) := by
  have := out_len l L
  have h1 := hd.1
  refine ⟨⟨by unfold maxLen; omega, by omega⟩, fun x hx => ?_⟩
  rcases out_mem l L x hx with h | ⟨d, h, rfl⟩
  · exact hg.2 x h
  · exact ⟨(hd.2 d h).1, (hd.2 d h).2.2⟩
theorem GoodD.take {L : List Df} (h : GoodD L) (k : Nat) : GoodD (L.take k) := ⟨by rw [List.length_take]; have := h.1; omega, fun d hd => h.2 d (List.mem_of_mem_take hd)⟩
set_option maxHeartbeats 4000000 in
set_option maxRecDepth 100000 in
theorem patch_some (v v2 : Value) (l : List Lb) (L : List Df) (w : World) (hc : Came w v l) (h2 : ItemsD w v2 L) (hg : Good l) (gd : GoodD L) (ho : OkL l) :
    Calls Tryz.prog 25 #[v, v2] w fun e w' => ∃ v' l', e = .returned (.tuple #[v', .int .i64 (patA l L)]) ∧ Below w.heap.size w w' ∧ ((patA l L ≠ 0 ∧ v' = .slice none 0 0) ∨ (patA l L = 0 ∧ Own w' w.heap.size v' l' ∧ Sorted (kept L l ++ newly L) l')) := by
  have HC := hid (check_any v l w hc.items hg)
  rw [check_ok ho] at HC
  have HPA := hid (show patA l L = if pdE l ByteArray.empty L = 0 then (if 32 < (kept L l ++ newly L).length then 34 else 0) else pdE l ByteArray.empty L by unfold patA; rw [check_ok ho, if_pos rfl])
  have HOE := hid (fun h => out_eq (l := l) (t := ByteArray.empty) (L := L) h)
  have HOG := hid (out_good hg (by have := ho.len; omega) gd)
  have hl64 : l.length ≤ 64 := by have := ho.len; omega
  obtain ⟨E, hE⟩ : ∃ E, E = patA l L := ⟨_, rfl⟩
  rw [← hE]
  rw [← hE] at HPA
  clear hE
  go_enter Tryz.func25, Tryz.ntmps25
  go_wp2_with fail
  refine HC.out.mono ?_
  rintro e w1 ⟨rfl, hb⟩
  obtain ⟨a1, c1, rfl⟩ := came_slice hc
  have H2 := hid (h2.low hb)
  have HA := hid (hc.low hb)
  obtain ⟨a2, c2, rfl, -⟩ := h2
  have B1 := hid hb
  clear hb HC hc
  go_wp2_with fail
  have CD := hid (fun (W : World) (t : ByteArray) (d : Df) (hb : Below w1.heap.size w1 W) (ht : t.size ≤ maxLen) (hd : d ∈ L) =>
    checkdiff_all (.slice a1 l.length c1) l t d W (HA.out.items.low hb) ho.up hl64 ht (gd.2 d hd).1 (gd.2 d hd).2.1 (gd.2 d hd).2.2)
  have PT := hid (fun (W : World) (hb : Below w1.heap.size w1 W) => patched_any (.slice a1 l.length c1) (.slice a2 L.length c2) l L W (HA.out.items.low hb) (H2.out.low hb) hl64 gd.1)
  have H2' := H2
  have HGD := hid gd.2
  have hL := gd.1
  obtain ⟨lenD, hlenD⟩ : ∃ n, n = L.length := ⟨_, rfl⟩
  have HLD := hid hlenD
  rw [← hlenD] at hL PT ⊢
  clear hlenD gd
  obtain ⟨PE, hPE⟩ : ∃ E, E = pdE l ByteArray.empty L := ⟨_, rfl⟩
  rw [← hPE] at HPA HOE
  have HPE := hid hPE
  clear hPE
  go_loopw [8, 23] (fun bv i wr => ∃ (j : Nat) (t : ByteArray), j ≤ lenD ∧ i = .int .i64 j ∧ bv = .string t ∧ Hid (t.size ≤ maxLen) ∧ Hid (Below w1.heap.size w1 wr) ∧ Hid (PE = pdE l t (L.drop j))) (fun _ i _ => lenD - (intOf i).toNat)
  case atStart => exact ⟨0, ByteArray.empty, Nat.zero_le _, rfl, rfl, hid (by unfold maxLen; decide), hid (Below.refl _ _), HPE⟩
  case round =>
    obtain ⟨j, t, hj, rfl, rfl, HTS, HQ, HR⟩ := hrel
    by_cases hlt : j < lenD
    · obtain ⟨a2', c2', e2, h0 | ⟨b0, off, rfl, hbl, hc⟩⟩ := H2'.out
      · have := HLD.out
        omega
      simp only [Value.slice.injEq] at e2
      obtain ⟨rfl, _, rfl⟩ := e2
      have hjl : j < L.length := by rw [← HLD.out]; exact hlt
      obtain ⟨d0, d1, d2, d3, d4⟩ := hc j hjl
      rw [← HQ.out.cell (p := ⟨b0, off + j * 5, none⟩) hbl] at d0
      rw [← HQ.out.cell (p := ⟨b0, off + j * 5 + 1, none⟩) hbl] at d1
      rw [← HQ.out.cell (p := ⟨b0, off + j * 5 + 2, none⟩) hbl] at d2
      rw [← HQ.out.cell (p := ⟨b0, off + j * 5 + 3, none⟩) hbl] at d3
      rw [← HQ.out.cell (p := ⟨b0, off + j * 5 + 4, none⟩) hbl] at d4
      have hsz : b0 < wr.heap.size := Nat.lt_of_lt_of_le hbl HQ.out.size
      have hdm : L[j] ∈ L := List.getElem_mem _
      have HKS := hid (show L[j].k.size ≤ maxLen from (HGD.out _ hdm).1)
      have st := HR.out
      rw [List.drop_eq_getElem_cons hjl] at st
      have g1 : (j : Int) < (lenD : Int) := by omega
      have g2 : (0 : Int) ≤ (j : Int) := by omega
      generalize L[j] = d at *
      unfold pdE at st
      have A0 := belowA wr (.cells #[.string d.k, .string d.o, .string d.n, .bool d.had, .bool d.has] 52)
      have F0 := five_new wr d 52
      have BA := HQ.out.trans (A0.mono HQ.out.size)
      have CDD := hid (CD.out _ t d BA HTS.out hdm)
      have HBA := hid BA
      have HF0 := hid F0
      clear hc hdm A0 F0 BA
      generalize cE l t d = ce at *
      obtain ⟨dk, dO, dn, dh, ds⟩ := d
      simp only [dv] at CDD d0 d1 d2 d3 d4 HKS HBA st
      by_cases hce : ce = 0
      · rw [if_pos hce] at st
        have ST := hid st
        subst hce
        clear st
        go_wp2_with fail
        refine CDD.out.mono ?_
        rintro e w2 ⟨rfl, hb⟩
        obtain ⟨x0, -, -, -, -⟩ := HF0.out.low hb (by simp)
        have B2 := hid (HBA.out.trans (hb.mono HBA.out.size))
        clear hb CDD
        simp only at x0
        go_wp2_with fail
        exact ⟨⟨j + 1, dk, by omega, by go_num, rfl, HKS, B2, ST⟩, by simp [intOf]; omega⟩
      · rw [if_neg hce] at st
        have hne : (ce != 0) = true := by simpa using hce
        have HE := hid (show E = ce by rw [HPA.out, st, if_neg hce])
        have HCE := hid hce
        clear st hce
        go_wp2_with fail
        refine CDD.out.mono ?_
        rintro e w2 ⟨rfl, hb⟩
        have B2 := hid (B1.out.trans ((HBA.out.trans (hb.mono HBA.out.size)).mono B1.out.size))
        clear hb CDD
        go_wp2_with fail
        first | go_ret2 | go_ret
        exact ⟨_, [], by rw [HE.out]; rfl, B2.out, Or.inl ⟨by rw [HE.out]; exact HCE.out, rfl⟩⟩
    · obtain rfl : j = lenD := by omega
      have HZ := hid (show PE = 0 by rw [HR.out, HLD.out, List.drop_length]; rfl)
      have HPA2 := hid (show E = if 32 < (kept L l ++ newly L).length then 34 else 0 by rw [HPA.out, if_pos HZ.out])
      have GK := hid (show Good (kept L l ++ newly L) by rw [← HOE.out HZ.out]; exact HOG.out)
      have PP := hid (PT.out wr HQ.out)
      go_wp2_with fail
      refine PP.out.mono ?_
      rintro e w3 ⟨v3, rfl, hown, hb⟩
      have B3 := hid (HQ.out.trans (hb.mono HQ.out.size))
      have C3 := hid (own_came hown)
      generalize hKN : kept L l ++ newly L = KN at *
      have HKN := hid hKN
      clear hKN
      have SO := hid (sorted_any v3 KN w3 C3.out GK.out)
      obtain ⟨a3, c3, rfl⟩ := came_slice C3.out
      clear hb hown PP
      by_cases h32 : 32 < KN.length
      · rw [if_pos h32] at HPA2
        have g3 : (32 : Int) < (KN.length : Int) := by omega
        have B4 := hid (B1.out.trans (B3.out.mono B1.out.size))
        go_wp2_with fail
        first | go_ret2 | go_ret
        exact ⟨_, [], by rw [HPA2.out]; rfl, B4.out, Or.inl ⟨by rw [HPA2.out]; decide, rfl⟩⟩
      · rw [if_neg h32] at HPA2
        have g3 : (KN.length : Int) ≤ 32 := by omega
        go_wp2_with fail
        refine SO.out.mono ?_
        rintro e w4 ⟨v4, l4, rfl, hc4, hs4, hb4⟩
        have B4 := hid (B1.out.trans ((B3.out.trans (hb4.mono B3.out.size)).mono B1.out.size))
        have C4 := hid (own_mono hc4 (B1.out.trans (B3.out.mono B1.out.size)).size)
        have S4 := hid hs4
        clear hc4 hs4 hb4
        go_wp2_with fail
        first | go_ret2 | go_ret
        exact ⟨v4, l4, by rw [HPA2.out]; rfl, B4.out, Or.inr ⟨HPA2.out, C4.out, by rw [HKN.out]; exact S4.out⟩⟩
theorem patch_all (v v2 : Value) (l : List Lb) (L : List Df) (w : World) (hc : Came w v l) (h2 : ItemsD w v2 L) (hg : Good l) (gd : GoodD L) :
    Calls Tryz.prog 25 #[v, v2] w fun e w' => ∃ v' l', e = .returned (.tuple #[v', .int .i64 (patA l L)]) ∧ Below w.heap.size w w' ∧ ((patA l L ≠ 0 ∧ v' = .slice none 0 0) ∨ (patA l L = 0 ∧ Own w' w.heap.size v' l' ∧ Sorted (kept L l ++ newly L) l')) := by
  rcases check_cases l with ⟨ho, e⟩ | h
  · exact patch_some v v2 l L w hc h2 hg gd ho
  · have e : patA l L = (checkN l).2 := by unfold patA; rw [if_neg h]
    rw [e]
    refine (patch_no v v2 l w hc.items hg h).mono ?_
    rintro e w' ⟨rfl, hb⟩
    exact ⟨_, [], rfl, hb, Or.inl ⟨h, rfl⟩⟩
end Go.Proofs.YtkbjjbgmnfngjaaGreatDoor.L
