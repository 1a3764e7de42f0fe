import Derived.Test.YtnldagpbmphdhaaGreatDoorMgG
import Derived.Test.YtnldagpbmphdhaaGreatDoorWlk
namespace Go.Proofs.YtnldagpbmphdhaaGreatDoor.L
open Go.RowKit
set_option linter.unusedVariables false
/-- A difference that says something. -/
structure Fine (d : Df) : Prop where
  noOld : d.had = false → d.o = ByteArray.empty
  noNew : d.has = false → d.n = ByteArray.empty
  differ : d.had = d.has → d.o ≠ d.n
theorem fine_of {L : List Df} {a b : List Lb} (h : Says L a b) {d : Df} (hd : d ∈ L) : Fine d := by
  refine ⟨fun e => ?_, fun e => ?_, h.differ d hd⟩
  · have := h.old d hd
    rw [e] at this
    have k := (get_no (l := a) (s := d.k) (by rw [this])).1
    rw [this] at k
    exact (Prod.mk.inj k).1
  · have := h.new d hd
    rw [e] at this
    have k := (get_no (l := b) (s := d.k) (by rw [this])).1
    rw [this] at k
    exact (Prod.mk.inj k).1
set_option maxHeartbeats 4000000 in
set_option maxRecDepth 100000 in
theorem something_any (d : Df) (w : World) (hf : Fine d) : Calls Tryz.prog 114 #[dv d] w fun e w' => e = .returned (.bool true) ∧ Below w.heap.size w w' := by
  obtain ⟨k, o, n, had, has⟩ := d
  obtain ⟨h1, h2, h3⟩ := hf
  simp only at h1 h2 h3
  unfold dv
  simp only
  cases had with
  | false =>
    obtain rfl := h1 rfl
    cases has with
    | false =>
      obtain rfl := h2 rfl
      exact absurd rfl (h3 rfl)
    | true =>
      clear h1 h2 h3
      go_enter Tryz.func114, Tryz.ntmps114
      go_wp2
      go_ret
      exact ⟨rfl, belowA _ _⟩
  | true =>
    cases has with
    | false =>
      obtain rfl := h2 rfl
      clear h1 h2 h3
      go_enter Tryz.func114, Tryz.ntmps114
      go_wp2
      go_ret
      exact ⟨rfl, belowA _ _⟩
    | true =>
      have n2 : (o.toList == n.toList) = false := by simp; exact fun h => h3 rfl (bytes_ext h)
      clear h1 h2 h3
      go_enter Tryz.func114, Tryz.ntmps114
      go_wp2
      go_ret
      exact ⟨rfl, belowA _ _⟩
end Go.Proofs.YtnldagpbmphdhaaGreatDoor.L
namespace Go.Proofs.YtnldagpbmphdhaaGreatDoor.L
open Go.RowKit
set_option linter.unusedVariables false
set_option maxHeartbeats 4000000 in
set_option maxRecDepth 100000 in
theorem index_has (v : Value) (l : List Lb) (x : Lb) (w : World) (hi : Items w v l) (hl : l.length ≤ 64) (hx : x ∈ l) : Calls Tryz.prog 141 #[v, .agg #[.string x.1, .string x.2]] w fun e w' => (∃ j : Nat, e = .returned (.int .i64 j)) ∧ Below w.heap.size w w' := by
  obtain ⟨a, c, rfl, h⟩ := hi
  obtain ⟨len, hlen⟩ : ∃ n, n = l.length := ⟨_, rfl⟩
  have HX := hid hx
  have HLEN := hid hlen
  rw [← hlen] at h hl ⊢
  clear hlen hx
  obtain ⟨xk, xv⟩ := x
  go_enter Tryz.func141, Tryz.ntmps141
  go_wp2
  go_loopw [8] (fun i wr => ∃ k : Nat, k ≤ len ∧ i = .int .i64 k ∧ Hid (Below (w.heap.size + 1) (w.alloc (.cells #[.string xk, .string xv] 35)) wr) ∧ Hid (∀ j, j < k → (ky l j, vl l j) ≠ (xk, xv))) (fun i _ => len - (intOf i).toNat)
  case atStart => exact ⟨0, Nat.zero_le _, rfl, hid (Below.refl _ _), hid (fun j hj => by omega)⟩
  case round =>
    obtain ⟨k, hk, rfl, HB, HN⟩ := hrel
    by_cases hlt : k < len
    · rcases h with h0 | ⟨b, off, rfl, hbl, hc⟩
      · omega
      obtain ⟨c0, c1⟩ := hc k hlt
      have A0 := belowA w (.cells #[.string xk, .string xv] 35)
      rw [← A0.cell (p := ⟨b, off + k * 2, none⟩) hbl, ← HB.out.cell (p := ⟨b, off + k * 2, none⟩) (Nat.lt_succ_of_lt hbl)] at c0
      rw [← A0.cell (p := ⟨b, off + k * 2 + 1, none⟩) hbl, ← HB.out.cell (p := ⟨b, off + k * 2 + 1, none⟩) (Nat.lt_succ_of_lt hbl)] at c1
      have m0 : wr.cell? ⟨w.heap.size, 0, none⟩ = some (.string xk) := (HB.out.cell (p := ⟨w.heap.size, 0, none⟩) (Nat.lt_succ_self _)).trans (by simp [go_sem])
      have m1 : wr.cell? ⟨w.heap.size, 1, none⟩ = some (.string xv) := (HB.out.cell (p := ⟨w.heap.size, 1, none⟩) (Nat.lt_succ_self _)).trans (by simp [go_sem])
      have HBW := hid (fun m => A0.trans ((below_drewN HB.out m).mono (Nat.le_succ _)))
      have g1 : (k : Int) < (len : Int) := by omega
      have g2 : (0 : Int) ≤ (k : Int) := by omega
      clear A0
      have HN2 := hid (show (ky l k, vl l k) ≠ (xk, xv) → ∀ j, j < k + 1 → (ky l j, vl l j) ≠ (xk, xv) from fun hne j hj => by
        rcases Nat.lt_succ_iff_lt_or_eq.1 hj with h | rfl
        · exact HN.out j h
        · exact hne)
      generalize ky l k = s' at *
      generalize vl l k = n at *
      clear hc
      by_cases e1 : s' = xk
      · subst e1
        by_cases e2 : n = xv
        · subst e2
          clear HN2
          go_wp2_with fail
          go_quiet (fail)
          go_wp2
          go_ret
          exact ⟨⟨k, rfl⟩, HBW.out _⟩
        · have n2 : (xv.toList == n.toList) = false := by simp; exact fun h => e2 (bytes_ext h).symm
          have HN3 := hid (HN2.out (fun e => e2 (Prod.mk.inj e).2))
          clear HN2 e2
          go_wp2_with fail
          go_quiet (fail)
          go_wp2
          exact ⟨⟨k + 1, by omega, by go_num, hid (below_drewN HB.out nq), HN3⟩, by simp [intOf]; omega⟩
      · have n2 : (xk.toList == s'.toList) = false := by simp; exact fun h => e1 (bytes_ext h).symm
        have HN3 := hid (HN2.out (fun e => e1 (Prod.mk.inj e).1))
        clear HN2 e1
        go_wp2_with fail
        go_quiet (fail)
        go_wp2
        exact ⟨⟨k + 1, by omega, by go_num, hid (below_drewN HB.out nq), HN3⟩, by simp [intOf]; omega⟩
    · obtain rfl : k = len := by omega
      exfalso
      obtain ⟨j, hj, e⟩ := List.getElem_of_mem HX.out
      rw [kv_get l j hj] at e
      exact HN.out j (by rw [HLEN.out]; exact hj) e
end Go.Proofs.YtnldagpbmphdhaaGreatDoor.L
namespace Go.Proofs.YtnldagpbmphdhaaGreatDoor.L
open Go.RowKit
set_option linter.unusedVariables false
set_option maxHeartbeats 4000000 in
set_option maxRecDepth 100000 in
theorem contains_has (v : Value) (l : List Lb) (x : Lb) (w : World) (hi : Items w v l) (hl : l.length ≤ 64) (hx : x ∈ l) : Calls Tryz.prog 131 #[v, .agg #[.string x.1, .string x.2]] w fun e w' => e = .returned (.bool true) ∧ Below w.heap.size w w' := by
  have HI := hid (fun W (hb : Below w.heap.size w W) => index_has v l x W (hi.low hb) hl hx)
  clear hi hx hl
  go_enter Tryz.func131, Tryz.ntmps131
  go_wp2_with fail
  refine (HI.out _ (belowA _ _)).mono ?_
  rintro e w1 ⟨⟨j, rfl⟩, hb0⟩
  have hb := (belowA w (.cells #[.string x.1, .string x.2] 35)).trans (hb0.mono (by simp))
  clear hb0
  have hj : (0 : Int) ≤ (j : Int) := by omega
  go_wp2_with fail
  go_ret
  exact ⟨rfl, hb⟩
set_option maxHeartbeats 4000000 in
set_option maxRecDepth 100000 in
theorem fits_any (v : Value) (l : List Lb) (d : Df) (w : World) (hi : Items w v l) (hl : l.length ≤ 64) (hk : d.k.size ≤ maxLen) (hg : getN l d.k = (d.o, d.had)) : Calls Tryz.prog 115 #[v, dv d] w fun e w' => e = .returned (.bool true) ∧ Below w.heap.size w w' := by
  obtain ⟨k, o, n, had, has⟩ := d
  simp only at hk hg
  unfold dv
  simp only
  cases had with
  | true =>
    have hm : (k, o) ∈ l := by
      have := (get_yes (l := l) (s := k) (by rw [hg])).2
      rw [hg] at this
      exact this
    have HC := hid (fun W (hb : Below w.heap.size w W) => contains_has v l (k, o) W (hi.low hb) hl hm)
    clear hi hg hm hk hl
    go_enter Tryz.func115, Tryz.ntmps115
    go_wp2_with fail
    refine (HC.out _ (belowA _ _)).mono ?_
    rintro e w1 ⟨rfl, hb0⟩
    have hb := (belowA w (.cells #[.string k, .string o, .string n, .bool true, .bool has] 51)).trans (hb0.mono (by simp))
    clear hb0
    go_wp2_with fail
    go_ret
    exact ⟨rfl, hb⟩
  | false =>
    have HC := hid (fun W (hb : Below w.heap.size w W) => has_any v l k W (hi.low hb) (by unfold maxLen; omega) hk)
    rw [hg] at HC
    clear hi hg hk hl
    go_enter Tryz.func115, Tryz.ntmps115
    go_wp2_with fail
    refine (HC.out _ (belowA _ _)).mono ?_
    rintro e w1 ⟨rfl, hb0⟩
    have hb := (belowA w (.cells #[.string k, .string o, .string n, .bool false, .bool has] 51)).trans (hb0.mono (by simp))
    clear hb0
    go_wp2_with fail
    go_ret
    exact ⟨rfl, hb⟩
end Go.Proofs.YtnldagpbmphdhaaGreatDoor.L
namespace Go.Proofs.YtnldagpbmphdhaaGreatDoor.L
open Go.RowKit
set_option linter.unusedVariables false
theorem FiveAt.low {W W' : World} {B : Nat} {x : Df} (h : FiveAt W B x) (hb : Below W.heap.size W W') (hB : B < W.heap.size) : FiveAt W' B x :=
  ⟨(hb.cell (p := ⟨B, 0, none⟩) hB).trans h.d0, (hb.cell (p := ⟨B, 1, none⟩) hB).trans h.d1, (hb.cell (p := ⟨B, 2, none⟩) hB).trans h.d2, (hb.cell (p := ⟨B, 3, none⟩) hB).trans h.d3, (hb.cell (p := ⟨B, 4, none⟩) hB).trans h.d4⟩
theorem five_new (w : World) (x : Df) (t : TypeId) : FiveAt (w.alloc (.cells #[.string x.k, .string x.o, .string x.n, .bool x.had, .bool x.has] t)) w.heap.size x := ⟨by simp [go_sem], by simp [go_sem], by simp [go_sem], by simp [go_sem], by simp [go_sem]⟩
set_option maxHeartbeats 4000000 in
set_option maxRecDepth 100000 in
theorem checkdiff_ok (v : Value) (l : List Lb) (t : ByteArray) (d : Df) (w : World) (hi : Items w v l) (hl : l.length ≤ 64) (ht : t.size ≤ maxLen) (hk : d.k.size ≤ maxLen) (ho : d.o.size ≤ maxLen) (hn : d.n.size ≤ maxLen)
    (hK : keyB d.k = true) (hO : valB d.o = true) (hN : valB d.n = true) (hr : Op.bytesLess t.toList d.k.toList = true) (hf : Fine d) (hg : getN l d.k = (d.o, d.had)) :
    Calls Tryz.prog 90 #[v, .string t, dv d] w fun e w' => e = .returned (.int .i64 0) ∧ Below w.heap.size w w' := by
  have KK := hid (fun W => key_any d.k W hk)
  rw [hK] at KK
  have OO := hid (fun W => value_any d.o W ho)
  rw [hO] at OO
  have NN := hid (fun W => value_any d.n W hn)
  rw [hN] at NN
  have RR := hid (fun W => rise_any t d.k W)
  rw [show riseE t d.k = 0 by
    obtain ⟨z1, z2, z3⟩ := less_asymm _ _ hr
    unfold riseE eqS
    rw [z3, z1]
    rfl] at RR
  have SS := hid (fun W => something_any d W hf)
  have FF := hid (fun W (hb : Below w.heap.size w W) => fits_any v l d W (hi.low hb) hl hk hg)
  obtain ⟨k, o, n, had, has⟩ := d
  simp only [dv] at KK OO NN SS FF RR ⊢
  clear hi hl ht hk ho hn hK hO hN hf hg hr
  go_enter Tryz.func90, Tryz.ntmps90
  go_wp2_with fail
  have F0 := five_new w ⟨k, o, n, had, has⟩ 51
  have b0 := belowA w (.cells #[.string k, .string o, .string n, .bool had, .bool has] 51)
  refine (KK.out _).mono ?_
  rintro e w1 ⟨rfl, hb⟩
  obtain ⟨d0, d1, d2, d3, d4⟩ := F0.low hb (by simp)
  have F1 := hid (F0.low hb (by simp))
  have B1 := hid (b0.trans (hb.mono b0.size))
  have Z1 := hid (show w.heap.size < w1.heap.size from Nat.lt_of_lt_of_le (by simp) hb.size)
  clear hb F0 b0
  simp only at d0 d1 d2 d3 d4
  go_wp2_with fail
  refine (RR.out _).mono ?_
  rintro e w1x ⟨rfl, hw⟩
  subst hw
  go_wp2_with fail
  refine (SS.out _).mono ?_
  rintro e w2 ⟨rfl, hb⟩
  clear d0 d1 d2 d3 d4
  obtain ⟨d0, d1, d2, d3, d4⟩ := F1.out.low hb Z1.out
  have B2 := hid (B1.out.trans (hb.mono B1.out.size))
  clear hb F1 B1 Z1
  simp only at d0 d1 d2 d3 d4
  go_wp2_with fail
  refine (OO.out _).mono ?_
  rintro e w2x ⟨rfl, hw⟩
  subst hw
  go_wp2_with fail
  refine (NN.out _).mono ?_
  rintro e w2y ⟨rfl, hw⟩
  subst hw
  have B3 := B2
  go_wp2_with fail
  refine (FF.out _ B3.out).mono ?_
  rintro e w3 ⟨rfl, hb⟩
  have B4 := hid (B3.out.trans (hb.mono B3.out.size))
  clear hb B3 B2
  go_wp2_with fail
  go_ret
  exact ⟨rfl, B4.out⟩
end Go.Proofs.YtnldagpbmphdhaaGreatDoor.L
