import Derived.Test.YtnldagpbmphdhaaGreatDoorRpu
import Derived.Test.YtnldagpbmphdhaaGreatDoorMgG
import Derived.Test.YtnldagpbmphdhaaGreatDoorRd2
import Derived.Test.YtnldagpbmphdhaaGreatDoorLsl
namespace Go.Proofs.YtnldagpbmphdhaaGreatDoor.L
open Go.RowKit
set_option linter.unusedVariables false
set_option maxHeartbeats 4000000 in
set_option maxRecDepth 100000 in
theorem rsame_big (v1 v2 : Value) (l : List Lb) (w : World) (i1 : Items w v1 l) (i2 : Items w v2 l) (hl : l.length ≤ 4400000000000) :
    Calls Tryz.prog 51 #[v1, v2] w fun e w' => e = .returned (.bool true) ∧ Below w.heap.size w w' := by
  obtain ⟨a1, c1, rfl, h1⟩ := i1
  obtain ⟨a2, c2, rfl, h2⟩ := i2
  generalize l.length = len at *
  go_enter Tryz.func51, Tryz.ntmps51
  go_wp2
  go_loopw [5] (fun i wr => ∃ k : Nat, k ≤ len ∧ i = .int .i64 k ∧ Hid (Below w.heap.size w wr)) (fun i _ => len - (intOf i).toNat)
  case atStart => exact ⟨0, Nat.zero_le _, rfl, hid (Below.refl _ _)⟩
  case round =>
    obtain ⟨k, hk, rfl, HB⟩ := hrel
    by_cases hlt : k < len
    · rcases h1 with h0 | ⟨b1, o1, rfl, hb1, hc1⟩
      · omega
      rcases h2 with h0 | ⟨b2, o2, rfl, hb2, hc2⟩
      · omega
      obtain ⟨p0, p1⟩ := hc1 k hlt
      obtain ⟨q0, q1⟩ := hc2 k hlt
      rw [← HB.out.cell (p := ⟨b1, o1 + k * 2, none⟩) hb1] at p0
      rw [← HB.out.cell (p := ⟨b1, o1 + k * 2 + 1, none⟩) hb1] at p1
      rw [← HB.out.cell (p := ⟨b2, o2 + k * 2, none⟩) hb2] at q0
      rw [← HB.out.cell (p := ⟨b2, o2 + k * 2 + 1, none⟩) hb2] at q1
      generalize ky l k = s1 at *
      generalize vl l k = s2 at *
      clear hc1 hc2
      have g1 : (k : Int) < (len : Int) := by omega
      have g2 : (0 : Int) ≤ (k : Int) := by omega
      go_wp2_with fail
      go_quiet (fail)
      go_wp2_with fail
      exact ⟨⟨k + 1, by omega, by go_num, hid (below_drewN HB.out nq)⟩, by simp [intOf]; omega⟩
    · obtain rfl : k = len := by omega
      go_wp2
      go_ret
      exact ⟨rfl, HB.out⟩
theorem good_big {l : List Lb} (h : Good l) : l.length ≤ 4400000000000 := by
  have := h.1.2
  omega
theorem put_pure {l : List Lb} {k s : ByteArray} (h : putA l k s = 0) : Dist (delL l k ++ [(k, s)]) ∧ (delL l k ++ [(k, s)]).length ≤ 64 := by
  unfold putA at h
  by_cases e : (checkN l).2 = 0
  · have ho := check_iff e
    exact ⟨dist_put ho.up k s, put_len ho.len k s⟩
  · rw [if_neg e] at h
    exact absurd h e
set_option maxHeartbeats 4000000 in
set_option maxRecDepth 100000 in
theorem turns_get (vL vO vD : Value) (l c : List Lb) (s ks vs : ByteArray) (n : Int) (w : World) (hL : Came w vL l) (hO : Came w vO c) (hg : Good l) (hgO : Good c) (hks : ks.size ≤ maxLen) :
    Calls Tryz.prog 29 #[.agg #[.int .i64 10, vL, vO, vD, .string s, .string ks, .string vs, .int .i64 n]] w fun e w' => e = .returned (.bool true) ∧ Below w.heap.size w w' := by
  have CP := hid (fun W (hb : Below w.heap.size w W) => copied_any vL l W (hL.low hb) hg)
  have F1 := hid (fun W v (hc : Came W v l) => get_any v l ks W hc.items hg.1.1 hks)
  have F2 := hid (fun W (hb : Below w.heap.size w W) => rget_any vL l ks W (hL.low hb).items hg.1.1)
  generalize getN l ks = r at *
  obtain ⟨r1, r2⟩ := r
  simp only at F1 F2
  obtain ⟨aL, cL, rfl⟩ := came_slice hL
  clear hL hO
  go_enter Tryz.func29, Tryz.ntmps29
  go_wp2_with fail
  have B0 := hid (show Below w.heap.size w (w.alloc (.cells #[.int .i64 10, .slice aL l.length cL, vO, vD, .string s, .string ks, .string vs, .int .i64 n] 40)) from belowA _ _)
  have Z0 := hid (show w.heap.size < (w.alloc (.cells #[.int .i64 10, .slice aL l.length cL, vO, vD, .string s, .string ks, .string vs, .int .i64 n] 40)).heap.size by simp)
  have E0 := hid (eight_all w (.int .i64 10) (.slice aL l.length cL) vO vD (.string s) (.string ks) (.string vs) (.int .i64 n) 40)
  generalize w.alloc (.cells #[.int .i64 10, .slice aL l.length cL, vO, vD, .string s, .string ks, .string vs, .int .i64 n] 40) = W0 at *
  have T0 : W0.drew.cell? ⟨w.heap.size, 1, none⟩ = some (.slice aL l.length cL) ∧ W0.drew.cell? ⟨w.heap.size, 5, none⟩ = some (.string ks) := ⟨E0.out 1 _ rfl, E0.out 5 _ rfl⟩
  go_region_held3 (fun W => W.cell? ⟨w.heap.size, 1, none⟩ = some (.slice aL l.length cL) ∧ W.cell? ⟨w.heap.size, 5, none⟩ = some (.string ks))
    (first | exact T0 | exact T1 | exact T2 | exact T3)
    (first
      | (go_at_call 47; refine (CP.out _ B0.out.drew).mono ?_; rintro e w1 ⟨v1, rfl, hc1, hb1⟩; have HC1 := hid hc1; have D1 := hid hb1; clear hb1 hc1; have T1 : w1.cell? ⟨w.heap.size, 1, none⟩ = some (.slice aL l.length cL) ∧ w1.cell? ⟨w.heap.size, 5, none⟩ = some (.string ks) := ⟨(D1.out.cell (p := ⟨w.heap.size, 1, none⟩) Z0.out).trans T0.1, (D1.out.cell (p := ⟨w.heap.size, 5, none⟩) Z0.out).trans T0.2⟩; have Z1 := hid (Nat.lt_of_lt_of_le Z0.out D1.out.size); have B1 := hid (w_bel B0.out.drew D1.out))
      | (go_at_call 32; refine (F1.out _ _ HC1.out).mono ?_; rintro e w2 ⟨rfl, hb2⟩; have D2 := hid hb2; clear hb2; have T2 : w2.cell? ⟨w.heap.size, 1, none⟩ = some (.slice aL l.length cL) ∧ w2.cell? ⟨w.heap.size, 5, none⟩ = some (.string ks) := ⟨(D2.out.cell (p := ⟨w.heap.size, 1, none⟩) Z1.out).trans T1.1, (D2.out.cell (p := ⟨w.heap.size, 5, none⟩) Z1.out).trans T1.2⟩; have Z2 := hid (Nat.lt_of_lt_of_le Z1.out D2.out.size); have B2 := hid (w_bel B1.out D2.out)))
  clear T0
  obtain ⟨t1, t2⟩ := T2
  have z2 := Z2.out
  go_wp2_with fail
  refine (F2.out _ B2.out).mono ?_
  rintro e w3 ⟨rfl, hw⟩; subst hw
  go_wp2_with fail
  go_ret
  exact ⟨ret_bool (by simp), B2.out⟩
set_option maxHeartbeats 4000000 in
set_option maxRecDepth 100000 in
theorem turns_put (vL vO vD : Value) (l c : List Lb) (s ks vs : ByteArray) (n : Int) (w : World) (hL : Came w vL l) (hO : Came w vO c) (hg : Good l) (hgO : Good c) (hks : ks.size ≤ maxLen) (hvs : vs.size ≤ maxLen) :
    Calls Tryz.prog 29 #[.agg #[.int .i64 11, vL, vO, vD, .string s, .string ks, .string vs, .int .i64 n]] w fun e w' => e = .returned (.bool true) ∧ Below w.heap.size w w' := by
  have CP := hid (fun W (hb : Below w.heap.size w W) => copied_any vL l W (hL.low hb) hg)
  have F1 := hid (fun W v (hc : Came W v l) => put_all v l ks vs W hc hg hks hvs)
  have F2 := hid (fun W (hb : Below w.heap.size w W) => rput_any vL l ks vs W (hL.low hb).items hg hks hvs)
  have HDD := hid (fun h => put_pure (l := l) (k := ks) (s := vs) h)
  generalize putA l ks vs = r at *
  obtain ⟨aL, cL, rfl⟩ := came_slice hL
  clear hL hO
  go_enter Tryz.func29, Tryz.ntmps29
  go_wp2_with fail
  have B0 := hid (show Below w.heap.size w (w.alloc (.cells #[.int .i64 11, .slice aL l.length cL, vO, vD, .string s, .string ks, .string vs, .int .i64 n] 40)) from belowA _ _)
  have Z0 := hid (show w.heap.size < (w.alloc (.cells #[.int .i64 11, .slice aL l.length cL, vO, vD, .string s, .string ks, .string vs, .int .i64 n] 40)).heap.size by simp)
  have E0 := hid (eight_all w (.int .i64 11) (.slice aL l.length cL) vO vD (.string s) (.string ks) (.string vs) (.int .i64 n) 40)
  generalize w.alloc (.cells #[.int .i64 11, .slice aL l.length cL, vO, vD, .string s, .string ks, .string vs, .int .i64 n] 40) = W0 at *
  have T0 : W0.drew.cell? ⟨w.heap.size, 1, none⟩ = some (.slice aL l.length cL) ∧ W0.drew.cell? ⟨w.heap.size, 5, none⟩ = some (.string ks) ∧ W0.drew.cell? ⟨w.heap.size, 6, none⟩ = some (.string vs) := ⟨E0.out 1 _ rfl, E0.out 5 _ rfl, E0.out 6 _ rfl⟩
  go_region_held3 (fun W => W.cell? ⟨w.heap.size, 1, none⟩ = some (.slice aL l.length cL) ∧ W.cell? ⟨w.heap.size, 5, none⟩ = some (.string ks) ∧ W.cell? ⟨w.heap.size, 6, none⟩ = some (.string vs))
    (first | exact T0 | exact T1 | exact T2 | exact T3)
    (first
      | (go_at_call 47; refine (CP.out _ B0.out.drew).mono ?_; rintro e w1 ⟨v1, rfl, hc1, hb1⟩; have HC1 := hid hc1; have D1 := hid hb1; clear hb1 hc1; have T1 : w1.cell? ⟨w.heap.size, 1, none⟩ = some (.slice aL l.length cL) ∧ w1.cell? ⟨w.heap.size, 5, none⟩ = some (.string ks) ∧ w1.cell? ⟨w.heap.size, 6, none⟩ = some (.string vs) := ⟨(D1.out.cell (p := ⟨w.heap.size, 1, none⟩) Z0.out).trans T0.1, (D1.out.cell (p := ⟨w.heap.size, 5, none⟩) Z0.out).trans T0.2.1, (D1.out.cell (p := ⟨w.heap.size, 6, none⟩) Z0.out).trans T0.2.2⟩; have Z1 := hid (Nat.lt_of_lt_of_le Z0.out D1.out.size); have B1 := hid (w_bel B0.out.drew D1.out))
      | (go_at_call 56; refine (F1.out _ _ HC1.out).mono ?_; rintro e w2 ⟨va, la, rfl, hb2, hda⟩; have D2 := hid hb2; have HA := hid hda; clear hda; clear hb2; have T2 : w2.cell? ⟨w.heap.size, 1, none⟩ = some (.slice aL l.length cL) ∧ w2.cell? ⟨w.heap.size, 5, none⟩ = some (.string ks) ∧ w2.cell? ⟨w.heap.size, 6, none⟩ = some (.string vs) := ⟨(D2.out.cell (p := ⟨w.heap.size, 1, none⟩) Z1.out).trans T1.1, (D2.out.cell (p := ⟨w.heap.size, 5, none⟩) Z1.out).trans T1.2.1, (D2.out.cell (p := ⟨w.heap.size, 6, none⟩) Z1.out).trans T1.2.2⟩; have Z2 := hid (Nat.lt_of_lt_of_le Z1.out D2.out.size); have B2 := hid (w_bel B1.out D2.out)))
  clear T0
  obtain ⟨t1, t2, t3⟩ := T2
  have z2 := Z2.out
  go_wp2_with fail
  refine (F2.out _ B2.out).mono ?_
  rintro e w3 ⟨vb, lb, rfl, hb3, hdb⟩
  have B3 := hid (w_bel B2.out hb3)
  obtain ⟨ll, hll, i1, i2⟩ := two_same hb3 HDD.out HA.out hdb
  have F3 := hid (rsame_any va vb ll w3 i1 i2 hll)
  clear hb3 hdb i1 i2
  go_wp2_with fail
  refine F3.out.mono ?_
  rintro e w4 ⟨rfl, hb4⟩
  have B4 := hid (w_bel B3.out hb4)
  clear hb4
  go_wp2_with fail
  go_ret
  exact ⟨ret_bool (by simp), B4.out⟩
set_option maxHeartbeats 4000000 in
set_option maxRecDepth 100000 in
theorem turns_del (vL vO vD : Value) (l c : List Lb) (s ks vs : ByteArray) (n : Int) (w : World) (hL : Came w vL l) (hO : Came w vO c) (hg : Good l) (hgO : Good c) (hks : ks.size ≤ maxLen) :
    Calls Tryz.prog 29 #[.agg #[.int .i64 12, vL, vO, vD, .string s, .string ks, .string vs, .int .i64 n]] w fun e w' => e = .returned (.bool true) ∧ Below w.heap.size w w' := by
  have CP := hid (fun W (hb : Below w.heap.size w W) => copied_any vL l W (hL.low hb) hg)
  have F1 := hid (fun W v (hc : Came W v l) => delf_any v l ks W hc.items hg hks)
  have F2 := hid (fun W (hb : Below w.heap.size w W) => rdel_any vL l ks W (hL.low hb).items hg)
  have HDL := hid (show (delL l ks).length ≤ 4400000000000 from Nat.le_trans (del_len l ks) (good_big hg))
  generalize decide ((delL l ks).length < l.length) = r at *
  obtain ⟨aL, cL, rfl⟩ := came_slice hL
  clear hL hO
  go_enter Tryz.func29, Tryz.ntmps29
  go_wp2_with fail
  have B0 := hid (show Below w.heap.size w (w.alloc (.cells #[.int .i64 12, .slice aL l.length cL, vO, vD, .string s, .string ks, .string vs, .int .i64 n] 40)) from belowA _ _)
  have Z0 := hid (show w.heap.size < (w.alloc (.cells #[.int .i64 12, .slice aL l.length cL, vO, vD, .string s, .string ks, .string vs, .int .i64 n] 40)).heap.size by simp)
  have E0 := hid (eight_all w (.int .i64 12) (.slice aL l.length cL) vO vD (.string s) (.string ks) (.string vs) (.int .i64 n) 40)
  generalize w.alloc (.cells #[.int .i64 12, .slice aL l.length cL, vO, vD, .string s, .string ks, .string vs, .int .i64 n] 40) = W0 at *
  have T0 : W0.drew.cell? ⟨w.heap.size, 1, none⟩ = some (.slice aL l.length cL) ∧ W0.drew.cell? ⟨w.heap.size, 5, none⟩ = some (.string ks) := ⟨E0.out 1 _ rfl, E0.out 5 _ rfl⟩
  go_region_held3 (fun W => W.cell? ⟨w.heap.size, 1, none⟩ = some (.slice aL l.length cL) ∧ W.cell? ⟨w.heap.size, 5, none⟩ = some (.string ks))
    (first | exact T0 | exact T1 | exact T2 | exact T3)
    (first
      | (go_at_call 47; refine (CP.out _ B0.out.drew).mono ?_; rintro e w1 ⟨v1, rfl, hc1, hb1⟩; have HC1 := hid hc1; have D1 := hid hb1; clear hb1 hc1; have T1 : w1.cell? ⟨w.heap.size, 1, none⟩ = some (.slice aL l.length cL) ∧ w1.cell? ⟨w.heap.size, 5, none⟩ = some (.string ks) := ⟨(D1.out.cell (p := ⟨w.heap.size, 1, none⟩) Z0.out).trans T0.1, (D1.out.cell (p := ⟨w.heap.size, 5, none⟩) Z0.out).trans T0.2⟩; have Z1 := hid (Nat.lt_of_lt_of_le Z0.out D1.out.size); have B1 := hid (w_bel B0.out.drew D1.out))
      | (go_at_call 58; refine (F1.out _ _ HC1.out).mono ?_; rintro e w2 ⟨va, rfl, hda, hb2⟩; have D2 := hid hb2; have HA := hid hda; clear hda; clear hb2; have T2 : w2.cell? ⟨w.heap.size, 1, none⟩ = some (.slice aL l.length cL) ∧ w2.cell? ⟨w.heap.size, 5, none⟩ = some (.string ks) := ⟨(D2.out.cell (p := ⟨w.heap.size, 1, none⟩) Z1.out).trans T1.1, (D2.out.cell (p := ⟨w.heap.size, 5, none⟩) Z1.out).trans T1.2⟩; have Z2 := hid (Nat.lt_of_lt_of_le Z1.out D2.out.size); have B2 := hid (w_bel B1.out D2.out)))
  clear T0
  obtain ⟨t1, t2⟩ := T2
  have z2 := Z2.out
  go_wp2_with fail
  refine (F2.out _ B2.out).mono ?_
  rintro e w3 ⟨vb, rfl, hdb, hb3⟩
  have B3 := hid (w_bel B2.out hb3)
  have F3 := hid (rsame_big va vb _ w3 ((own_items HA.out).low hb3) hdb HDL.out)
  clear hb3 hdb
  go_wp2_with fail
  refine F3.out.mono ?_
  rintro e w4 ⟨rfl, hb4⟩
  have B4 := hid (w_bel B3.out hb4)
  clear hb4
  go_wp2_with fail
  go_ret
  exact ⟨ret_bool (by simp), B4.out⟩

end Go.Proofs.YtnldagpbmphdhaaGreatDoor.L
