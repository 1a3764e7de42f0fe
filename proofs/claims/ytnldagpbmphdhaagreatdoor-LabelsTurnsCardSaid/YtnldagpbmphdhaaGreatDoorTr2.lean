import Derived.Test.YtnldagpbmphdhaaGreatDoorTr1
namespace Go.Proofs.YtnldagpbmphdhaaGreatDoor.L
open Go.RowKit
set_option linter.unusedVariables false
set_option maxHeartbeats 4000000 in
set_option maxRecDepth 100000 in
theorem samediffs_any (v1 v2 : Value) (L : List Df) (w : World) (i1 : ItemsD w v1 L) (i2 : ItemsD w v2 L) (hl : L.length ≤ 64) :
    Calls Tryz.prog 62 #[v1, v2] w fun e w' => e = .returned (.bool true) ∧ Below w.heap.size w w' := by
  obtain ⟨a1, c1, rfl, h1⟩ := i1
  obtain ⟨a2, c2, rfl, h2⟩ := i2
  have H1 := hid h1
  have H2 := hid h2
  obtain ⟨len, hlen⟩ : ∃ n, n = L.length := ⟨_, rfl⟩
  have HLEN := hid hlen
  rw [← hlen] at hl ⊢
  clear hlen h1 h2
  go_enter Tryz.func62, Tryz.ntmps62
  go_wp2
  go_loopw [5] (fun i wr => ∃ k : Nat, k ≤ len ∧ i = .int .i64 k ∧ Hid (Below w.heap.size w wr)) (fun i _ => len - (intOf i).toNat)
  case atStart => exact ⟨0, Nat.zero_le _, rfl, hid (Below.refl _ _)⟩
  case round =>
    obtain ⟨k, hk, rfl, HB⟩ := hrel
    by_cases hlt : k < len
    · rcases H1.out with h0 | ⟨b1, o1, rfl, hb1, hc1⟩
      · have := HLEN.out
        omega
      rcases H2.out with h0 | ⟨b2, o2, rfl, hb2, hc2⟩
      · have := HLEN.out
        omega
      have hkl : k < L.length := by rw [← HLEN.out]; exact hlt
      obtain ⟨p0, p1, p2, p3, p4⟩ := hc1 k hkl
      obtain ⟨q0, q1, q2, q3, q4⟩ := hc2 k hkl
      rw [← HB.out.cell (p := ⟨b1, o1 + k * 5, none⟩) hb1] at p0
      rw [← HB.out.cell (p := ⟨b1, o1 + k * 5 + 1, none⟩) hb1] at p1
      rw [← HB.out.cell (p := ⟨b1, o1 + k * 5 + 2, none⟩) hb1] at p2
      rw [← HB.out.cell (p := ⟨b1, o1 + k * 5 + 3, none⟩) hb1] at p3
      rw [← HB.out.cell (p := ⟨b1, o1 + k * 5 + 4, none⟩) hb1] at p4
      rw [← HB.out.cell (p := ⟨b2, o2 + k * 5, none⟩) hb2] at q0
      rw [← HB.out.cell (p := ⟨b2, o2 + k * 5 + 1, none⟩) hb2] at q1
      rw [← HB.out.cell (p := ⟨b2, o2 + k * 5 + 2, none⟩) hb2] at q2
      rw [← HB.out.cell (p := ⟨b2, o2 + k * 5 + 3, none⟩) hb2] at q3
      rw [← HB.out.cell (p := ⟨b2, o2 + k * 5 + 4, none⟩) hb2] at q4
      generalize L[k] = d at *
      obtain ⟨dk, dO, dn, dh, ds⟩ := d
      simp only at p0 p1 p2 p3 p4 q0 q1 q2 q3 q4
      clear hc1 hc2
      have g1 : (k : Int) < (len : Int) := by omega
      have g2 : (0 : Int) ≤ (k : Int) := by omega
      go_wp2_with fail
      go_quiet (fail)
      go_wp2_with fail
      exact ⟨⟨k + 1, by omega, by go_num, hid (below_drewN HB.out nq)⟩, by simp [intOf]; omega⟩
    · obtain rfl : k = len := by omega
      go_wp2
      go_ret
      exact ⟨rfl, HB.out⟩
theorem rdiff_all (v1 v2 : Value) (a b : List Lb) (w : World) (h1 : Items w v1 a) (h2 : Items w v2 b) (g1 : Good a) (g2 : Good b) :
    Calls Tryz.prog 61 #[v1, v2] w fun e w' => ∃ v', e = .returned v' ∧ ItemsD w' v' (dfA a b) ∧ Below w.heap.size w w' := by
  unfold dfA
  by_cases h : (checkN a).2 = 0 ∧ (checkN b).2 = 0
  · rw [if_pos h]
    exact rdiff_ok v1 v2 a b w h1 h2 g1 g2 (check_iff h.1) (check_iff h.2)
  · rw [if_neg h]
    refine (rdiff_no v1 v2 a b w h1 h2 g1 g2 h).mono ?_
    rintro e w' ⟨rfl, hb⟩
    exact ⟨_, rfl, ⟨none, 0, rfl, Or.inl rfl⟩, hb⟩
theorem itemsD_low {W W' : World} {v : Value} {L : List Df} (h : ItemsD W v L) (hb : Below W.heap.size W W') : ItemsD W' v L := by
  obtain ⟨a, cap, rfl, h⟩ := h
  refine ⟨a, cap, rfl, ?_⟩
  rcases h with h | ⟨b, off, rfl, hl, hc⟩
  · exact Or.inl h
  · refine Or.inr ⟨b, off, rfl, Nat.lt_of_lt_of_le hl hb.size, fun j hj => ?_⟩
    obtain ⟨d0, d1, d2, d3, d4⟩ := hc j hj
    exact ⟨(hb.cell (p := ⟨b, off + j * 5, none⟩) hl).trans d0, (hb.cell (p := ⟨b, off + j * 5 + 1, none⟩) hl).trans d1, (hb.cell (p := ⟨b, off + j * 5 + 2, none⟩) hl).trans d2, (hb.cell (p := ⟨b, off + j * 5 + 3, none⟩) hl).trans d3, (hb.cell (p := ⟨b, off + j * 5 + 4, none⟩) hl).trans d4⟩
set_option maxHeartbeats 4000000 in
set_option maxRecDepth 100000 in
theorem turns_diff (vL vO vD : Value) (l c : List Lb) (s ks vs : ByteArray) (n : Int) (w : World) (hL : Came w vL l) (hO : Came w vO c) (hg : Good l) (hgO : Good c) :
    Calls Tryz.prog 29 #[.agg #[.int .i64 13, vL, vO, vD, .string s, .string ks, .string vs, .int .i64 n]] w fun e w' => e = .returned (.bool true) ∧ Below w.heap.size w w' := by
  have CP := hid (fun W (hb : Below w.heap.size w W) => copied_any vL l W (hL.low hb) hg)
  have CQ := hid (fun W (hb : Below w.heap.size w W) => copied_any vO c W (hO.low hb) hgO)
  have F1 := hid (fun W v1 v2 (h1 : Came W v1 l) (h2 : Came W v2 c) => walk_all v1 v2 l c W h1 h2 hg hgO)
  have F2 := hid (fun W (hb : Below w.heap.size w W) => rdiff_all vL vO l c W (hL.low hb).items (hO.low hb).items hg hgO)
  have HDL := hid (dfA_len l c)
  generalize dfA l c = D at *
  obtain ⟨aL, cL, rfl⟩ := came_slice hL
  obtain ⟨aO, cO, rfl⟩ := came_slice hO
  clear hL hO
  go_enter Tryz.func29, Tryz.ntmps29
  go_wp2_with fail
  have B0 := hid (show Below w.heap.size w (w.alloc (.cells #[.int .i64 13, .slice aL l.length cL, .slice aO c.length cO, vD, .string s, .string ks, .string vs, .int .i64 n] 40)) from belowA _ _)
  have Z0 := hid (show w.heap.size < (w.alloc (.cells #[.int .i64 13, .slice aL l.length cL, .slice aO c.length cO, vD, .string s, .string ks, .string vs, .int .i64 n] 40)).heap.size by simp)
  have E0 := hid (eight_all w (.int .i64 13) (.slice aL l.length cL) (.slice aO c.length cO) vD (.string s) (.string ks) (.string vs) (.int .i64 n) 40)
  generalize w.alloc (.cells #[.int .i64 13, .slice aL l.length cL, .slice aO c.length cO, vD, .string s, .string ks, .string vs, .int .i64 n] 40) = W0 at *
  have T0 : W0.drew.cell? ⟨w.heap.size, 1, none⟩ = some (.slice aL l.length cL) ∧ W0.drew.cell? ⟨w.heap.size, 2, none⟩ = some (.slice aO c.length cO) := ⟨E0.out 1 _ rfl, E0.out 2 _ rfl⟩
  go_region_held3 (fun W => W.cell? ⟨w.heap.size, 1, none⟩ = some (.slice aL l.length cL) ∧ W.cell? ⟨w.heap.size, 2, none⟩ = some (.slice aO c.length cO))
    (first | exact T0 | exact T1 | exact T2 | exact T3)
    (first
      | (go_at_call 60; refine (F1.out _ _ _ HC1b.out HC2.out).mono ?_; rintro e w3 ⟨va, rfl, ho3, hb3⟩; have D3 := hid hb3; have HA := hid ho3; clear hb3 ho3; have T3 : w3.cell? ⟨w.heap.size, 1, none⟩ = some (.slice aL l.length cL) ∧ w3.cell? ⟨w.heap.size, 2, none⟩ = some (.slice aO c.length cO) := ⟨(D3.out.cell (p := ⟨w.heap.size, 1, none⟩) Z2.out).trans T2.1, (D3.out.cell (p := ⟨w.heap.size, 2, none⟩) Z2.out).trans T2.2⟩; have Z3 := hid (Nat.lt_of_lt_of_le Z2.out D3.out.size); have B3 := hid (w_bel B2.out D3.out))
      | (go_at_call 47; refine (CQ.out _ B1.out).mono ?_; rintro e w2 ⟨v2, rfl, hc2, hb2⟩; have HC2 := hid hc2; have D2 := hid hb2; clear hb2 hc2; have HC1b := hid (HC1.out.low D2.out); have T2 : w2.cell? ⟨w.heap.size, 1, none⟩ = some (.slice aL l.length cL) ∧ w2.cell? ⟨w.heap.size, 2, none⟩ = some (.slice aO c.length cO) := ⟨(D2.out.cell (p := ⟨w.heap.size, 1, none⟩) Z1.out).trans T1.1, (D2.out.cell (p := ⟨w.heap.size, 2, none⟩) Z1.out).trans T1.2⟩; have Z2 := hid (Nat.lt_of_lt_of_le Z1.out D2.out.size); have B2 := hid (w_bel B1.out D2.out))
      | (go_at_call 47; refine (CP.out _ B0.out.drew).mono ?_; rintro e w1 ⟨v1, rfl, hc1, hb1⟩; have HC1 := hid hc1; have D1 := hid hb1; clear hb1 hc1; have T1 : w1.cell? ⟨w.heap.size, 1, none⟩ = some (.slice aL l.length cL) ∧ w1.cell? ⟨w.heap.size, 2, none⟩ = some (.slice aO c.length cO) := ⟨(D1.out.cell (p := ⟨w.heap.size, 1, none⟩) Z0.out).trans T0.1, (D1.out.cell (p := ⟨w.heap.size, 2, none⟩) Z0.out).trans T0.2⟩; have Z1 := hid (Nat.lt_of_lt_of_le Z0.out D1.out.size); have B1 := hid (w_bel B0.out.drew D1.out)))
  clear T0 T1 T2
  obtain ⟨t1, t2⟩ := T3
  have z3 := Z3.out
  go_wp2_with fail
  refine (F2.out _ B3.out).mono ?_
  rintro e w4 ⟨vb, rfl, hdb, hb4⟩
  have B4 := hid (w_bel B3.out hb4)
  have F3 := hid (samediffs_any va vb D w4 (itemsD_low (own_itemsD HA.out) hb4) hdb HDL.out)
  clear hb4 hdb
  go_wp2_with fail
  refine F3.out.mono ?_
  rintro e w5 ⟨rfl, hb5⟩
  have B5 := hid (w_bel B4.out hb5)
  clear hb5
  go_wp2_with fail
  go_ret
  exact ⟨rfl, B5.out⟩
end Go.Proofs.YtnldagpbmphdhaaGreatDoor.L
