import Derived.Test.YtnldagpbmphdhaaGreatDoorRin
namespace Go.Proofs.YtnldagpbmphdhaaGreatDoor.L
open Go.RowKit
set_option linter.unusedVariables false
def bv (b : UInt8) : Value := .int .u8 (b.toNat : Int)
/-- A row of bytes that lies in the world. -/
def BytAt (W : World) (v : Value) (bs : List UInt8) : Prop := ∃ b cap, v = .slice (some ⟨b, 0, none⟩) bs.length cap ∧ b < W.heap.size ∧ ∀ k (hk : k < bs.length), W.cell? ⟨b, k, none⟩ = some (bv bs[k])
theorem bytAt_own {W : World} {base : Nat} {v : Value} {bs : List UInt8} (h : W.ownsRow base 5 1 v bs.length (bs.map bv)) (hp : bs ≠ []) : BytAt W v bs := by
  obtain ⟨h1, h2⟩ := h
  rcases h2 with ⟨rfl, hz⟩ | ⟨g, cap, cur, rfl, hb, hh, hle, hm, hs, ht⟩
  · exact absurd (List.length_eq_zero_iff.1 hz) hp
  · have hlt : g < W.heap.size := by
      apply Classical.byContradiction
      intro n
      rw [Array.getElem?_eq_none (by omega)] at hh
      cases hh
    refine ⟨g, cap, rfl, hlt, fun k hk => ?_⟩
    have hu : (bs.map bv)[k]? = some (bv bs[k]) := by simp [hk]
    rw [← ht, List.getElem?_take, if_pos (by omega)] at hu
    simp [World.cell?, hh]
    simpa using hu
theorem bytAt_len {W : World} {base N : Nat} {v : Value} {bs : List UInt8} (h : W.ownsRow base 5 1 v bs.length (bs.map bv)) (hp : bs ≠ []) (hN : N = bs.length) : ∃ b cap, v = .slice (some ⟨b, 0, none⟩) N cap ∧ b < W.heap.size ∧ ∀ k (hk : k < bs.length), W.cell? ⟨b, k, none⟩ = some (bv bs[k]) := by
  subst hN
  exact bytAt_own h hp
theorem info5 : (Tryz.prog.info? 5).map (fun i => (i.zero, i.size, i.bytes)) = some (some (.int .u8 0), 1, 1) := by kernel_rfl
theorem info5_parts : ∃ i, Tryz.prog.info? 5 = some i ∧ i.zero = some (.int .u8 0) ∧ i.size = 1 ∧ i.bytes = 1 := by
  have h := info5
  cases e : Tryz.prog.info? 5 with
  | none => rw [e] at h; cases h
  | some i =>
    rw [e] at h
    simp at h
    exact ⟨i, rfl, h⟩
/-- The state of the writing: what is left, and the digits written, the lowest first. -/
def digSt (u m : Nat) (bs : List UInt8) : Prop := Lib.decDigits u = (if m = 0 then [] else Lib.decDigits m) ++ bs.reverse
theorem digSt_room {u m : Nat} {bs : List UInt8} (h : digSt u m bs) (hu : u ≤ 999999999999999) : bs.length ≤ 15 := by
  have := congrArg List.length h
  rw [List.length_append, List.length_reverse] at this
  have b : (Lib.decDigits u).length ≤ 15 := dec_len 14 u (by show u < 1000000000000000; omega)
  omega
theorem digSt_step {u m : Nat} {bs : List UInt8} (h : digSt u m bs) (hm : 0 < m) : digSt u (m / 10) (bs ++ [UInt8.ofNat (48 + m % 10)]) := by
  unfold digSt at h ⊢
  rw [if_neg (by omega)] at h
  rw [h, List.reverse_append]
  by_cases h10 : m < 10
  · rw [if_pos (by omega), dec_small h10, show m % 10 = m by omega]
    rfl
  · rw [if_neg (by omega), dec_big h10]
    simp
theorem digSt_end {u : Nat} {bs : List UInt8} (h : digSt u 0 bs) : Lib.decDigits u = bs.reverse := by
  unfold digSt at h
  rw [if_pos rfl] at h
  exact h
theorem rinttext_out (n : Int) (h0 : -9223372036854775808 ≤ n) (h1 : n ≤ 9223372036854775807) (w : World) (h : ¬ (-999999999999999 ≤ n ∧ n ≤ 999999999999999)) : Calls Tryz.prog 46 #[.int .i64 n] w fun e w' => e = .returned (.tuple #[.string ByteArray.empty, .bool false]) ∧ w' = w := by
  by_cases a : n < -999999999999999
  · go_enter Tryz.func46, Tryz.ntmps46
    go_wp2
    go_ret2
    exact ⟨rfl, rfl⟩
  · have b : (999999999999999 : Int) < n := by omega
    go_enter Tryz.func46, Tryz.ntmps46
    go_wp2
    go_ret2
    exact ⟨rfl, rfl⟩
theorem tx_zero : tx 0 = ⟨#[48]⟩ := by
  unfold tx
  rw [show (0 : Int) = ((0 : Nat) : Int) from rfl, Lib.itoa_nonneg, dec_small (by decide)]
  rfl
theorem rinttext_zero (w : World) : Calls Tryz.prog 46 #[.int .i64 0] w fun e w' => e = .returned (.tuple #[.string (tx 0), .bool true]) ∧ Below w.heap.size w w' := by
  rw [tx_zero]
  go_enter Tryz.func46, Tryz.ntmps46
  go_wp2
  go_ret2
  exact ⟨rfl, Below.refl _ _⟩
set_option maxHeartbeats 8000000 in
set_option maxRecDepth 100000 in
theorem rinttext_pos (u : Nat) (hu0 : 0 < u) (hu : u ≤ 999999999999999) (w : World) : Calls Tryz.prog 46 #[.int .i64 (u : Int)] w fun e w' => e = .returned (.tuple #[.string (tx (u : Int)), .bool true]) ∧ Below w.heap.size w w' := by
  obtain ⟨i0, hi0, hz0, hz1, hz2⟩ := info5_parts
  have H0 := hid (show digSt u u [] from by unfold digSt; rw [if_neg (by omega)]; simp)
  have HX := hid (Lib.itoa_nonneg u)
  obtain ⟨t, ht⟩ : ∃ t, t = tx (u : Int) := ⟨_, rfl⟩
  have HT := hid ht
  rw [← ht]
  clear ht
  have a1 : ¬ (u : Int) < -999999999999999 := by omega
  have a2 : ¬ (999999999999999 : Int) < (u : Int) := by omega
  have a3 : ¬ (u : Int) < 0 := by omega
  have a4 : ((u : Int) == 0) = false := by simp; omega
  go_enter Tryz.func46, Tryz.ntmps46
  go_wp2
  go_loopw [4, 5] (fun m b wr => ∃ (mv : Nat) (bs : List UInt8), m = .int .i64 mv ∧ mv ≤ u ∧ Hid (Below w.heap.size w wr) ∧ Hid (digSt u mv bs) ∧ Hid (wr.ownsRow w.heap.size 5 1 b bs.length (bs.map bv))) (fun m _ _ => (intOf m).toNat)
  case atStart => exact ⟨u, [], rfl, Nat.le_refl _, hid (Below.refl _ _), H0, hid (World.ownsRow_nil _ _ _ _)⟩
  case round =>
    obtain ⟨mv, bs, rfl, hmu, HB, HDG, OW⟩ := hrel
    have hws : w.heap.size ≤ wr.heap.size := HB.out.size
    have hroom : bs.length ≤ 15 := digSt_room HDG.out hu
    by_cases hm0 : 0 < mv
    · have HD2 := hid (digSt_step HDG.out hm0)
      have HBY := hid (show bv (UInt8.ofNat (48 + mv % 10)) = .int .u8 (48 + (mv : Int) % 10) from by unfold bv; rw [digit_nat (by omega)]; congr 1)
      clear HT HX H0
      go_wp2_with (first
        | (at_builtin; refine wpList_append_own _ rfl _ _ 101 rfl w.heap.size 5 i0 (.int .u8 0) 1 1 Tryz.underlying101 hi0 hz0 hz1 hz2 rfl (by decide) _ _ _ rfl (World.ownsRow.alloc OW.out _) ⟨wr.heap.size, 0, none⟩ 1 1 [.int .u8 (48 + (mv : Int) % 10)] rfl rfl (cell_str_at _ _ _ _ rfl) (fun x hx => by simp at hx; subst hx; rfl) (by unfold maxLen at *; omega) (by omega) (by simp; omega) ?_; intro v' w3 hown' hgrow3 hnil3)
        | go_in)
      clear hnil3

      have B3 : Below w.heap.size w w3 := (HB.out.alloc HB.out.size _).grown hgrow3 (by simp; omega) (fun j hj => (OW.out.lt j hj).1)
      exact ⟨⟨mv / 10, bs ++ [UInt8.ofNat (48 + mv % 10)], by go_num, by omega, hid B3, HD2, hid (by rw [List.map_append, List.map_cons, HBY.out, List.length_append]; exact hown')⟩, by simp [intOf]; omega⟩
    · obtain rfl : mv = 0 := by omega
      rw [show ((0 : Nat) : Int) = 0 from rfl]
      have HE := hid (digSt_end HDG.out)
      have HBS := hid (show bs ≠ [] from fun e => dec_ne u (by rw [HE.out, e]; rfl))
      clear HDG H0
      generalize bs = cs at *
      have OWb := OW
      have HNE := HBS
      have HCS := hid HE.out.symm
      have HB1 := HB
      clear HB OW HE HBS hws
      generalize hW1 : wr = W1 at *
      clear hW1
      obtain ⟨N, hN⟩ : ∃ N, N = cs.length := ⟨_, rfl⟩
      obtain ⟨g, cap, rfl, hgl, hcell⟩ := bytAt_len OWb.out HNE.out hN
      have HCELL := hid hcell
      have HLN := hid hN
      rw [← hN] at hroom
      have hN1 : 1 ≤ N := by rw [hN]; exact List.length_pos_iff.2 HNE.out
      clear hN hcell OWb
      go_wp2_with fail
      go_loopw [6, 7] (fun r i w5 => ∃ k : Nat, k ≤ N ∧ i = .int .i64 ((k : Int) - 1) ∧ Hid (Below W1.heap.size W1 w5) ∧ Hid (w5.ownsRow W1.heap.size 5 1 r (N - k) ((cs.drop k).reverse.map bv))) (fun _ i _ => (intOf i + 1).toNat)
      case atStart => exact ⟨N, Nat.le_refl _, by first | rfl | go_num, hid (Below.refl _ _), hid (by rw [HLN.out, Nat.sub_self, List.drop_length]; exact World.ownsRow_nil _ _ _ _)⟩
      case round =>
        obtain ⟨k, hk, rfl, HB5, OW5⟩ := hrel
        have hws5 : W1.heap.size ≤ wr.heap.size := HB5.out.size
        by_cases hk0 : 0 < k
        · obtain ⟨j, rfl⟩ : ∃ j, k = j + 1 := ⟨k - 1, by omega⟩
          have hjl : j < cs.length := by rw [← HLN.out]; omega
          have c0 : wr.cell? ⟨g, j, none⟩ = some (.int .u8 (cs[j].toNat : Int)) := (HB5.out.cell (p := ⟨g, j, none⟩) hgl).trans (HCELL.out j hjl)
          have HD := hid (show cs.drop j = cs[j] :: cs.drop (j + 1) from List.drop_eq_getElem_cons hjl)
          have hgl5 : g < wr.heap.size := Nat.lt_of_lt_of_le hgl hws5
          generalize cs[j] = y at *
          have b1 : ((j + 1 : Nat) : Int) - 1 = (j : Int) := by omega
          rw [b1]
          go_wp2_with (first
            | (at_builtin; refine wpList_append_own _ rfl _ _ 101 rfl W1.heap.size 5 i0 (.int .u8 0) 1 1 Tryz.underlying101 hi0 hz0 hz1 hz2 rfl (by decide) _ _ _ rfl (World.ownsRow.alloc OW5.out _) ⟨wr.heap.size, 0, none⟩ 1 1 [.int .u8 (y.toNat : Int)] rfl rfl (cell_str_at _ _ _ _ rfl) (fun x hx => by simp at hx; subst hx; rfl) (by unfold maxLen at *; omega) (by omega) (by simp; omega) ?_; intro v' w3 hown' hgrow3 hnil3)
            | go_in)
          clear hnil3

          have B3 : Below W1.heap.size W1 w3 := (HB5.out.alloc HB5.out.size _).grown hgrow3 (by simp; omega) (fun j hj => (OW5.out.lt j hj).1)
          exact ⟨⟨j, by omega, by go_num, hid B3, hid (by rw [HD.out, List.reverse_cons, List.map_append, show N - j = N - (j + 1) + 1 by omega]; exact hown')⟩, by first | (simp [intOf]; done) | (simp [intOf]; omega)⟩
        · obtain rfl : k = 0 := by omega
          have o5 := OW5.out
          rw [List.drop_zero, show N - 0 = cs.reverse.length by rw [List.length_reverse, Nat.sub_zero]; exact HLN.out] at o5
          have HNR := hid (show N = cs.reverse.length by rw [List.length_reverse]; exact HLN.out)
          obtain ⟨g2, cap2, rfl, hgl2, hcell2⟩ := bytAt_len (N := N) o5 (by simpa using HNE.out) HNR.out
          have hcv := run_convert_bytes_back (P := Tryz.prog) wr 101 9 5 ⟨g2, 0, none⟩ cap2 cs.reverse Tryz.underlying101 Tryz.underlying5 Tryz.underlying9 (fun j hj => by rw [Go.WideShapes.add_plain, Nat.zero_add]; exact hcell2 j hj)
          have HZ := hid (show (⟨cs.reverse.toArray⟩ : ByteArray) = t from by rw [HT.out]; unfold tx; rw [HX.out, HCS.out])
          rw [HZ.out, ← HNR.out] at hcv
          clear hcell2 o5 OW5
          go_wp2_with fail
          go_ret2
          exact ⟨rfl, HB1.out.trans (HB5.out.mono HB1.out.size)⟩
set_option maxHeartbeats 8000000 in
set_option maxRecDepth 100000 in
theorem rinttext_neg (u : Nat) (hu0 : 0 < u) (hu : u ≤ 999999999999999) (w : World) : Calls Tryz.prog 46 #[.int .i64 (-(u : Int))] w fun e w' => e = .returned (.tuple #[.string (tx (-(u : Int))), .bool true]) ∧ Below w.heap.size w w' := by
  obtain ⟨i0, hi0, hz0, hz1, hz2⟩ := info5_parts
  have H0 := hid (show digSt u u [] from by unfold digSt; rw [if_neg (by omega)]; simp)
  have HX := hid (Lib.itoa_neg u (by omega))
  obtain ⟨t, ht⟩ : ∃ t, t = tx (-(u : Int)) := ⟨_, rfl⟩
  have HT := hid ht
  rw [← ht]
  clear ht
  obtain ⟨n, hn⟩ : ∃ n : Int, n = -(u : Int) := ⟨_, rfl⟩
  rw [← hn]
  have a1 : ¬ n < -999999999999999 := by omega
  have a2 : ¬ (999999999999999 : Int) < n := by omega
  have a3 : n < 0 := by omega
  have a4 : (n == 0) = false := by simp; omega
  have a5 : -n = (u : Int) := by omega
  go_enter Tryz.func46, Tryz.ntmps46
  go_wp2
  go_loopw [4, 5] (fun m b wr => ∃ (mv : Nat) (bs : List UInt8), m = .int .i64 mv ∧ mv ≤ u ∧ Hid (Below w.heap.size w wr) ∧ Hid (digSt u mv bs) ∧ Hid (wr.ownsRow w.heap.size 5 1 b bs.length (bs.map bv))) (fun m _ _ => (intOf m).toNat)
  case atStart => exact ⟨u, [], by rw [← a5], Nat.le_refl _, hid (Below.refl _ _), H0, hid (World.ownsRow_nil _ _ _ _)⟩
  case round =>
    obtain ⟨mv, bs, rfl, hmu, HB, HDG, OW⟩ := hrel
    have hws : w.heap.size ≤ wr.heap.size := HB.out.size
    have hroom : bs.length ≤ 15 := digSt_room HDG.out hu
    by_cases hm0 : 0 < mv
    · have HD2 := hid (digSt_step HDG.out hm0)
      have HBY := hid (show bv (UInt8.ofNat (48 + mv % 10)) = .int .u8 (48 + (mv : Int) % 10) from by unfold bv; rw [digit_nat (by omega)]; congr 1)
      clear HT HX H0
      go_wp2_with (first
        | (at_builtin; refine wpList_append_own _ rfl _ _ 101 rfl w.heap.size 5 i0 (.int .u8 0) 1 1 Tryz.underlying101 hi0 hz0 hz1 hz2 rfl (by decide) _ _ _ rfl (World.ownsRow.alloc OW.out _) ⟨wr.heap.size, 0, none⟩ 1 1 [.int .u8 (48 + (mv : Int) % 10)] rfl rfl (cell_str_at _ _ _ _ rfl) (fun x hx => by simp at hx; subst hx; rfl) (by unfold maxLen at *; omega) (by omega) (by simp; omega) ?_; intro v' w3 hown' hgrow3 hnil3)
        | go_in)
      clear hnil3

      have B3 : Below w.heap.size w w3 := (HB.out.alloc HB.out.size _).grown hgrow3 (by simp; omega) (fun j hj => (OW.out.lt j hj).1)
      exact ⟨⟨mv / 10, bs ++ [UInt8.ofNat (48 + mv % 10)], by go_num, by omega, hid B3, HD2, hid (by rw [List.map_append, List.map_cons, HBY.out, List.length_append]; exact hown')⟩, by simp [intOf]; omega⟩
    · obtain rfl : mv = 0 := by omega
      rw [show ((0 : Nat) : Int) = 0 from rfl]
      have HE := hid (digSt_end HDG.out)
      have HBS := hid (show bs ≠ [] from fun e => dec_ne u (by rw [HE.out, e]; rfl))
      clear HDG H0
      obtain ⟨cs, hcs⟩ : ∃ cs, cs = bs ++ [(45 : UInt8)] := ⟨_, rfl⟩
      obtain ⟨N, hN⟩ : ∃ N, N = cs.length := ⟨_, rfl⟩
      have HNE := hid (show cs ≠ [] from by rw [hcs]; simp)
      have HCS := hid (show cs.reverse = 45 :: Lib.decDigits u from by rw [hcs, List.reverse_append, HE.out]; rfl)
      have hN2 : N = bs.length + 1 := by rw [hN, hcs, List.length_append]; rfl
      have HC0 := hid hcs
      have HLN := hid hN
      have HN2 := hid hN2
      have hN1 : 1 ≤ N := by omega
      have hroom' : N ≤ 16 := by omega
      clear hcs HE HBS hN hN2
      go_wp2_with (first
        | (at_builtin; refine wpList_append_own _ rfl _ _ 101 rfl w.heap.size 5 i0 (.int .u8 0) 1 1 Tryz.underlying101 hi0 hz0 hz1 hz2 rfl (by decide) _ _ _ rfl (World.ownsRow.alloc OW.out _) ⟨wr.heap.size, 0, none⟩ 1 1 [.int .u8 45] rfl rfl (cell_str_at _ _ _ _ rfl) (fun x hx => by simp at hx; subst hx; rfl) (by unfold maxLen at *; omega) (by omega) (by simp; omega) ?_; intro v' w3 hown' hgrow3 hnil3; obtain ⟨g, cap, hv', hgl, hcell⟩ := bytAt_len (bs := cs) (N := N) (by rw [HC0.out, List.map_append, List.length_append]; exact hown') HNE.out HLN.out; have HCELL := hid hcell; have HGR := hid hgrow3; have HLT := hid (fun j hj => (OW.out.lt j hj).1); clear hnil3 hown' hgrow3 hcell; subst hv')
        | go_in)

      have HB1 := hid (show Below w.heap.size w w3 from (HB.out.alloc HB.out.size _).grown HGR.out (by simp; omega) HLT.out)
      clear HGR HLT HB OW hws HN2 HC0
      generalize hW1 : w3 = W1 at *
      clear hW1
      go_loopw [6, 7] (fun r i w5 => ∃ k : Nat, k ≤ N ∧ i = .int .i64 ((k : Int) - 1) ∧ Hid (Below W1.heap.size W1 w5) ∧ Hid (w5.ownsRow W1.heap.size 5 1 r (N - k) ((cs.drop k).reverse.map bv))) (fun _ i _ => (intOf i + 1).toNat)
      case atStart => exact ⟨N, Nat.le_refl _, by first | rfl | go_num, hid (Below.refl _ _), hid (by rw [HLN.out, Nat.sub_self, List.drop_length]; exact World.ownsRow_nil _ _ _ _)⟩
      case round =>
        obtain ⟨k, hk, rfl, HB5, OW5⟩ := hrel
        have hws5 : W1.heap.size ≤ wr.heap.size := HB5.out.size
        by_cases hk0 : 0 < k
        · obtain ⟨j, rfl⟩ : ∃ j, k = j + 1 := ⟨k - 1, by omega⟩
          have hjl : j < cs.length := by rw [← HLN.out]; omega
          have c0 : wr.cell? ⟨g, j, none⟩ = some (.int .u8 (cs[j].toNat : Int)) := (HB5.out.cell (p := ⟨g, j, none⟩) hgl).trans (HCELL.out j hjl)
          have HD := hid (show cs.drop j = cs[j] :: cs.drop (j + 1) from List.drop_eq_getElem_cons hjl)
          have hgl5 : g < wr.heap.size := Nat.lt_of_lt_of_le hgl hws5
          generalize cs[j] = y at *
          have b1 : ((j + 1 : Nat) : Int) - 1 = (j : Int) := by omega
          rw [b1]
          go_wp2_with (first
            | (at_builtin; refine wpList_append_own _ rfl _ _ 101 rfl W1.heap.size 5 i0 (.int .u8 0) 1 1 Tryz.underlying101 hi0 hz0 hz1 hz2 rfl (by decide) _ _ _ rfl (World.ownsRow.alloc OW5.out _) ⟨wr.heap.size, 0, none⟩ 1 1 [.int .u8 (y.toNat : Int)] rfl rfl (cell_str_at _ _ _ _ rfl) (fun x hx => by simp at hx; subst hx; rfl) (by unfold maxLen at *; omega) (by omega) (by simp; omega) ?_; intro v' w3 hown' hgrow3 hnil3)
            | go_in)
          clear hnil3

          have B3 : Below W1.heap.size W1 w3 := (HB5.out.alloc HB5.out.size _).grown hgrow3 (by simp; omega) (fun j hj => (OW5.out.lt j hj).1)
          exact ⟨⟨j, by omega, by go_num, hid B3, hid (by rw [HD.out, List.reverse_cons, List.map_append, show N - j = N - (j + 1) + 1 by omega]; exact hown')⟩, by first | (simp [intOf]; done) | (simp [intOf]; omega)⟩
        · obtain rfl : k = 0 := by omega
          have o5 := OW5.out
          rw [List.drop_zero, show N - 0 = cs.reverse.length by rw [List.length_reverse, Nat.sub_zero]; exact HLN.out] at o5
          have HNR := hid (show N = cs.reverse.length by rw [List.length_reverse]; exact HLN.out)
          obtain ⟨g2, cap2, rfl, hgl2, hcell2⟩ := bytAt_len (N := N) o5 (by simpa using HNE.out) HNR.out
          have hcv := run_convert_bytes_back (P := Tryz.prog) wr 101 9 5 ⟨g2, 0, none⟩ cap2 cs.reverse Tryz.underlying101 Tryz.underlying5 Tryz.underlying9 (fun j hj => by rw [Go.WideShapes.add_plain, Nat.zero_add]; exact hcell2 j hj)
          have HZ := hid (show (⟨cs.reverse.toArray⟩ : ByteArray) = t from by rw [HT.out]; unfold tx; rw [HX.out, HCS.out])
          rw [HZ.out, ← HNR.out] at hcv
          clear hcell2 o5 OW5
          go_wp2_with fail
          go_ret2
          exact ⟨rfl, HB1.out.trans (HB5.out.mono HB1.out.size)⟩
theorem rinttext_in (n : Int) (h0 : -999999999999999 ≤ n) (h1 : n ≤ 999999999999999) (w : World) : Calls Tryz.prog 46 #[.int .i64 n] w fun e w' => e = .returned (.tuple #[.string (tx n), .bool true]) ∧ Below w.heap.size w w' := by
  by_cases hz : n = 0
  · subst hz
    exact rinttext_zero w
  · by_cases hn : n < 0
    · obtain ⟨u, rfl⟩ : ∃ u : Nat, n = -(u : Int) := ⟨n.natAbs, by omega⟩
      exact rinttext_neg u (by omega) (by omega) w
    · obtain ⟨u, rfl⟩ : ∃ u : Nat, n = u := ⟨n.toNat, by omega⟩
      exact rinttext_pos u (by omega) (by omega) w
end Go.Proofs.YtnldagpbmphdhaaGreatDoor.L
