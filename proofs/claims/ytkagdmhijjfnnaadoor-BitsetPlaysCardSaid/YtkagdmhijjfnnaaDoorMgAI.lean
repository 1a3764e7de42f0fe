import Derived.Test.YtkagdmhijjfnnaaDoorMgAH
import Derived.Test.YtkagdmhijjfnnaaDoorMgAG
import Derived.Lib.TrailingZeros
namespace Go.Proofs.YtkagdmhijjfnnaaDoor
open Go.RowKit Bs
theorem lowAlloc (w : World) (o : Obj) : Below w.heap.size w (w.alloc o) := (Below.refl _ _).alloc (Nat.le_refl _) _
/-- x as it is boxed: all four cells. -/
structure XAll (w : World) (X : Nat) (n : Int) (vA vB vC : Value) : Prop where
  c0 : w.cell? ⟨X, 0, none⟩ = some (.int .i64 n)
  c1 : w.cell? ⟨X, 1, none⟩ = some vA
  c2 : w.cell? ⟨X, 2, none⟩ = some vB
  c3 : w.cell? ⟨X, 3, none⟩ = some vC
theorem XAll.lt {w : World} {X : Nat} {n : Int} {vA vB vC : Value} (h : XAll w X n vA vB vC) : X < w.heap.size := block_lt_of_cell h.c0
theorem XAll.low {w w' : World} {X : Nat} {n : Int} {vA vB vC : Value} (h : XAll w X n vA vB vC) (k : Below w.heap.size w w') : XAll w' X n vA vB vC :=
  ⟨(k.cell (p := ⟨X, 0, none⟩) h.lt).trans h.c0, (k.cell (p := ⟨X, 1, none⟩) h.lt).trans h.c1, (k.cell (p := ⟨X, 2, none⟩) h.lt).trans h.c2, (k.cell (p := ⟨X, 3, none⟩) h.lt).trans h.c3⟩
theorem XAll.drew {w : World} {X : Nat} {n : Int} {vA vB vC : Value} (h : XAll w X n vA vB vC) : XAll w.drew X n vA vB vC := ⟨h.c0, h.c1, h.c2, h.c3⟩
/-- The beginning of a law over x: x is laid, awake is asked. -/
theorem begin_all (N : Int) (vA vB vC : Value) (w : World) (ht : Tab w) : Calls Tryd.prog 9 #[] (w.alloc (.cells #[.int .i64 N, vA, vB, vC] 40)) fun e w' => e = .returned (.bool true) ∧ XAll w' w.heap.size N vA vB vC ∧ Below w.heap.size w w' ∧ w.heap.size + 1 ≤ w'.heap.size := by
  have hb := lowAlloc w (.cells #[.int .i64 N, vA, vB, vC] 40)
  refine (awake_any _ (ht.low hb ht.pos)).mono ?_
  rintro e w' ⟨rfl, h⟩
  have hx : XAll (w.alloc (.cells #[.int .i64 N, vA, vB, vC] 40)) w.heap.size N vA vB vC := ⟨by simp, by simp, by simp, by simp⟩
  exact ⟨rfl, hx.low h, belowT hb h, by have := h.size; simpa using this⟩
/-- The same memory and streams: draws alone lie between. -/
structure Like (w w' : World) : Prop where
  heap : w'.heap = w.heap
  os : w'.os = w.os
  tape : w'.tape = w.tape
  output : w'.output = w.output
theorem Like.refl (w : World) : Like w w := ⟨rfl, rfl, rfl, rfl⟩
theorem Like.drewN {w w' : World} (h : Like w w') (m : Nat) : Like w (w'.drewN m) := ⟨h.heap, h.os, h.tape, h.output⟩
theorem Like.drew {w w' : World} (h : Like w w') : Like w w'.drew := ⟨h.heap, h.os, h.tape, h.output⟩
theorem Like.low {w w' : World} (h : Like w w') : Below w.heap.size w w' := ⟨h.os, h.tape, h.output, by rw [h.heap]; exact Nat.le_refl _, fun _ _ => by rw [h.heap]⟩
theorem Like.cell {w w' : World} (h : Like w w') (a : Addr) : w'.cell? a = w.cell? a := World.cell?_of_block (w := w) (by rw [h.heap])
theorem has_set {p q n : Nat} {S : Nat → Bool} (k : Nat) (w : World) (h : SetAt w p q n S) (hk : k < n) :
    Calls Tryd.prog 30 #[.pointer (some ⟨p, 0, none⟩), .int .i64 k] w fun e w' => e = .returned (.bool (S k)) ∧ ∃ m, w' = w.drewN m := by
  obtain ⟨ws, x, hx⟩ := h
  refine (has_yes p q n k ws w x hk).mono ?_
  rintro e w' ⟨rfl, hw⟩
  exact ⟨by rw [hx], hw⟩
theorem has_true {p q n : Nat} {S : Nat → Bool} (k : Nat) (w : World) (h : SetAt w p q n S) (hk : k < n) (ht : S k = true) :
    Calls Tryd.prog 30 #[.pointer (some ⟨p, 0, none⟩), .int .i64 k] w fun e w' => e = .returned (.bool true) ∧ ∃ m, w' = w.drewN m := by
  have := has_set k w h hk
  rwa [ht] at this
/-- How many unlike places of the universe the first k numbers are. -/
def dist (n : Nat) (zs : List Int) (k : Nat) : Nat := card n (fun i => decide ((i : Int) ∈ inU n zs k))
theorem dist_zero (n : Nat) (zs : List Int) : dist n zs 0 = 0 := by
  unfold dist
  rw [card_zero_iff]
  intro i _
  simp [inU]
theorem dist_le (n : Nat) (zs : List Int) (k : Nat) : dist n zs k ≤ n := card_le _ _
theorem dist_out (n : Nat) (zs : List Int) (k : Nat) (hk : k < zs.length) (h : ¬ (0 ≤ zs.getD k 0 ∧ zs.getD k 0 < n)) : dist n zs (k + 1) = dist n zs k := by
  unfold dist
  rw [inU_miss n zs k hk h]
theorem inU_of (n : Nat) (zs : List Int) (k : Nat) (z : Int) (h0 : 0 ≤ z) (h1 : z < n) : z ∈ inU n zs k ↔ z ∈ zs.take k := by
  simp [inU]; omega
theorem dist_old (n : Nat) (zs : List Int) (k z : Nat) (hk : k < zs.length) (hz : zs.getD k 0 = z) (h1 : z < n) (h : (z : Int) ∈ zs.take k) : dist n zs (k + 1) = dist n zs k := by
  unfold dist
  apply card_congr
  intro i _
  rw [inU_hit n zs k hk (by omega) (by omega), decide_eq_decide, List.mem_append, hz]
  constructor
  · rintro (c | c)
    · exact c
    · simp at c; rw [show i = z by omega]; exact (inU_of n zs k z (by omega) (by omega)).2 h
  · exact Or.inl
theorem dist_new (n : Nat) (zs : List Int) (k z : Nat) (hk : k < zs.length) (hz : zs.getD k 0 = z) (h1 : z < n) (h : ¬ (z : Int) ∈ zs.take k) : dist n zs (k + 1) = dist n zs k + 1 := by
  unfold dist
  have hS : decide ((z : Int) ∈ inU n zs k) = false := by
    rw [decide_eq_false_iff_not, inU_of n zs k z (by omega) (by omega)]; exact h
  have := card_insert (fun i => decide ((i : Int) ∈ inU n zs k)) z hS n
  rw [if_pos h1] at this
  rw [← this]
  apply card_congr
  intro i _
  rw [inU_hit n zs k hk (by omega) (by omega), hz, Bool.eq_iff_iff]
  have e : ((i : Int) = (z : Int)) ↔ i = z := by omega
  simp [e]
theorem sOf_at (n : Nat) (zs : List Int) (k z : Nat) (hk : k < zs.length) (hz : zs.getD k 0 = z) (h1 : z < n) : sOf n zs z = true := by
  unfold sOf
  rw [decide_eq_true_iff, inU_of n zs zs.length z (by omega) (by omega), List.take_length, ← hz]
  exact getD_mem zs k hk
theorem mem_take_succ (zs : List Int) (j : Nat) (hj : j < zs.length) (z y : Int) (hy : y = zs.getD j 0) (b : Bool) (hb : decide (z ∈ zs.take j) = false) (he : (y == z) = b) : decide (z ∈ zs.take (j + 1)) = b := by
  rw [← he, Bool.eq_iff_iff, decide_eq_true_iff, take_mem zs j hj, beq_iff_eq, hy]
  simp at hb
  constructor
  · rintro (c | c)
    · exact absurd c hb
    · exact c.symm
  · intro c; exact Or.inr c.symm
set_option maxRecDepth 100000 in
set_option maxHeartbeats 4000000 in
theorem counted_some (n b off cap p q : Nat) (zs : List Int) (vB vC : Value) (w : World) (hn : n ≤ 65536) (hreach : zs.length * 8 ≤ 140737488351232) (hc : ∀ j, j < zs.length → w.cell? ⟨b, off + j, none⟩ = some (.int .i64 (zs.getD j 0)))
    (hb : b < w.heap.size) (hs : SetAt w p q n (sOf n zs)) :
    Calls Tryd.prog 25 #[.agg #[.int .i64 n, .slice (some ⟨b, off, none⟩) zs.length cap, vB, vC], .pointer (some ⟨p, 0, none⟩)] w fun e w' => e = .returned (.bool true) ∧ Below w.heap.size w w' := by
  have HC := hid hc
  have HS := hid hs
  have HB := hid hb
  clear hc hs hb
  obtain ⟨L, hL⟩ : ∃ L, L = zs.length := ⟨_, rfl⟩
  have HL := hid hL
  rw [← hL] at hreach ⊢
  clear hL
  have hx0 : (w.alloc (.cells #[.int .i64 n, .slice (some ⟨b, off, none⟩) L cap, vB, vC] 40)).cell? ⟨w.heap.size, 0, none⟩ = some (.int .i64 n) := by simp
  have hx1 : (w.alloc (.cells #[.int .i64 n, .slice (some ⟨b, off, none⟩) L cap, vB, vC] 40)).cell? ⟨w.heap.size, 1, none⟩ = some (.slice (some ⟨b, off, none⟩) L cap) := by simp
  have hl1 := lowAlloc w (.cells #[.int .i64 n, .slice (some ⟨b, off, none⟩) L cap, vB, vC] 40)
  have HX0 := hid hx0
  have HX1 := hid hx1
  have HL1 := hid hl1
  clear hx0 hx1 hl1
  go_enter Tryd.func25, Tryd.ntmps25
  go_wp2_with fail
  generalize w.alloc (.cells #[.int .i64 n, .slice (some ⟨b, off, none⟩) L cap, vB, vC] 40) = w1 at HX0 HX1 HL1 ⊢
  have hx0 := HX0.out
  have hx1 := HX1.out
  clear hx0 hx1
  go_loopw [5, 6] (fun c i wr => ∃ k : Nat, k ≤ L ∧ k ≤ 300 ∧ i = .int .i64 k ∧ c = .int .i64 ((dist n zs k : Nat) : Int) ∧ Like w1 wr) (fun _ i _ => L - (intOf i).toNat)
  case atStart => exact ⟨0, Nat.zero_le _, Nat.zero_le _, rfl, by rw [dist_zero]; rfl, Like.refl _⟩
  case round =>
    obtain ⟨k, hk, hk3, rfl, rfl, hlike⟩ := hrel
    have LK := hid hlike
    have hx0 := (hlike.cell ⟨w.heap.size, 0, none⟩).trans HX0.out
    have hx1 := (hlike.cell ⟨w.heap.size, 1, none⟩).trans HX1.out
    clear hlike
    have hd := dist_le n zs k
    by_cases hlt : k < L ∧ k < 300
    · obtain ⟨hlt, hlt3⟩ := hlt
      have hi1 : k < zs.length := by rw [← HL.out]; exact hlt
      have hcz := ((LK.out.cell ⟨b, off + k, none⟩).trans (HL1.out.cell (p := ⟨b, off + k, none⟩) HB.out)).trans (HC.out k hi1)
      obtain ⟨z, hz⟩ : ∃ z, z = zs.getD k 0 := ⟨_, rfl⟩
      rw [← hz] at hcz
      have HZ := hid hz
      have HI1 := hid hi1
      have hkL : (k : Int) < (L : Int) := by omega
      have hk300 : decide ((k : Int) < 300) = true := by simp; omega
      clear hz hi1
      obtain ⟨d, hdd⟩ : ∃ d, d = dist n zs k := ⟨_, rfl⟩
      rw [← hdd] at hd ⊢
      have HD := hid hdd
      clear hdd
      by_cases hin : 0 ≤ z ∧ z < n
      · obtain ⟨zn, hzn⟩ : ∃ zn : Nat, z = zn := ⟨z.toNat, by omega⟩
        subst hzn
        have hz1 : zn < n := by omega
        have hg1 : decide ((zn : Int) < 0) = false := by simp
        have hg2 : decide (n ≤ zn) = false := by simp; omega
        have HIN := hid hz1
        clear hin
        go_wp2_with fail
        go_quiet (fail)
        go_wp2_with fail
        clear hx0 hx1 hcz
        go_loopw [7, 8] (fun s t wr => ∃ j : Nat, j ≤ k ∧ t = .int .i64 j ∧ s = .bool (decide ((zn : Int) ∈ zs.take j)) ∧ Like w1 wr) (fun _ t _ => k - (intOf t).toNat)
        case atStart => exact ⟨0, Nat.zero_le _, rfl, by simp, LK.out.drewN _⟩
        case round =>
          clear LK
          obtain ⟨j, hj, rfl, rfl, hlike⟩ := hrel
          have LK := hid hlike
          have hx0 := (hlike.cell ⟨w.heap.size, 0, none⟩).trans HX0.out
          have hx1 := (hlike.cell ⟨w.heap.size, 1, none⟩).trans HX1.out
          have hcz := ((hlike.cell ⟨b, off + k, none⟩).trans (HL1.out.cell (p := ⟨b, off + k, none⟩) HB.out)).trans (HC.out k HI1.out)
          rw [← HZ.out] at hcz
          clear hlike
          obtain ⟨sb, hsb⟩ : ∃ sb, sb = decide ((zn : Int) ∈ zs.take j) := ⟨_, rfl⟩
          have HSB := hid hsb
          rw [← hsb]
          clear hsb
          by_cases hltj : j < k
          · have hij : j < zs.length := by have := HI1.out; omega
            have hjL : (j : Int) < (L : Int) := by omega
            cases sb
            · have hcy := ((LK.out.cell ⟨b, off + j, none⟩).trans (HL1.out.cell (p := ⟨b, off + j, none⟩) HB.out)).trans (HC.out j hij)
              obtain ⟨y, hy⟩ : ∃ y, y = zs.getD j 0 := ⟨_, rfl⟩
              rw [← hy] at hcy
              obtain ⟨eb, heb⟩ : ∃ eb, (y == (zn : Int)) = eb := ⟨_, rfl⟩
              have HN := hid (mem_take_succ zs j hij zn y hy eb HSB.out.symm heb)
              clear hy hij
              go_wp2_with fail
              go_quiet (fail)
              go_wp2_with fail
              go_roundw
              case rel => exact ⟨j + 1, by omega, by go_num, by rw [HN.out], LK.out.drewN _⟩
              case measure => simp [intOf]; omega
            · have HN := hid (show decide ((zn : Int) ∈ zs.take (j + 1)) = true by
                rw [decide_eq_true_iff, take_mem zs j hij]
                exact Or.inl (by simpa using HSB.out.symm))
              clear hij
              go_wp2_with fail
              go_quiet (fail)
              go_wp2_with fail
              go_roundw
              case rel => exact ⟨j + 1, by omega, by go_num, by rw [HN.out], LK.out.drewN _⟩
              case measure => simp [intOf]; omega
          · have e : j = k := by omega
            subst e
            cases sb
            · have HN := hid (dist_new n zs j zn HI1.out HZ.out.symm HIN.out (by simpa using HSB.out.symm))
              have HSET := hid ((HS.out.low HL1.out).low LK.out.low)
              have HT := hid (sOf_at n zs j zn HI1.out HZ.out.symm HIN.out)
              go_wp2_with (go_at_call 30; refine (has_true zn _ HSET.out HIN.out HT.out).mono ?_; rintro e w9 ⟨rfl, mm, rfl⟩)
              go_roundw
              case rel => exact ⟨j + 1, by omega, by omega, by go_num, by rw [HN.out, ← HD.out]; go_num, LK.out.drewN _⟩
              case measure => simp [intOf]; omega
            · have HN := hid (dist_old n zs j zn HI1.out HZ.out.symm HIN.out (by simpa using HSB.out.symm))
              go_wp2_with fail
              go_roundw
              case rel => exact ⟨j + 1, by omega, by omega, by go_num, by rw [HN.out, ← HD.out], LK.out⟩
              case measure => simp [intOf]; omega
      · have HN := hid (dist_out n zs k HI1.out (by rw [← HZ.out]; exact hin))
        by_cases hneg : z < 0
        · have hg1 : decide (z < 0) = true := by simp; omega
          clear hin
          go_wp2_with fail
          go_quiet (fail)
          go_wp2_with fail
          clear hx0 hx1 hcz
          go_loopw [7, 8] (fun s t wr => ∃ j : Nat, j ≤ k ∧ t = .int .i64 j ∧ s = .bool true ∧ Like w1 wr) (fun _ t _ => k - (intOf t).toNat)
          case atStart => exact ⟨0, Nat.zero_le _, rfl, rfl, LK.out.drewN _⟩
          case round =>
            clear LK
            obtain ⟨j, hj, rfl, rfl, hlike⟩ := hrel
            have LK := hid hlike
            clear hlike
            by_cases hltj : j < k
            · go_wp2_with fail
              go_quiet (fail)
              go_wp2_with fail
              go_roundw
              case rel => exact ⟨j + 1, by omega, by go_num, rfl, LK.out.drewN _⟩
              case measure => simp [intOf]; omega
            · have e : j = k := by omega
              subst e
              go_wp2_with fail
              go_roundw
              case rel => exact ⟨j + 1, by omega, by omega, by go_num, by rw [HN.out, ← HD.out], LK.out⟩
              case measure => simp [intOf]; omega
        · obtain ⟨zn, hzn⟩ : ∃ zn : Nat, z = zn := ⟨z.toNat, by omega⟩
          subst hzn
          have hg1 : decide ((zn : Int) < 0) = false := by simp
          have hg2 : decide (n ≤ zn) = true := by simp; omega
          clear hin hneg
          go_wp2_with fail
          go_quiet (fail)
          go_wp2_with fail
          clear hx0 hx1 hcz
          go_loopw [7, 8] (fun s t wr => ∃ j : Nat, j ≤ k ∧ t = .int .i64 j ∧ s = .bool true ∧ Like w1 wr) (fun _ t _ => k - (intOf t).toNat)
          case atStart => exact ⟨0, Nat.zero_le _, rfl, rfl, LK.out.drewN _⟩
          case round =>
            clear LK
            obtain ⟨j, hj, rfl, rfl, hlike⟩ := hrel
            have LK := hid hlike
            clear hlike
            by_cases hltj : j < k
            · go_wp2_with fail
              go_quiet (fail)
              go_wp2_with fail
              go_roundw
              case rel => exact ⟨j + 1, by omega, by go_num, rfl, LK.out.drewN _⟩
              case measure => simp [intOf]; omega
            · have e : j = k := by omega
              subst e
              go_wp2_with fail
              go_roundw
              case rel => exact ⟨j + 1, by omega, by omega, by go_num, by rw [HN.out, ← HD.out], LK.out⟩
              case measure => simp [intOf]; omega
    · by_cases hL3 : 300 < L
      · by_cases hkl : k < L
        · have h3 : decide ((k : Int) < 300) = false := by simp; omega
          have h4 : (k : Int) < (L : Int) := by omega
          have h5 : (300 : Int) < (L : Int) := by omega
          clear hlt hL3 hkl
          go_wp2_with fail
          go_ret
          exact ⟨rfl, belowT HL1.out LK.out.low⟩
        · exact absurd hkl (by omega)
      · have e : k = L := by omega
        have HSET := hid ((HS.out.low HL1.out).low LK.out.low)
        have HCN := hid (count_set _ HSET.out)
        have hcd : card n (sOf n zs) = dist n zs k := by unfold dist sOf; rw [e, HL.out]
        rw [hcd] at HCN
        have hkl : ¬ k < L := by omega
        clear hcd hlt
        obtain ⟨d, hdd⟩ : ∃ d, d = dist n zs k := ⟨_, rfl⟩
        rw [← hdd] at hd HCN ⊢
        clear hdd
        go_wp2_with (go_at_call 23; refine HCN.out.mono ?_; rintro e w9 ⟨rfl, hww⟩; subst hww)
        go_ret
        exact ⟨rfl, belowT HL1.out LK.out.low⟩
end Go.Proofs.YtkagdmhijjfnnaaDoor
namespace Bs
theorem and_two (a b c d : Nat) (ha : a < 2) (hb : b < 2) : (a + 2 * c) &&& (b + 2 * d) = (a &&& b) + 2 * (c &&& d) := by
  have e1 : a + 2 * c = 2 ^ 1 * c + a := by omega
  have e2 : b + 2 * d = 2 ^ 1 * d + b := by omega
  have hab : a &&& b < 2 ^ 1 := Nat.lt_of_le_of_lt Nat.and_le_left ha
  have e3 : (a &&& b) + 2 * (c &&& d) = 2 ^ 1 * (c &&& d) + (a &&& b) := by omega
  rw [e1, e2, e3]
  apply Nat.eq_of_testBit_eq
  intro i
  rw [Nat.testBit_and, Nat.testBit_two_pow_mul_add _ ha, Nat.testBit_two_pow_mul_add _ hb, Nat.testBit_two_pow_mul_add _ hab]
  by_cases h : i < 1
  · simp [h]
  · simp [h]
/-- A bit fewer. -/
theorem pop_lo : ∀ (f x : Nat), x ≠ 0 → x < 2 ^ f → pop f (x &&& (x - 1)) + 1 = pop f x
  | 0, x, h0, h => by simp at h; omega
  | f + 1, x, h0, h => by
    rcases Nat.mod_two_eq_zero_or_one x with hm | hm
    · obtain ⟨y, rfl⟩ : ∃ y, x = 2 * y := ⟨x / 2, by omega⟩
      have e : 2 * y &&& (2 * y - 1) = 2 * (y &&& (y - 1)) := by
        have := and_two 0 1 y (y - 1) (by decide) (by decide)
        rw [show 2 * y - 1 = 1 + 2 * (y - 1) by omega, show 2 * y = 0 + 2 * y by omega, this]; simp
      rw [e, pop, pop, show 2 * (y &&& (y - 1)) % 2 = 0 by omega, show 2 * (y &&& (y - 1)) / 2 = y &&& (y - 1) by omega, show 2 * y % 2 = 0 by omega, show 2 * y / 2 = y by omega]
      have := pop_lo f y (by omega) (by rw [Nat.pow_succ] at h; omega)
      omega
    · obtain ⟨y, rfl⟩ : ∃ y, x = 2 * y + 1 := ⟨x / 2, by omega⟩
      have e : (2 * y + 1) &&& (2 * y + 1 - 1) = 2 * y := by
        have := and_two 1 0 y y (by decide) (by decide)
        rw [show 2 * y + 1 - 1 = 0 + 2 * y by omega, show 2 * y + 1 = 1 + 2 * y by omega, this]; simp
      rw [e, pop, pop, show 2 * y % 2 = 0 by omega, show 2 * y / 2 = y by omega, show (2 * y + 1) % 2 = 1 by omega, show (2 * y + 1) / 2 = y by omega]
      omega
theorem pop_zero : ∀ f, pop f 0 = 0
  | 0 => rfl
  | f + 1 => by rw [pop]; simp [pop_zero f]
theorem ctz_bit (x : Nat) (h0 : x ≠ 0) (h : x < 2 ^ 64) : x.testBit (Go.Lib.ctz 64 x) = true ∧ Go.Lib.ctz 64 x < 64 := by
  have hc : Go.Lib.ctz 64 x = Go.Lib.ctzFrom 64 x := by unfold Go.Lib.ctz; rw [if_neg h0]
  obtain ⟨m, e, hl⟩ := Go.Lib.ctzFrom_spec 64 x (by omega) h
  rw [hc]
  refine ⟨?_, hl⟩
  generalize Go.Lib.ctzFrom 64 x = c at e hl ⊢
  rw [Nat.testBit_eq_decide_div_mod_eq, decide_eq_true_iff, e, Nat.mul_div_cancel_left _ (Nat.two_pow_pos c)]
  omega
end Bs
namespace Go.Proofs.YtkagdmhijjfnnaaDoor
open Go.RowKit Bs
/-- A slice of words, as it lies. -/
structure WSlice (w : World) (v : Value) (g cap : Nat) (us : List Nat) : Prop where
  hv : v = .slice (some ⟨g, 0, none⟩) us.length cap
  hg : g < w.heap.size
  hc : ∀ j, j < us.length → w.cell? ⟨g, j, none⟩ = some (.int .u64 ((us.getD j 0 : Nat) : Int))
theorem WSlice.low {w w' : World} {v : Value} {g cap : Nat} {us : List Nat} (h : WSlice w v g cap us) (k : Below w.heap.size w w') : WSlice w' v g cap us :=
  ⟨h.hv, Nat.lt_of_lt_of_le h.hg k.size, fun j hj => (k.cell (p := ⟨g, j, none⟩) h.hg).trans (h.hc j hj)⟩
theorem WSlice.src {w : World} {v : Value} {g cap : Nat} {us : List Nat} (h : WSlice w v g cap us) : ∀ j u, (vals us)[j]? = some u → w.cell? ((⟨g, 0, none⟩ : Addr).add j) = some u := by
  intro j u hu
  have hj : j < us.length := by
    have := (List.getElem?_eq_some_iff.1 hu).1
    rwa [length_vals] at this
  have e : ((⟨g, 0, none⟩ : Addr).add j) = ⟨g, j, none⟩ := by simp [Addr.add]; omega
  rw [e, h.hc j hj, ← hu]
  simp [vals, List.getElem?_eq_getElem hj]
theorem make_len (L : Nat) (hL : L ≤ 1024) (w : World) : Sem.run Tryd.prog (Instr.makeSlice 35 (.int .i64 (L : Int)) (.int .i64 (L : Int))) w =
    .ok (.slice (some ⟨w.heap.size, 0, none⟩) L L) (w.alloc (.cells (row (List.replicate L 0)) 59)) := by
  obtain ⟨i, h1, h2, h3, h4⟩ := info59
  have h := run_make (P := Tryd.prog) (w := w) 35 59 i _ Tryd.underlying35 h1 h2 .i64 .i64 (L : Int) (L : Int) (by omega) (by omega) (by rw [h4]; omega) (by omega)
  rw [h3, Int.toNat_natCast, Nat.mul_one, made_row] at h
  exact h
set_option maxRecDepth 100000 in
set_option maxHeartbeats 1000000 in
/-- Words. -/
theorem words_any (p q n : Nat) (ws : List Nat) (w : World) (h : IsSet w p q n ws) :
    Calls Tryd.prog 35 #[.pointer (some ⟨p, 0, none⟩)] w fun e w' => ∃ v, e = .returned v ∧ WSlice w' v w.heap.size ws.length ws ∧ Below w.heap.size w w' := by
  have hc1 := h.c1
  have hlen := h.len
  have HI := hid h
  have hmk := make_len ws.length h.len w
  have hb0 := lowAlloc w (.cells (row (List.replicate ws.length 0)) 59)
  have h2 := h.low hb0
  have hd1 := h2.c1
  have hrow : (w.alloc (.cells (row (List.replicate ws.length 0)) 59)).heap[w.heap.size]? = some (.cells (vals (List.replicate ws.length 0)).toArray 59 (0, 0)) := heap_alloc_new w _
  have H2 := hid h2
  have HB0 := hid hb0
  have HROW := hid hrow
  have HMIN := hid (show (vals ws).length = Nat.min ws.length ws.length by rw [length_vals]; exact (Nat.min_self _).symm)
  clear h hb0 h2 hrow
  go_enter Tryd.func35, Tryd.ntmps35
  go_wp2_with fail
  refine (list_cell p _ _ _ _ hc1).mono ?_
  rintro e w1 ⟨rfl, hww⟩
  subst hww
  go_wp2_with fail
  refine (list_cell p _ _ _ _ hd1).mono ?_
  rintro e w2 ⟨rfl, hww⟩
  rw [hww]
  clear hww
  go_wp2_with (refine wpList_copy_splice rfl (.tmp 8) (.tmp 10) 35 35 rfl 59 Tryd.underlying35 (by kernel_rfl) (some ⟨w1.heap.size, 0, none⟩) (some ⟨q, 0, none⟩) ws.length ws.length ws.length ws.length rfl rfl w1.heap.size 0 (vals (List.replicate ws.length 0)) 59 HROW.out (vals ws) HMIN.out (fun _ => ⟨rfl, _, rfl, H2.out.src⟩) (by simp [length_vals]) (one_vals ws) w1.heap.size w1 HB0.out (Nat.le_refl _) ?_; intro w4 hg4 hb4)
  go_ret
  have e4 := hg4.out
  rw [splice_wid] at e4
  have ew : widW ws.length ws = ws := by unfold widW; simp
  rw [ew] at e4
  refine ⟨_, rfl, ⟨rfl, lt_of_block e4, fun j hj => ?_⟩, hb4⟩
  rw [cell_of_row w4 _ j _ _ _ e4]
  exact row_get ws j hj
end Go.Proofs.YtkagdmhijjfnnaaDoor
