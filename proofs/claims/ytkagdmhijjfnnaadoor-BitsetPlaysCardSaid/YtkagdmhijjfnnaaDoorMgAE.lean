import Derived.Test.YtkagdmhijjfnnaaDoorMgAD
import Derived.Lib.TrailingZeros
import Derived.Laws.Bits128
namespace Go.Proofs.YtkagdmhijjfnnaaDoor
open Go.RowKit Bs
/-- Those of the first k numbers that lie in the universe. -/
def inU (n : Nat) (zs : List Int) (k : Nat) : List Int := (zs.take k).filter fun z => decide (0 ≤ z) && decide (z < n)
theorem inU_zero (n : Nat) (zs : List Int) : inU n zs 0 = [] := by simp [inU]
theorem inU_len (n : Nat) (zs : List Int) (k : Nat) : (inU n zs k).length ≤ k := by
  unfold inU
  have := List.length_filter_le (fun z => decide (0 ≤ z) && decide (z < (n : Int))) (zs.take k)
  have := List.length_take_le k zs
  omega
theorem inU_hit (n : Nat) (zs : List Int) (k : Nat) (hk : k < zs.length) (h0 : 0 ≤ zs.getD k 0) (h1 : zs.getD k 0 < n) : inU n zs (k + 1) = inU n zs k ++ [zs.getD k 0] := by
  have e : zs.getD k 0 = zs[k] := by simp [List.getElem?_eq_getElem hk]
  rw [e] at h0 h1 ⊢
  unfold inU
  rw [List.take_succ_eq_append_getElem hk, List.filter_append]
  simp [h0, h1]
theorem inU_miss (n : Nat) (zs : List Int) (k : Nat) (hk : k < zs.length) (h : ¬ (0 ≤ zs.getD k 0 ∧ zs.getD k 0 < n)) : inU n zs (k + 1) = inU n zs k := by
  have e : zs.getD k 0 = zs[k] := by simp [List.getElem?_eq_getElem hk]
  rw [e] at h
  unfold inU
  rw [List.take_succ_eq_append_getElem hk, List.filter_append]
  simp
  omega
theorem inU_mem (n : Nat) (zs : List Int) (k : Nat) (z : Int) (h : z ∈ inU n zs k) : 0 ≤ z ∧ z < n := by
  simp [inU] at h; omega
theorem holds_of_owns {w : World} {base : Nat} {v : Value} {n : Nat} {zs : List Int} (h : w.ownsRow base 3 1 v n (zs.map (Value.int .i64))) : Holds w v zs := by
  obtain ⟨hl, h⟩ := h
  simp at hl
  constructor
  rcases h with ⟨rfl, rfl⟩ | ⟨g, cap, cur, rfl, _, hh, _, _, _, ht⟩
  · exact Or.inl ⟨rfl, List.eq_nil_of_length_eq_zero hl⟩
  · refine Or.inr ⟨g, 0, cap, by rw [hl], fun j hj => ?_⟩
    rw [Nat.mul_one] at ht
    rw [Nat.zero_add, cell_of_row w g j _ _ _ hh]
    have e1 : (cur.toList.take n)[j]? = cur.toList[j]? := by rw [List.getElem?_take, if_pos (by omega)]
    rw [ht] at e1
    rw [← Array.getElem?_toList, ← e1]
    simp [List.getElem?_eq_getElem hj]
theorem owns_same {w : World} {base : Nat} {v : Value} {l l' : List Int} (e : l' = l) (h : w.ownsRow base 3 1 v l.length (l.map (Value.int .i64))) : w.ownsRow base 3 1 v l'.length (l'.map (Value.int .i64)) := by
  subst e; exact h
theorem owns_block {w : World} {base : Nat} {v : Value} {n : Nat} {xs : List Value} (h : w.ownsRow base 3 1 v n xs) : ∀ k, v.ownBlock = some k → base ≤ k := by
  obtain ⟨_, h⟩ := h
  intro k hk
  rcases h with ⟨rfl, _⟩ | ⟨g, cap, cur, rfl, hg, _⟩
  · cases hk
  · simp [Value.ownBlock] at hk; omega
theorem info3 : ∃ i : TypeInfo, Tryd.prog.info? 3 = some i ∧ i.zero = some (.int .i64 0) ∧ i.size = 1 ∧ i.bytes = 8 := by
  refine ⟨(Tryd.prog.info? 3).getD default, ?_, ?_, ?_, ?_⟩ <;> kernel_rfl
set_option maxRecDepth 100000 in
set_option maxHeartbeats 1000000 in
theorem of_some (n b off cap : Nat) (zs : List Int) (w : World) (hn : n ≤ 65536) (hreach : zs.length * 8 ≤ 140737488351232) (hc : ∀ j, j < zs.length → w.cell? ⟨b, off + j, none⟩ = some (.int .i64 (zs.getD j 0))) :
    Calls Tryd.prog 14 #[.int .i64 n, .slice (some ⟨b, off, none⟩) zs.length cap] w fun e w' => ∃ p q, e = .returned (.pointer (some ⟨p, 0, none⟩)) ∧ w.heap.size ≤ p ∧ w.heap.size ≤ q ∧ SetAt w' p q n (fun i => decide ((i : Int) ∈ inU n zs zs.length)) ∧ Below w.heap.size w w' := by
  obtain ⟨i0, hi, hz0, hz1, hz2⟩ := info3
  have HC := hid hc
  clear hc
  obtain ⟨L, hL⟩ : ∃ L, L = zs.length := ⟨_, rfl⟩
  have HL := hid hL
  rw [← hL] at hreach ⊢
  clear hL
  go_enter Tryd.func14, Tryd.ntmps14
  go_wp2_with fail
  go_loopw [5, 6] (fun v i wr => ∃ k : Nat, k ≤ L ∧ i = .int .i64 k ∧ wr.ownsRow w.heap.size 3 1 v (inU n zs k).length ((inU n zs k).map (Value.int .i64)) ∧ Below w.heap.size w wr) (fun _ i _ => L - (intOf i).toNat)
  case atStart => exact ⟨0, Nat.zero_le _, rfl, World.ownsRow_nil _ _ _ _, Below.refl _ _⟩
  case round =>
    obtain ⟨k, hk, rfl, hown, hb⟩ := hrel
    by_cases hlt : k < L
    · have hi1 : k < zs.length := by rw [← HL.out]; exact hlt
      have hcell := HC.out k hi1
      have hcw := (hb.cell (p := ⟨b, off + k, none⟩) (block_lt_of_cell hcell)).trans hcell
      obtain ⟨z, hz⟩ : ∃ z, z = zs.getD k 0 := ⟨_, rfl⟩
      rw [← hz] at hcw
      have HZ := hid hz
      have HI1 := hid hi1
      clear hz hcell hi1
      have hlen := inU_len n zs k
      by_cases h0 : 0 ≤ z
      · by_cases h1 : z < n
        · go_wp2_with (at_builtin; refine wpList_append_own _ rfl _ _ 28 rfl w.heap.size 3 i0 (.int .i64 0) 1 8 Tryd.underlying28 hi hz0 hz1 hz2 rfl (by decide) _ _ _ rfl (hown.alloc _) ⟨wr.heap.size, 0, none⟩ 1 1 [.int .i64 z] rfl rfl ?c1 ?c2 ?c3 ?c4 ?c5 ?_)
          case c1 => exact cell_one_new _ _ _
          case c2 => intro u hu; simp at hu; subst hu; rfl
          case c3 => unfold maxLen; omega
          case c4 => omega
          case c5 => have := hb.size; simp; omega
          intro v' w1 hown' hgrow _
          have hK := inU_hit n zs k HI1.out (by rw [← HZ.out]; exact h0) (by rw [← HZ.out]; exact h1)
          have hb1 : Below w.heap.size w w1 := (hb.alloc hb.size _).grown hgrow (by have := hb.size; simp; omega) (owns_block hown)
          have R : w1.ownsRow w.heap.size 3 1 v' (inU n zs (k + 1)).length ((inU n zs (k + 1)).map (Value.int .i64)) := by
            rw [hK, List.length_append, List.map_append, ← HZ.out]; exact hown'
          have RR := hid R
          clear hown' hgrow hown R hK
          go_wp2
          go_roundw
          case rel => exact ⟨k + 1, by omega, by go_num, RR.out, hb1⟩
          case measure => simp [intOf]; omega
        · have hK := inU_miss n zs k HI1.out (by rw [← HZ.out]; omega)
          have R := owns_same hK hown
          have RR := hid R
          clear hown R hK
          go_wp2
          go_roundw
          case rel => exact ⟨k + 1, by omega, by go_num, RR.out, hb⟩
          case measure => simp [intOf]; omega
      · have hK := inU_miss n zs k HI1.out (by rw [← HZ.out]; omega)
        have R := owns_same hK hown
        have RR := hid R
        clear hown R hK
        go_wp2
        go_roundw
        case rel => exact ⟨k + 1, by omega, by go_num, RR.out, hb⟩
        case measure => simp [intOf]; omega
    · have e : k = L := by omega
      subst e
      have HO := hid hown
      have HB := hid hb
      have hl := inU_len n zs k
      clear hown hb
      go_wp2_with (go_at_call 47; refine (from_any n _ (inU n zs k) _ hn (by omega) (holds_of_owns HO.out) (fun z hz => inU_mem n zs k z hz)).mono ?_; rintro e w2 ⟨rfl, ⟨ws, hs, hm⟩, hb2⟩)
      go_ret
      exact ⟨_, _, rfl, by have := HB.out.size; omega, by have := HB.out.size; omega, ⟨ws, hs, hm⟩, belowT HB.out hb2⟩
end Go.Proofs.YtkagdmhijjfnnaaDoor
namespace Go.Proofs.YtkagdmhijjfnnaaDoor
open Go.RowKit Bs
def o1 (x : Nat) : Nat := ((x / 2) &&& 6148914691236517205) + (x &&& 6148914691236517205)
def o2 (x : Nat) : Nat := ((x / 4) &&& 3689348814741910323) + (x &&& 3689348814741910323)
def o3 (x : Nat) : Nat := ((x / 16 + x) % 18446744073709551616) &&& 1085102592571150095
def o4 (x : Nat) : Nat := (x + x / 256) % 18446744073709551616
def o5 (x : Nat) : Nat := (x + x / 65536) % 18446744073709551616
def o6 (x : Nat) : Nat := (x + x / 4294967296) % 18446744073709551616
/-- What OnesCount64 reckons. -/
def ones (x : Nat) : Nat := o6 (o5 (o4 (o3 (o2 (o1 x))))) % 128
theorem and_le (x m : Nat) : x &&& m ≤ m := Nat.and_le_right
theorem o1_num (x : Nat) (hx : x < 18446744073709551616) : IntKind.u64.wrap (bits .and .u64 ((x : Int) / 2) 6148914691236517205 + bits .and .u64 (x : Int) 6148914691236517205) = ((o1 x : Nat) : Int) := by
  have e : ((x : Int) / 2) = ((x / 2 : Nat) : Int) := by omega
  have f : bits .and .u64 ((x / 2 : Nat) : Int) 6148914691236517205 = (((x / 2) &&& 6148914691236517205 : Nat) : Int) := u64_and_nat (x / 2) 6148914691236517205 (by omega) (by decide)
  have g : bits .and .u64 (x : Int) 6148914691236517205 = ((x &&& 6148914691236517205 : Nat) : Int) := u64_and_nat x 6148914691236517205 hx (by decide)
  rw [e, f, g, IntKind.wrap_u64]
  have a := and_le (x / 2) 6148914691236517205
  have b := and_le x 6148914691236517205
  unfold o1
  omega
theorem o2_num (x : Nat) (hx : x < 18446744073709551616) : IntKind.u64.wrap (bits .and .u64 ((x : Int) / 4) 3689348814741910323 + bits .and .u64 (x : Int) 3689348814741910323) = ((o2 x : Nat) : Int) := by
  have e : ((x : Int) / 4) = ((x / 4 : Nat) : Int) := by omega
  have f : bits .and .u64 ((x / 4 : Nat) : Int) 3689348814741910323 = (((x / 4) &&& 3689348814741910323 : Nat) : Int) := u64_and_nat (x / 4) 3689348814741910323 (by omega) (by decide)
  have g : bits .and .u64 (x : Int) 3689348814741910323 = ((x &&& 3689348814741910323 : Nat) : Int) := u64_and_nat x 3689348814741910323 hx (by decide)
  rw [e, f, g, IntKind.wrap_u64]
  have a := and_le (x / 4) 3689348814741910323
  have b := and_le x 3689348814741910323
  unfold o2
  omega
theorem o3_num (x : Nat) : bits .and .u64 (IntKind.u64.wrap ((x : Int) / 16 + (x : Int))) 1085102592571150095 = ((o3 x : Nat) : Int) := by
  have e : IntKind.u64.wrap ((x : Int) / 16 + (x : Int)) = (((x / 16 + x) % 18446744073709551616 : Nat) : Int) := by rw [IntKind.wrap_u64]; omega
  rw [e]
  exact u64_and_nat _ 1085102592571150095 (Nat.mod_lt _ (by decide)) (by decide)
theorem o4_num (x : Nat) : IntKind.u64.wrap ((x : Int) + (x : Int) / 256) = ((o4 x : Nat) : Int) := by rw [IntKind.wrap_u64]; unfold o4; omega
theorem o5_num (x : Nat) : IntKind.u64.wrap ((x : Int) + (x : Int) / 65536) = ((o5 x : Nat) : Int) := by rw [IntKind.wrap_u64]; unfold o5; omega
theorem o6_num (x : Nat) : IntKind.u64.wrap ((x : Int) + (x : Int) / 4294967296) = ((o6 x : Nat) : Int) := by rw [IntKind.wrap_u64]; unfold o6; omega
theorem o1_lt (x : Nat) : o1 x < 18446744073709551616 := by
  have a := and_le (x / 2) 6148914691236517205
  have b := and_le x 6148914691236517205
  unfold o1; omega
theorem last_num (x : Nat) : bits .and .i64 (wrap64 (x : Int)) 127 = ((x % 128 : Nat) : Int) := by
  rw [i64_and127, wrap64_eq, IntKind.wrap_i64]; omega
set_option maxHeartbeats 1000000 in
theorem ones_core (x x1 x2 x3 x4 x5 x6 : Nat) (w : World) (h1 : IntKind.u64.wrap (bits .and .u64 ((x : Int) / 2) 6148914691236517205 + bits .and .u64 (x : Int) 6148914691236517205) = (x1 : Int))
    (h2 : IntKind.u64.wrap (bits .and .u64 ((x1 : Int) / 4) 3689348814741910323 + bits .and .u64 (x1 : Int) 3689348814741910323) = (x2 : Int))
    (h3 : bits .and .u64 (IntKind.u64.wrap ((x2 : Int) / 16 + (x2 : Int))) 1085102592571150095 = (x3 : Int)) (h4 : IntKind.u64.wrap ((x3 : Int) + (x3 : Int) / 256) = (x4 : Int))
    (h5 : IntKind.u64.wrap ((x4 : Int) + (x4 : Int) / 65536) = (x5 : Int)) (h6 : IntKind.u64.wrap ((x5 : Int) + (x5 : Int) / 4294967296) = (x6 : Int)) :
    Calls Tryd.prog 57 #[.int .u64 x] w fun e w' => e = .returned (.int .i64 ((x6 % 128 : Nat) : Int)) ∧ w' = w := by
  have H7 := hid (last_num x6)
  go_enter Tryd.func57, Tryd.ntmps57
  go_wp2
  go_ret
  exact ⟨ret_int H7.out, rfl⟩
/-- OnesCount64. -/
theorem ones_any (x : Nat) (w : World) (hx : x < 18446744073709551616) : Calls Tryd.prog 57 #[.int .u64 x] w fun e w' => e = .returned (.int .i64 ((ones x : Nat) : Int)) ∧ w' = w :=
  ones_core x (o1 x) (o2 (o1 x)) (o3 (o2 (o1 x))) (o4 (o3 (o2 (o1 x)))) (o5 (o4 (o3 (o2 (o1 x))))) (o6 (o5 (o4 (o3 (o2 (o1 x)))))) w (o1_num x hx) (o2_num _ (o1_lt x)) (o3_num _) (o4_num _) (o5_num _) (o6_num _)
theorem ones_lt (x : Nat) : ones x < 128 := Nat.mod_lt _ (by decide)

/-- The table of math/bits lies in block 0. -/
def Tab (w : World) : Prop := ∀ k, k < 64 → w.cell? ⟨0, k, none⟩ = some (.int .u8 ((Lib.deBruijn64tab.getD k 0 : Nat) : Int))
set_option maxHeartbeats 1000000 in
theorem tz_core (x y m j t : Nat) (w : World) (hx : ((x : Int) == 0) = false) (h1 : bits .and .u64 (x : Int) (IntKind.u64.wrap (-(x : Int))) = (y : Int)) (h2 : IntKind.u64.wrap ((y : Int) * 285870213051353865) = (m : Int))
    (h3 : (m : Int) / 288230376151711744 = (j : Int)) (hj : (j : Int) < 64) (hc : w.cell? ⟨0, j, none⟩ = some (.int .u8 (t : Int))) (ht : (t : Int) < 64) :
    Calls Tryd.prog 58 #[.int .u64 x] w fun e w' => e = .returned (.int .i64 (t : Int)) ∧ w' = w := by
  have ht0 : 0 ≤ (t : Int) := by omega
  go_enter Tryd.func58, Tryd.ntmps58
  go_wp2
  go_ret
  exact ⟨rfl, rfl⟩
theorem neg_num (x : Nat) (h0 : x ≠ 0) (hx : x < 18446744073709551616) : bits .and .u64 (x : Int) (IntKind.u64.wrap (-(x : Int))) = ((2 ^ Lib.ctz 64 x : Nat) : Int) := by
  have e : IntKind.u64.wrap (-(x : Int)) = ((18446744073709551616 - x : Nat) : Int) := by rw [IntKind.wrap_u64]; omega
  rw [e, u64_and_nat x _ hx (by omega), ← (Lib.lowest_bit 64 x h0 hx).1]
/-- TrailingZeros64, of a number that is not 0. -/
theorem tz_any (x : Nat) (w : World) (h0 : x ≠ 0) (hx : x < 18446744073709551616) (ht : Tab w) : Calls Tryd.prog 58 #[.int .u64 x] w fun e w' => e = .returned (.int .i64 ((Lib.ctz 64 x : Nat) : Int)) ∧ w' = w := by
  have hb := Lib.lowest_bit 64 x h0 hx
  have hd := Lib.deBruijn64_at (Lib.ctz 64 x) hb.2
  have hc := ht _ hd.1
  rw [hd.2] at hc
  refine tz_core x (2 ^ Lib.ctz 64 x) (2 ^ Lib.ctz 64 x * 285870213051353865 % 18446744073709551616) _ (Lib.ctz 64 x) w (beq_eq_false_iff_ne.2 (by omega)) (neg_num x h0 hx) ?_ ?_ ?_ hc ?_
  · rw [IntKind.wrap_u64]; omega
  · omega
  · exact_mod_cast hd.1
  · have := hb.2; omega
set_option maxHeartbeats 1000000 in
theorem tz_zero (w : World) : Calls Tryd.prog 58 #[.int .u64 0] w fun e w' => e = .returned (.int .i64 64) ∧ w' = w := by
  go_enter Tryd.func58, Tryd.ntmps58
  go_wp2
  go_ret
  exact ⟨rfl, rfl⟩
end Go.Proofs.YtkagdmhijjfnnaaDoor
namespace Go.Proofs.YtkagdmhijjfnnaaDoor
open Go.RowKit Bs
def cnt (k : Nat) (ws : List Nat) : Nat := ((ws.take k).map ones).sum
theorem cnt_zero (ws : List Nat) : cnt 0 ws = 0 := by simp [cnt]
theorem cnt_succ (k : Nat) (ws : List Nat) (hk : k < ws.length) : cnt (k + 1) ws = cnt k ws + ones (ws.getD k 0) := by
  unfold cnt
  rw [List.take_succ_eq_append_getElem hk, List.map_append, List.sum_append]
  simp [List.getElem?_eq_getElem hk]
theorem cnt_le (k : Nat) (ws : List Nat) : k ≤ ws.length → cnt k ws ≤ 128 * k := by
  induction k with
  | zero => intro _; rw [cnt_zero]; omega
  | succ k ih =>
    intro h
    rw [cnt_succ k ws (by omega)]
    have := ih (by omega)
    have := ones_lt (ws.getD k 0)
    omega
set_option maxHeartbeats 1000000 in
theorem countBits_any (q : Nat) (ws : List Nat) (w : World) (hrow : w.heap[q]? = some (.cells (row ws) 59 (0, 0))) (hle : ws.length ≤ 1024) (wd : Wd ws) :
    Calls Tryd.prog 56 #[.slice (some ⟨q, 0, none⟩) ws.length ws.length] w fun e w' => e = .returned (.int .i64 ((cnt ws.length ws : Nat) : Int)) ∧ w' = w := by
  have HR := hid hrow
  have HW := hid wd
  clear hrow wd
  obtain ⟨L, hL⟩ : ∃ L, L = ws.length := ⟨_, rfl⟩
  have HL := hid hL
  rw [← hL] at hle ⊢
  clear hL
  go_enter Tryd.func56, Tryd.ntmps56
  go_wp2
  go_loop [3, 8] (fun n i => ∃ k : Nat, k ≤ L ∧ i = .int .i64 k ∧ n = .int .i64 ((cnt k ws : Nat) : Int)) (fun _ i => L - (intOf i).toNat)
  case atStart => exact ⟨0, Nat.zero_le _, rfl, rfl⟩
  case round =>
    obtain ⟨k, hk, rfl, rfl⟩ := hrel
    have hb := cnt_le k ws (by rw [← HL.out]; exact hk)
    obtain ⟨c, hc⟩ : ∃ c, c = cnt k ws := ⟨_, rfl⟩
    rw [← hc] at hb ⊢
    have HCC := hid hc
    clear hc
    by_cases hlt : k < L
    · have hi : k < ws.length := by rw [← HL.out]; exact hlt
      have hx := row_get ws k hi
      rw [← cell_of_row w q k _ _ _ HR.out] at hx
      obtain ⟨x, hxe⟩ : ∃ x, x = ws.getD k 0 := ⟨_, rfl⟩
      have HO := hid (ones_any x)
      have hxb := HW.out.getD k
      rw [← hxe] at hx hxb
      have hol := ones_lt x
      have HX := hid hxe
      have HXB := hid hxb
      have HI := hid hi
      obtain ⟨o, ho⟩ : ∃ o, o = ones x := ⟨_, rfl⟩
      rw [← ho] at HO hol
      have HOO := hid ho
      clear hxe hxb hi ho
      go_wp2_with (go_at_call 57; refine (HO.out _ HXB.out).mono ?_; rintro e w' ⟨rfl, rfl⟩)
      go_round
      case rel => exact ⟨k + 1, by omega, by go_num, by rw [cnt_succ k ws HI.out, ← HCC.out, ← HX.out, ← HOO.out]; go_num⟩
      case measure => simp [intOf]; omega
    · have e : k = L := by omega
      subst e
      go_wp2
      go_ret
      exact ⟨ret_int (by rw [HCC.out]), rfl⟩
set_option maxHeartbeats 1000000 in
theorem count_words (p q n : Nat) (ws : List Nat) (w : World) (h : IsSet w p q n ws) :
    Calls Tryd.prog 23 #[.pointer (some ⟨p, 0, none⟩)] w fun e w' => e = .returned (.int .i64 ((cnt ws.length ws : Nat) : Int)) ∧ w' = w := by
  have hc1 := h.c1
  have HI := hid h
  clear h
  go_enter Tryd.func23, Tryd.ntmps23
  go_wp2_with fail
  refine (list_cell p _ _ _ _ hc1).mono ?_
  rintro e w1 ⟨rfl, rfl⟩
  go_wp2_with fail
  refine (countBits_any q ws _ HI.out.hq HI.out.len HI.out.wd).mono ?_
  rintro e w1 ⟨rfl, rfl⟩
  go_wp2_with fail
  go_ret
  exact ⟨rfl, rfl⟩
theorem cnt_none (k : Nat) (ws : List Nat) (h : ∀ i, i < k → ws.getD i 0 = 0) (hk : k ≤ ws.length) : cnt k ws = 0 := by
  induction k with
  | zero => exact cnt_zero ws
  | succ k ih =>
    rw [cnt_succ k ws (by omega), ih (fun i hi => h i (by omega)) (by omega), h k (by omega)]
    decide
theorem count_none {p q n : Nat} {S : Nat → Bool} (w : World) (h : SetAt w p q n S) (he : ∀ i, S i = false) :
    Calls Tryd.prog 23 #[.pointer (some ⟨p, 0, none⟩)] w fun e w' => e = .returned (.int .i64 0) ∧ w' = w := by
  obtain ⟨ws, x, hx⟩ := h
  refine (count_words p q n ws w x).mono ?_
  rintro e w' ⟨rfl, rfl⟩
  refine ⟨ret_int ?_, rfl⟩
  rw [cnt_none ws.length ws (fun i hi => ?_) (Nat.le_refl _)]
  · rfl
  · rw [word_zero_iff _ (x.wd.getD i)]
    intro b hb
    rw [← mem_at ws i b hb, hx, he]
end Go.Proofs.YtkagdmhijjfnnaaDoor
