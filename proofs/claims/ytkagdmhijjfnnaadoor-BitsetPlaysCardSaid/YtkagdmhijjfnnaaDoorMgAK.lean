import Derived.Test.YtkagdmhijjfnnaaDoorNext
import Derived.Lib.BitFns
import Derived.Lib.ItoaNum
namespace Go.Proofs.YtkagdmhijjfnnaaDoor
open Go.RowKit Bs
theorem tab_size : (Lib.len8tab.size : Int) = 256 := by rw [Lib.len8tab_size]; rfl
theorem tab_byte (y : Nat) (h : y < Lib.len8tab.size) : ((Lib.len8tab[y]'h).toNat : Int) = Lib.len8 (y : Int) := by
  unfold Lib.len8
  rw [Int.toNat_natCast, getElem?_pos Lib.len8tab y h]
  simp only [Option.getD_some]
theorem len_num (x y : Int) (b : Int) (k : Nat) (hb : b = Lib.len8 (y.toNat : Int)) (hy : y.toNat < 256) (hk : k ≤ 56) (x0 : 0 ≤ x) (x1 : x ≤ 18446744073709551615) (he : y.toNat = x.toNat / 2 ^ k) (hs : 2 ^ k ≤ x.toNat ∨ k = 0) :
    wrap64 ((k : Int) + wrap64 b) = (Lib.bitLen x.toNat : Int) := by
  rw [hb, Lib.len8_of _ (by omega) (by omega), Int.toNat_natCast]
  have l := Lib.bitLen_le8 ⟨y.toNat, hy⟩
  simp only at l
  have s : Lib.bitLen x.toNat = k + Lib.bitLen y.toNat := by
    rcases hs with hs | hs
    · rw [he]; exact Lib.bitLen_shift k x.toNat hs (by omega)
    · subst hs; rw [he, Nat.pow_zero, Nat.div_one, Nat.zero_add]
  rw [s]
  unfold wrap64
  omega
theorem len_end (x y : Int) (k : Nat) (h : y.toNat < Lib.len8tab.size) (hy : y.toNat < 256) (hk : k ≤ 56) (x0 : 0 ≤ x) (x1 : x ≤ 18446744073709551615) (he : y.toNat = x.toNat / 2 ^ k) (hs : 2 ^ k ≤ x.toNat ∨ k = 0) :
    wrap64 ((k : Int) + wrap64 ((Lib.len8tab[y.toNat]'h).toNat : Int)) = (Lib.bitLen x.toNat : Int) :=
  len_num x y _ k (tab_byte _ h) hy hk x0 x1 he hs
theorem len_end0 (x : Int) (h : x.toNat < Lib.len8tab.size) (hy : x.toNat < 256) (x0 : 0 ≤ x) (x1 : x ≤ 18446744073709551615) :
    wrap64 (wrap64 ((Lib.len8tab[x.toNat]'h).toNat : Int)) = (Lib.bitLen x.toNat : Int) := by
  have := len_end x x 0 h hy (by decide) x0 x1 (by rw [Nat.pow_zero, Nat.div_one]) (Or.inr rfl)
  rw [← this]
  congr 1
  exact (Int.zero_add _).symm
set_option maxHeartbeats 4000000 in
set_option maxRecDepth 100000 in
theorem len64i (x : Int) (w : World) (h0 : 0 ≤ x) (h1 : x ≤ 18446744073709551615) :
    Calls Tryd.prog 62 #[.int .u64 x] w fun e w' => e = .returned (.int .i64 (Lib.bitLen x.toNat)) ∧ w' = w := by
  have hsz := tab_size
  go_enter Tryd.func62, Tryd.ntmps62
  conv in (Value.string _) => change Value.string Lib.len8tab
  go_wp2
  all_goals (go_ret; refine ⟨congrArg Ending.returned (congrArg (Value.int IntKind.i64) ?_), rfl⟩)
  · exact len_end x (x / 4294967296 / 65536 / 256) 56 _ (by omega) (by decide) h0 h1 (by omega) (by omega)
  · exact len_end x (x / 4294967296 / 65536) 48 _ (by omega) (by decide) h0 h1 (by omega) (by omega)
  · exact len_end x (x / 4294967296 / 256) 40 _ (by omega) (by decide) h0 h1 (by omega) (by omega)
  · exact len_end x (x / 4294967296) 32 _ (by omega) (by decide) h0 h1 (by omega) (by omega)
  · exact len_end x (x / 65536 / 256) 24 _ (by omega) (by decide) h0 h1 (by omega) (by omega)
  · exact len_end x (x / 65536) 16 _ (by omega) (by decide) h0 h1 (by omega) (by omega)
  · exact len_end x (x / 256) 8 _ (by omega) (by decide) h0 h1 (by omega) (by omega)
  · exact len_end0 x _ (by omega) h0 h1
theorem len64 (x : Nat) (w : World) (h : x < 18446744073709551616) :
    Calls Tryd.prog 62 #[.int .u64 (x : Int)] w fun e w' => e = .returned (.int .i64 (Lib.bitLen x : Nat)) ∧ w' = w := by
  have := len64i (x : Int) w (by omega) (by omega)
  rw [Int.toNat_natCast] at this
  exact this
theorem bitLen_le (x : Nat) (h : x < 18446744073709551616) : Lib.bitLen x ≤ 64 := Lib.bitLen_le x 64 (Nat.le_refl _) h
set_option maxHeartbeats 1000000 in
set_option maxRecDepth 100000 in
theorem lz64 (x : Nat) (w : World) (h : x < 18446744073709551616) :
    Calls Tryd.prog 61 #[.int .u64 (x : Int)] w fun e w' => e = .returned (.int .i64 ((64 - Lib.bitLen x : Nat) : Int)) ∧ w' = w := by
  have hb := bitLen_le x h
  have HL := hid (fun W => len64 x W h)
  obtain ⟨l, hl⟩ : ∃ l, l = Lib.bitLen x := ⟨_, rfl⟩
  rw [← hl] at hb HL ⊢
  have hw : IntKind.i64.wrap (64 - (l : Int)) = ((64 - l : Nat) : Int) := by rw [IntKind.wrap_i64]; omega
  clear hl h
  go_enter Tryd.func61, Tryd.ntmps61
  go_wp2_with (go_at_call 62; refine (HL.out _).mono ?_; rintro e w1 ⟨rfl, hww⟩; subst hww)
  go_ret
  refine ⟨congrArg Ending.returned (congrArg (Value.int IntKind.i64) ?_), rfl⟩
  simp
/-- The highest bit. -/
theorem bitLen_top (x : Nat) (h0 : x ≠ 0) (h : x < 18446744073709551616) : 1 ≤ Lib.bitLen x ∧ x.testBit (Lib.bitLen x - 1) = true ∧ ∀ b, Lib.bitLen x ≤ b → x.testBit b = false := by
  obtain ⟨a, b, c⟩ := Lib.bitLenAux_bounds 64 x h h0
  have e : Lib.bitLen x = Lib.bitLenAux 64 x := rfl
  rw [e]
  generalize Lib.bitLenAux 64 x = L at a b c
  refine ⟨a, ?_, fun b hb => Nat.testBit_lt_two_pow (Nat.lt_of_lt_of_le c (Nat.pow_le_pow_right (by decide) hb))⟩
  obtain ⟨m, rfl⟩ : ∃ m, L = m + 1 := ⟨L - 1, by omega⟩
  rw [Nat.add_sub_cancel] at b ⊢
  rw [Nat.testBit_eq_decide_div_mod_eq, decide_eq_true_iff]
  have : x / 2 ^ m = 1 := by
    rw [Nat.pow_succ] at c
    exact Nat.div_eq_of_lt_le (by omega) (by omega)
  rw [this]
end Go.Proofs.YtkagdmhijjfnnaaDoor
namespace Go.Proofs.YtkagdmhijjfnnaaDoor
open Go.RowKit Bs
/-- r is the greatest member that is i or below, or -1. -/
def IsPrev (n : Nat) (S : Nat → Bool) (i r : Int) : Prop := (∃ j : Nat, r = j ∧ j < n ∧ S j = true ∧ (j : Int) ≤ i ∧ ∀ t : Nat, j < t → (t : Int) ≤ i → S t = false) ∨ (r = -1 ∧ ∀ t : Nat, (t : Int) ≤ i → S t = false)
theorem IsPrev.one {n : Nat} {S : Nat → Bool} {i r r' : Int} (h : IsPrev n S i r) (h' : IsPrev n S i r') : r = r' := by
  rcases h with ⟨j, rfl, hj, hs, hi, ha⟩ | ⟨rfl, ha⟩ <;> rcases h' with ⟨j', rfl, hj', hs', hi', ha'⟩ | ⟨rfl, ha'⟩
  · rcases Nat.lt_trichotomy j j' with c | c | c
    · rw [ha j' c hi'] at hs'; cases hs'
    · rw [c]
    · rw [ha' j c hi] at hs; cases hs
  · rw [ha' j hi] at hs; cases hs
  · rw [ha j' hi'] at hs'; cases hs'
  · rfl
theorem shl_wrap (x k : Nat) : IntKind.u64.wrap ((x : Int) * 2 ^ k) = ((x * 2 ^ k % 18446744073709551616 : Nat) : Int) := by
  rw [IntKind.wrap_u64, pow_cast, ← Int.natCast_mul]; omega
theorem shl_testBit (x k b : Nat) (h : k + b < 64) : (x * 2 ^ k % 18446744073709551616).testBit (k + b) = x.testBit b := by
  rw [show (18446744073709551616 : Nat) = 2 ^ 64 from rfl, Nat.testBit_mod_two_pow, decide_eq_true h, Bool.true_and, ← Nat.shiftLeft_eq, Nat.testBit_shiftLeft, decide_eq_true (show k + b ≥ k by omega), Bool.true_and, Nat.add_sub_cancel_left]
theorem shl_low (x k b : Nat) (h : b < k) : (x * 2 ^ k % 18446744073709551616).testBit b = false := by
  rw [show (18446744073709551616 : Nat) = 2 ^ 64 from rfl, Nat.testBit_mod_two_pow, ← Nat.shiftLeft_eq, Nat.testBit_shiftLeft, decide_eq_false (show ¬ b ≥ k by omega), Bool.false_and, Bool.and_false]
theorem shl_high (x k b : Nat) (h : 64 ≤ b) : (x * 2 ^ k % 18446744073709551616).testBit b = false := by
  rw [show (18446744073709551616 : Nat) = 2 ^ 64 from rfl, Nat.testBit_mod_two_pow, decide_eq_false (show ¬ b < 64 by omega), Bool.false_and]
set_option maxRecDepth 100000 in
set_option maxHeartbeats 2000000 in
theorem prev_none (p n : Nat) (i i0 : Int) (w : World) (hc0 : w.cell? ⟨p, 0, none⟩ = some (.int .i64 n)) (hn : n ≤ 65536) (hmin : min i ((n : Int) - 1) = i0) (hneg : i0 < 0) :
    Calls Tryd.prog 32 #[.pointer (some ⟨p, 0, none⟩), .int .i64 i] w fun e w' => e = .returned (.int .i64 (-1)) ∧ ∃ m, w' = w.drewN m := by
  go_enter Tryd.func32, Tryd.ntmps32
  go_wp2_with (go_at_call 26; refine (size_cell p n _ hc0).mono ?_; rintro e w1 ⟨rfl, hww⟩; subst hww)
  go_ret
  exact ⟨rfl, 0, rfl⟩
set_option maxRecDepth 100000 in
set_option maxHeartbeats 4000000 in
theorem prev_words (p q n i0 : Nat) (i : Int) (ws : List Nat) (w : World) (h : IsSet w p q n ws) (hmin : min i ((n : Int) - 1) = (i0 : Int)) (hi : i0 < n) :
    Calls Tryd.prog 32 #[.pointer (some ⟨p, 0, none⟩), .int .i64 i] w fun e w' => ∃ r, e = .returned (.int .i64 r) ∧ IsPrev n (mem ws) i0 r ∧ ∃ m, w' = w.drewN m := by
  have hc0 := h.c0
  have hc1 := h.c1
  have hl := h.hl
  have hn := h.hn
  unfold nw at hl
  obtain ⟨d, hd⟩ : ∃ d, d = i0 / 64 := ⟨_, rfl⟩
  obtain ⟨r, hr⟩ : ∃ r, r = i0 % 64 := ⟨_, rfl⟩
  have hdl : d < ws.length := by omega
  have hr64 : r < 64 := by omega
  have hd1 : (i0 : Int) / 64 = (d : Int) := by omega
  have hd2 : IntKind.i64.wrap (d : Int) = (d : Int) := by rw [IntKind.wrap_i64]; omega
  have hr1 : (i0 : Int).tmod 64 = (r : Int) := by rw [hr]; exact idx_mod i0
  have hx := h.cw d hdl
  obtain ⟨x, hxe⟩ : ∃ x, x = ws.getD d 0 := ⟨_, rfl⟩
  have hxb := h.wd.getD d
  rw [← hxe] at hx hxb
  have HI := hid h
  have HX := hid hxe
  have HXB := hid hxb
  have hlen := h.len
  have hdl2 : (d : Int) < (ws.length : Int) := by omega
  have HID := hid (show i0 = 64 * d + r by omega)
  obtain ⟨y, hy⟩ : ∃ y, y = x * 2 ^ (63 - r) % 18446744073709551616 := ⟨_, rfl⟩
  have hsh : IntKind.u64.wrap ((x : Int) * 2 ^ (63 - r)) = (y : Int) := by rw [hy]; exact shl_wrap x (63 - r)
  have HY := hid hy
  have HYB := hid (show y < 18446744073709551616 by rw [hy]; exact Nat.mod_lt _ (by decide))
  have hi0b : i0 ≤ 65536 := by omega
  clear h hxe hxb hd hr hl hy
  by_cases hy0 : y = 0
  · have hb : ((y : Int) != 0) = false := by rw [hy0]; rfl
    have HY0 := hid hy0
    clear hy0
    have HNO := hid (show ∀ t : Nat, t ≤ i0 → t / 64 = d → mem ws t = false from fun t h1 h2 => by
      have a := HID.out
      have hb : (x * 2 ^ (63 - r) % 18446744073709551616).testBit (63 - r + t % 64) = false := by rw [← HY.out, HY0.out]; simp
      rw [shl_testBit x _ _ (by omega)] at hb
      unfold mem
      rw [h2, ← HX.out]
      exact hb)
    go_enter Tryd.func32, Tryd.ntmps32
    go_wp2_with (go_at_call 26; refine (size_cell p n _ hc0).mono ?_; rintro e w1 ⟨rfl, hww⟩; subst hww)
    go_loop [5] (fun v => ∃ e : Nat, e ≤ d ∧ v = .int .i64 ((e : Int) - 1) ∧ ∀ t : Nat, t ≤ i0 → e ≤ t / 64 → mem ws t = false) (fun v => (intOf v + 1).toNat)
    case atStart =>
      exact ⟨d, Nat.le_refl _, by go_num, fun t h1 h2 => HNO.out t h1 (by have := HID.out; omega)⟩
    case round =>
      obtain ⟨e, he1, hv, hall⟩ := hrel
      have HA := hid hall
      clear hall
      cases e with
      | zero =>
        obtain rfl := (show _ = Value.int .i64 (-1) from hv)
        clear hv
        go_wp2_with fail
        go_ret
        exact ⟨_, rfl, Or.inr ⟨rfl, fun t h1 => HA.out t (by omega) (Nat.zero_le _)⟩, 0, rfl⟩
      | succ e =>
        rw [show ((e + 1 : Nat) : Int) - 1 = (e : Int) by omega] at hv
        obtain rfl := hv
        have hlt : e < ws.length := by omega
        have hcz := HI.out.cw e hlt
        have hzb := HI.out.wd.getD e
        obtain ⟨z, hz⟩ : ∃ z, z = ws.getD e 0 := ⟨_, rfl⟩
        rw [← hz] at hcz hzb
        have HZ := hid hz
        have hel : (e : Int) < (ws.length : Int) := by omega
        clear hz
        by_cases hz0 : z = 0
        · have hb2 : ((z : Int) != 0) = false := by rw [hz0]; rfl
          have HN := hid (show ∀ t : Nat, t ≤ i0 → e ≤ t / 64 → mem ws t = false from fun t h1 h2 => by
            by_cases c : e + 1 ≤ t / 64
            · exact HA.out t h1 c
            · exact zero_word ws e (by rw [← HZ.out]; exact hz0) t (by omega))
          clear hz0 hzb
          go_wp2_with fail
          go_round
          case rel => exact ⟨e, by omega, by go_num, HN.out⟩
          case measure => simp [intOf]
        · have hb2 : ((z : Int) != 0) = true := by rw [bne_iff_ne]; omega
          have hcb := bitLen_top z hz0 hzb
          have HLN := hid (fun W => len64 z W hzb)
          have hcc := bitLen_le z hzb
          obtain ⟨c, hc⟩ : ∃ c, c = Lib.bitLen z := ⟨_, rfl⟩
          rw [← hc] at hcb hcc HLN
          have hc1' := hcb.1
          have HCB := hid hcb.2.1
          have HCL := hid hcb.2.2
          have hem : (e : Int) ≤ 1024 := by omega
          clear hc hcb hz0 hzb
          go_wp2_with (go_at_call 62; refine (HLN.out _).mono ?_; rintro e w1 ⟨rfl, hww⟩; subst hww)
          go_ret
          have a := HID.out
          refine ⟨_, rfl, Or.inl ⟨64 * e + (c - 1), by omega, ?_, ?_, ?_, ?_⟩, 0, rfl⟩
          · apply Classical.byContradiction
            intro c0
            have := HI.out.cl (64 * e + (c - 1)) (by omega)
            rw [mem_at ws e (c - 1) (by omega), ← HZ.out, HCB.out] at this
            cases this
          · rw [mem_at ws e (c - 1) (by omega), ← HZ.out]; exact HCB.out
          · omega
          · intro t h1 h2
            by_cases c0 : e + 1 ≤ t / 64
            · exact HA.out t (by omega) c0
            · have e1 : t / 64 = e := by omega
              unfold mem
              rw [e1, ← HZ.out]
              exact HCL.out _ (by omega)
  · have hb : ((y : Int) != 0) = true := by rw [bne_iff_ne]; omega
    have hcb := bitLen_top y hy0 HYB.out
    have HLN := hid (fun W => lz64 y W HYB.out)
    have hcc := bitLen_le y HYB.out
    obtain ⟨c, hc⟩ : ∃ c, c = Lib.bitLen y := ⟨_, rfl⟩
    rw [← hc] at hcb hcc HLN
    have hc1' := hcb.1
    have HK := hid (show 63 - r ≤ c - 1 by
      apply Classical.byContradiction
      intro c0
      have := shl_low x (63 - r) (c - 1) (by omega)
      rw [← HY.out, hcb.2.1] at this
      cases this)
    obtain ⟨u, hu⟩ : ∃ u, c = (63 - r) + u + 1 := ⟨c - 1 - (63 - r), by have := HK.out; omega⟩
    have HU := hid hu
    have HCB := hid (show x.testBit u = true by
      have := hcb.2.1
      rw [HY.out, show c - 1 = 63 - r + u by omega, shl_testBit x _ _ (by omega)] at this
      exact this)
    have HCL := hid (show ∀ b, u < b → b ≤ r → x.testBit b = false from fun b h1 h2 => by
      have := hcb.2.2 (63 - r + b) (by omega)
      rw [HY.out, shl_testBit x _ _ (by omega)] at this
      exact this)
    have hur : 64 - c + u = r := by omega
    have HUR := hid hur
    have hcs : ((64 - c : Nat) : Int) ≤ 64 := by omega
    clear hc hcb hy0 hu hur
    go_enter Tryd.func32, Tryd.ntmps32
    go_wp2_with (first | (go_at_call 26; refine (size_cell p n _ hc0).mono ?_; rintro e w1 ⟨rfl, hww⟩; subst hww) | (go_at_call 61; refine (HLN.out _).mono ?_; rintro e w1 ⟨rfl, hww⟩; subst hww))
    go_ret
    have a := HID.out
    have b := HUR.out
    refine ⟨_, rfl, Or.inl ⟨64 * d + u, by omega, by omega, ?_, by omega, ?_⟩, 0, rfl⟩
    · rw [mem_at ws d u (by omega), ← HX.out]; exact HCB.out
    · intro t h1 h2
      unfold mem
      rw [show t / 64 = d by omega, ← HX.out]
      exact HCL.out _ (by omega) (by omega)
/-- Prev. -/
theorem prev_set {p q n : Nat} {S : Nat → Bool} (i r : Int) (w : World) (h : SetAt w p q n S) (hr : IsPrev n S i r) :
    Calls Tryd.prog 32 #[.pointer (some ⟨p, 0, none⟩), .int .i64 i] w fun e w' => e = .returned (.int .i64 r) ∧ ∃ m, w' = w.drewN m := by
  have hcl := h.cl
  obtain ⟨ws, x, hx⟩ := h
  have e : mem ws = S := funext hx
  subst e
  by_cases hneg : min i ((n : Int) - 1) < 0
  · refine (prev_none p n i _ w x.c0 x.hn rfl hneg).mono ?_
    rintro e w' ⟨rfl, hw⟩
    refine ⟨ret_int (IsPrev.one (Or.inr ⟨rfl, fun t h1 => ?_⟩) hr), hw⟩
    exact hcl t (by omega)
  · obtain ⟨i0, hi0⟩ : ∃ i0 : Nat, min i ((n : Int) - 1) = (i0 : Int) := ⟨(min i ((n : Int) - 1)).toNat, by omega⟩
    refine (prev_words p q n i0 i ws w x hi0 (by omega)).mono ?_
    rintro e w' ⟨r', rfl, hs, hw⟩
    refine ⟨ret_int (IsPrev.one (n := n) (S := mem ws) (i := i) ?_ hr), hw⟩
    rcases hs with ⟨j, rfl, hj, hs, hi, ha⟩ | ⟨rfl, ha⟩
    · refine Or.inl ⟨j, rfl, hj, hs, by omega, fun t h1 h2 => ?_⟩
      by_cases c : t < n
      · exact ha t h1 (by omega)
      · exact hcl t (by omega)
    · refine Or.inr ⟨rfl, fun t h2 => ?_⟩
      by_cases c : t < n
      · exact ha t (by omega)
      · exact hcl t (by omega)
end Go.Proofs.YtkagdmhijjfnnaaDoor
