import Derived.Test.YtkagdmhijjfnnaaDoorMgAJ
namespace Go.Proofs.YtkagdmhijjfnnaaDoor
open Go.RowKit Bs
/-- r is the least member that is i or above, or -1. -/
def IsNext (n : Nat) (S : Nat → Bool) (i r : Int) : Prop := (∃ j : Nat, r = j ∧ j < n ∧ S j = true ∧ i ≤ j ∧ ∀ t : Nat, i ≤ t → t < j → S t = false) ∨ (r = -1 ∧ ∀ t : Nat, i ≤ t → S t = false)
theorem IsNext.one {n : Nat} {S : Nat → Bool} {i r r' : Int} (h : IsNext n S i r) (h' : IsNext n S i r') : r = r' := by
  rcases h with ⟨j, rfl, hj, hs, hi, ha⟩ | ⟨rfl, ha⟩ <;> rcases h' with ⟨j', rfl, hj', hs', hi', ha'⟩ | ⟨rfl, ha'⟩
  · rcases Nat.lt_trichotomy j j' with c | c | c
    · rw [ha' j hi c] at hs; cases hs
    · rw [c]
    · rw [ha j' hi' c] at hs'; cases hs'
  · rw [ha' j hi] at hs; cases hs
  · rw [ha j' hi'] at hs'; cases hs'
  · rfl
theorem IsNext.ex (n : Nat) (S : Nat → Bool) (i : Int) (hc : ∀ t, n ≤ t → S t = false) : ∃ r, IsNext n S i r := by
  by_cases h : ∃ t : Nat, i ≤ t ∧ S t = true
  · obtain ⟨t, h1, h2⟩ := h
    have key : ∀ m, ∀ t : Nat, t ≤ m → i ≤ t → S t = true → ∃ j : Nat, S j = true ∧ i ≤ j ∧ ∀ t : Nat, i ≤ t → t < j → S t = false := by
      intro m
      induction m with
      | zero => intro t ht h1 h2; exact ⟨t, h2, h1, fun u _ hu => by omega⟩
      | succ m ih =>
        intro t ht h1 h2
        by_cases c : ∃ u : Nat, u < t ∧ i ≤ u ∧ S u = true
        · obtain ⟨u, u1, u2, u3⟩ := c
          exact ih u (by omega) u2 u3
        · refine ⟨t, h2, h1, fun u u1 u2 => ?_⟩
          cases e : S u
          · rfl
          · exact absurd ⟨u, u2, u1, e⟩ c
    obtain ⟨j, a, b, c⟩ := key t t (Nat.le_refl _) h1 h2
    refine ⟨j, Or.inl ⟨j, rfl, ?_, a, b, c⟩⟩
    apply Classical.byContradiction
    intro d
    rw [hc j (by omega)] at a; cases a
  · refine ⟨-1, Or.inr ⟨rfl, fun t ht => ?_⟩⟩
    cases e : S t
    · rfl
    · exact absurd ⟨t, ht, e⟩ h
theorem zero_word (ws : List Nat) (e : Nat) (h : ws.getD e 0 = 0) (t : Nat) (ht : t / 64 = e) : mem ws t = false := by
  unfold mem; rw [ht, h]; simp
theorem shr_num (x r : Nat) : (x : Int) / 2 ^ r = ((x / 2 ^ r : Nat) : Int) := by rw [pow_cast, Int.natCast_ediv]
theorem shr_testBit (x r b : Nat) : (x / 2 ^ r).testBit b = x.testBit (r + b) := by rw [← Nat.shiftRight_eq_div_pow, Nat.testBit_shiftRight]
set_option maxRecDepth 100000 in
set_option maxHeartbeats 2000000 in
theorem next_far (p n : Nat) (i i0 : Int) (w : World) (hc0 : w.cell? ⟨p, 0, none⟩ = some (.int .i64 n)) (hmax : max i 0 = i0) (hge : ¬ (0 ≤ i0 ∧ i0 < n)) :
    Calls Tryd.prog 31 #[.pointer (some ⟨p, 0, none⟩), .int .i64 i] w fun e w' => e = .returned (.int .i64 (-1)) ∧ ∃ m, w' = w.drewN m := by
  have HG := hid hge
  clear hge
  go_enter Tryd.func31, Tryd.ntmps31
  go_wp2_with (go_at_call 59; refine (inside_no p n i0 _ hc0 HG.out).mono ?_; rintro e w1 ⟨rfl, hww⟩; subst hww)
  go_ret
  exact ⟨rfl, 0, rfl⟩
set_option maxRecDepth 100000 in
set_option maxHeartbeats 4000000 in
theorem next_words (p q n i0 : Nat) (i : Int) (ws : List Nat) (w : World) (h : IsSet w p q n ws) (ht : Tab w) (hmax : max i 0 = (i0 : Int)) (hi : i0 < n) :
    Calls Tryd.prog 31 #[.pointer (some ⟨p, 0, none⟩), .int .i64 i] w fun e w' => ∃ r, e = .returned (.int .i64 r) ∧ IsNext n (mem ws) i r ∧ ∃ m, w' = w.drewN m := by
  have hc0 := h.c0
  have hc1 := h.c1
  have hl := h.hl
  have hn := h.hn
  unfold nw at hl
  obtain ⟨d, hd⟩ : ∃ d, d = i0 / 64 := ⟨_, rfl⟩
  obtain ⟨r, hr⟩ : ∃ r, r = i0 % 64 := ⟨_, rfl⟩
  have hdl : d < ws.length := by omega
  have hr64 : r < 64 := by omega
  have hd1 : (i0 : Int) / 64 = (d : Int) := by omega
  have hd2 : IntKind.i64.wrap (d : Int) = (d : Int) := by rw [IntKind.wrap_i64]; omega
  have hr1 : (i0 : Int).tmod 64 = (r : Int) := by rw [hr]; exact idx_mod i0
  have hx := h.cw d hdl
  obtain ⟨x, hxe⟩ : ∃ x, x = ws.getD d 0 := ⟨_, rfl⟩
  have hxb := h.wd.getD d
  rw [← hxe] at hx hxb
  have HI := hid h
  have HT := hid ht
  have HX := hid hxe
  have HXB := hid hxb
  have hlen := h.len
  have hdl2 : (d : Int) < (ws.length : Int) := by omega
  have HID := hid (show i0 = 64 * d + r by omega)
  obtain ⟨y, hy⟩ : ∃ y, y = x / 2 ^ r := ⟨_, rfl⟩
  have hsh : (x : Int) / 2 ^ r = (y : Int) := by rw [hy]; exact shr_num x r
  have HY := hid hy
  have HYB := hid (show y < 18446744073709551616 by rw [hy]; exact Nat.lt_of_le_of_lt (Nat.div_le_self _ _) hxb)
  have hi0b : i0 ≤ 65536 := by omega
  clear h ht hxe hxb hd hr hl hy
  by_cases hy0 : y = 0
  · have hb : ((y : Int) != 0) = false := by rw [hy0]; rfl
    have HY0 := hid hy0
    clear hy0
    go_enter Tryd.func31, Tryd.ntmps31
    go_wp2_with (go_at_call 59; refine (inside_yes p n i0 _ hc0 (by omega) (by omega)).mono ?_; rintro e w1 ⟨rfl, hww⟩; subst hww)
    have HNO := hid (show ∀ t : Nat, i0 ≤ t → t / 64 = d → mem ws t = false from fun t h1 h2 => by
      have a := HID.out
      have hb : (x / 2 ^ r).testBit (t - i0) = false := by rw [← HY.out, HY0.out]; simp
      rw [shr_testBit] at hb
      unfold mem
      rw [h2, ← HX.out, show t % 64 = r + (t - i0) by omega]
      exact hb)
    have hst : d + 1 ≤ ws.length := by omega
    go_loop [5] (fun v => ∃ e : Nat, d + 1 ≤ e ∧ e ≤ ws.length ∧ v = .int .i64 e ∧ ∀ t : Nat, i0 ≤ t → t / 64 < e → mem ws t = false) (fun v => ws.length - (intOf v).toNat)
    case atStart =>
      exact ⟨d + 1, Nat.le_refl _, hst, by go_num, fun t h1 h2 => HNO.out t h1 (by have := HID.out; omega)⟩
    case round =>
      obtain ⟨e, he1, he2, rfl, hall⟩ := hrel
      have HA := hid hall
      clear hall
      by_cases hlt : e < ws.length
      · have hcz := HI.out.cw e hlt
        have hzb := HI.out.wd.getD e
        obtain ⟨z, hz⟩ : ∃ z, z = ws.getD e 0 := ⟨_, rfl⟩
        rw [← hz] at hcz hzb
        have HZ := hid hz
        have hel : (e : Int) < (ws.length : Int) := by omega
        clear hz
        by_cases hz0 : z = 0
        · have hb2 : ((z : Int) != 0) = false := by rw [hz0]; rfl
          have HN := hid (show ∀ t : Nat, i0 ≤ t → t / 64 < e + 1 → mem ws t = false from fun t h1 h2 => by
            by_cases c : t / 64 < e
            · exact HA.out t h1 c
            · exact zero_word ws e (by rw [← HZ.out]; exact hz0) t (by omega))
          clear hz0 hzb
          go_wp2_with fail
          go_round
          case rel => exact ⟨e + 1, by omega, by omega, by go_num, HN.out⟩
          case measure => simp [intOf]; omega
        · have hb2 : ((z : Int) != 0) = true := by rw [bne_iff_ne]; omega
          have hcb := ctz_bit z hz0 hzb
          have hcl := fun b => ctz_low z b hz0 hzb
          have HTZ := hid (fun W (h : Tab W) => tz_all z W hzb h)
          obtain ⟨c, hc⟩ : ∃ c, c = Lib.ctz 64 z := ⟨_, rfl⟩
          rw [← hc] at hcb hcl HTZ
          have hcc : c < 64 := hcb.2
          have HCB := hid hcb.1
          have HCL := hid hcl
          have hem : (e : Int) ≤ 1024 := by omega
          clear hc hcb hcl hz0 hzb
          go_wp2_with (go_at_call 58; refine (HTZ.out _ HT.out).mono ?_; rintro e w1 ⟨rfl, hww⟩; subst hww)
          go_ret
          refine ⟨_, rfl, Or.inl ⟨64 * e + c, by omega, ?_, ?_, ?_, ?_⟩, 0, rfl⟩
          · apply Classical.byContradiction
            intro c0
            have := HI.out.cl (64 * e + c) (by omega)
            rw [mem_at ws e c hcc, ← HZ.out, HCB.out] at this
            cases this
          · rw [mem_at ws e c hcc, ← HZ.out]; exact HCB.out
          · have := HID.out; omega
          · intro t h1 h2
            by_cases c0 : t / 64 < e
            · exact HA.out t (by omega) c0
            · have e1 : t / 64 = e := by omega
              unfold mem
              rw [e1, ← HZ.out]
              exact HCL.out _ (by omega)
      · have e1 : e = ws.length := by omega
        go_wp2_with fail
        go_ret
        refine ⟨_, rfl, Or.inr ⟨rfl, fun t h1 => ?_⟩, 0, rfl⟩
        by_cases c0 : t / 64 < e
        · exact HA.out t (by omega) c0
        · exact mem_out ws t (by omega)
  · have hb : ((y : Int) != 0) = true := by rw [bne_iff_ne]; omega
    have hcb := ctz_bit y hy0 HYB.out
    have hcl := fun b => ctz_low y b hy0 HYB.out
    have HTZ := hid (fun W (h : Tab W) => tz_all y W HYB.out h)
    have hct := ctz_le y HYB.out
    obtain ⟨c, hc⟩ : ∃ c, c = Lib.ctz 64 y := ⟨_, rfl⟩
    rw [← hc] at hcb hcl HTZ hct
    have HCB := hid (show x.testBit (r + c) = true by rw [← shr_testBit, ← HY.out]; exact hcb.1)
    have HCL := hid (show ∀ b, b < c → x.testBit (r + b) = false from fun b hb => by rw [← shr_testBit, ← HY.out]; exact hcl b hb)
    have HRC := hid (show r + c < 64 by
      apply Classical.byContradiction
      intro c0
      have := Nat.testBit_lt_two_pow (Nat.lt_of_lt_of_le HXB.out (Nat.pow_le_pow_right (n := 2) (by decide) (show 64 ≤ r + c by omega)))
      rw [HCB.out] at this
      cases this)
    clear hc hcb hcl hy0
    go_enter Tryd.func31, Tryd.ntmps31
    go_wp2_with (first | (go_at_call 59; refine (inside_yes p n i0 _ hc0 (by omega) (by omega)).mono ?_; rintro e w1 ⟨rfl, hww⟩; subst hww) | (go_at_call 58; refine (HTZ.out _ HT.out).mono ?_; rintro e w1 ⟨rfl, hww⟩; subst hww))
    go_ret
    refine ⟨_, rfl, Or.inl ⟨i0 + c, by omega, ?_, ?_, ?_, ?_⟩, 0, rfl⟩
    · apply Classical.byContradiction
      intro c0
      have a := HID.out
      have := HI.out.cl (i0 + c) (by omega)
      rw [show i0 + c = 64 * d + (r + c) by omega, mem_at ws d (r + c) HRC.out, ← HX.out, HCB.out] at this
      cases this
    · have a := HID.out
      rw [show i0 + c = 64 * d + (r + c) by omega, mem_at ws d (r + c) HRC.out, ← HX.out]
      exact HCB.out
    · omega
    · intro t h1 h2
      have a := HID.out
      have b := HRC.out
      unfold mem
      rw [show t / 64 = d by omega, ← HX.out, show t % 64 = r + (t - i0) by omega]
      exact HCL.out _ (by omega)
/-- Next. -/
theorem next_set {p q n : Nat} {S : Nat → Bool} (i r : Int) (w : World) (h : SetAt w p q n S) (ht : Tab w) (hr : IsNext n S i r) :
    Calls Tryd.prog 31 #[.pointer (some ⟨p, 0, none⟩), .int .i64 i] w fun e w' => e = .returned (.int .i64 r) ∧ ∃ m, w' = w.drewN m := by
  have hcl := h.cl
  obtain ⟨ws, x, hx⟩ := h
  have e : mem ws = S := funext hx
  subst e
  obtain ⟨i0, hi0⟩ : ∃ i0 : Nat, max i 0 = (i0 : Int) := ⟨(max i 0).toNat, by omega⟩
  by_cases hlt : i0 < n
  · refine (next_words p q n i0 i ws w x ht hi0 hlt).mono ?_
    rintro e w' ⟨r', rfl, hs, hw⟩
    exact ⟨ret_int (hs.one hr), hw⟩
  · refine (next_far p n i i0 w x.c0 hi0 (by omega)).mono ?_
    rintro e w' ⟨rfl, hw⟩
    refine ⟨ret_int (IsNext.one (Or.inr ⟨rfl, fun t h1 => ?_⟩) hr), hw⟩
    exact hcl t (by omega)
end Go.Proofs.YtkagdmhijjfnnaaDoor
