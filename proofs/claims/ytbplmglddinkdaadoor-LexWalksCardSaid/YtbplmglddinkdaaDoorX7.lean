import Derived.Test.YtbplmglddinkdaaDoorX6
namespace Go.Proofs.YtbplmglddinkdaaDoor.L
open Go.RowKit Go.Shelf
set_option linter.unusedVariables false
theorem iv_inj {a b : UInt8} (h : iv a = iv b) : a = b := by
  apply UInt8.toNat_inj.1
  unfold iv at h
  omega
theorem ne_iv {a : UInt8} {n : UInt8} (h : a ≠ n) : (iv a == iv n) = false := by
  simp
  intro e
  exact h (iv_inj e)
set_option maxHeartbeats 4000000 in
theorem rescp_fix (s : ByteArray) (k : Nat) (w : World) (hk : k ≤ 9007199254740992) (a v : UInt8) (ha : bt s (k + 1) = a) (h : (a = 34 ∧ v = 34) ∨ (a = 92 ∧ v = 92) ∨ (a = 110 ∧ v = 10) ∨ (a = 116 ∧ v = 9) ∨ (a = 114 ∧ v = 13)) :
    Calls Tryd.prog 46 #[.string s, .int .i64 (k : Int)] w fun e w' => e = .returned (.tuple #[.int .u8 (iv v), .int .i64 2]) ∧ w' = w := by
  have HB := hid (fun W => rbyte_any s (k + 1) W)
  rw [ha] at HB
  rcases h with ⟨rfl, rfl⟩ | ⟨rfl, rfl⟩ | ⟨rfl, rfl⟩ | ⟨rfl, rfl⟩ | ⟨rfl, rfl⟩ <;>
  · go_enter Tryd.func46, Tryd.ntmps46
    go_wp2_with (go_at_call 33; refine (HB.out _).mono ?_; rintro e w1 ⟨rfl, hww⟩; subst hww)
    go_ret2
    exact ⟨rfl, rfl⟩
set_option maxHeartbeats 4000000 in
theorem rescp_not (s : ByteArray) (k : Nat) (w : World) (hk : k ≤ 9007199254740992) (h1 : bt s (k + 1) ≠ 34) (h2 : bt s (k + 1) ≠ 92) (h3 : bt s (k + 1) ≠ 110) (h4 : bt s (k + 1) ≠ 116) (h5 : bt s (k + 1) ≠ 114) (h6 : bt s (k + 1) ≠ 120) :
    Calls Tryd.prog 46 #[.string s, .int .i64 (k : Int)] w fun e w' => e = .returned (.tuple #[.int .u8 0, .int .i64 0]) ∧ w' = w := by
  have HB := hid (fun W => rbyte_any s (k + 1) W)
  have g1 := ne_iv h1
  have g2 := ne_iv h2
  have g3 := ne_iv h3
  have g4 := ne_iv h4
  have g5 := ne_iv h5
  have g6 := ne_iv h6
  clear h1 h2 h3 h4 h5 h6
  generalize iv (bt s (k + 1)) = x at *
  rw [show iv 34 = 34 from rfl] at g1
  rw [show iv 92 = 92 from rfl] at g2
  rw [show iv 110 = 110 from rfl] at g3
  rw [show iv 116 = 116 from rfl] at g4
  rw [show iv 114 = 114 from rfl] at g5
  rw [show iv 120 = 120 from rfl] at g6
  go_enter Tryd.func46, Tryd.ntmps46
  go_wp2_with (go_at_call 33; refine (HB.out _).mono ?_; rintro e w1 ⟨rfl, hww⟩; subst hww)
  go_ret2
  exact ⟨rfl, rfl⟩
set_option maxHeartbeats 8000000 in
theorem rescp_hex (s : ByteArray) (k : Nat) (w : World) (hk : k ≤ 9007199254740992) (h : bt s (k + 1) = 120) :
    Calls Tryd.prog 46 #[.string s, .int .i64 (k : Int)] w fun e w' => e = .returned (.tuple #[.int .u8 (iv (esc3 s k).1), .int .i64 (esc3 s k).2]) ∧ w' = w := by
  have HB := hid (fun W => rbyte_any s (k + 1) W)
  have HB2 := hid (fun W => rbyte_any s (k + 2) W)
  have HB3 := hid (fun W => rbyte_any s (k + 3) W)
  rw [h, show iv 120 = 120 from rfl, show ((k + 1 : Nat) : Int) = (k : Int) + 1 by omega] at HB
  rw [show ((k + 2 : Nat) : Int) = (k : Int) + 2 by omega] at HB2
  rw [show ((k + 3 : Nat) : Int) = (k : Int) + 3 by omega] at HB3
  have HY := hid (fun W => rhex_any (iv (bt s (k + 2))) W (iv_lt _))
  have HZ := hid (fun W => rhex_any (iv (bt s (k + 3))) W (iv_lt _))
  have ry := hex_range (bt s (k + 2))
  have rz := hex_range (bt s (k + 3))
  have HE := hid (show esc3 s k = if 0 ≤ hexv (iv (bt s (k + 2))) ∧ 0 ≤ hexv (iv (bt s (k + 3))) then (UInt8.ofNat (16 * hexv (iv (bt s (k + 2))) + hexv (iv (bt s (k + 3)))).toNat, 4) else (0, 0) by
    unfold esc3 escV
    rw [h]
    simp)
  generalize esc3 s k = E at *
  generalize iv (bt s (k + 2)) = y at *
  generalize iv (bt s (k + 3)) = z at *
  generalize hexv y = p at *
  generalize hexv z = q at *
  clear h
  by_cases c : 0 ≤ p ∧ 0 ≤ q
  · rw [Hid, if_pos c] at HE
    obtain ⟨c1, c2⟩ := c
    have HE := hid HE
    have hp : p ≤ 15 := by omega
    have hq : q ≤ 15 := by omega
    clear ry rz
    go_enter Tryd.func46, Tryd.ntmps46
    go_wp2_with (first | (go_at_call 33; (first | (with_reducible refine (HB.out _).mono ?_) | (with_reducible refine (HB2.out _).mono ?_) | (with_reducible refine (HB3.out _).mono ?_)); rintro e w1 ⟨rfl, hww⟩; subst hww) | (go_at_call 60; (first | (with_reducible refine (HY.out _).mono ?_) | (with_reducible refine (HZ.out _).mono ?_)); rintro e w1 ⟨rfl, hww⟩; subst hww))
    go_ret2
    refine ⟨?_, rfl⟩
    rw [HE.out]
    have e1 : (16 * p + q) = iv (UInt8.ofNat (16 * p + q).toNat) := by
      unfold iv
      simp
      omega
    show Ending.returned (.tuple #[.int .u8 (16 * p + q), .int .i64 4]) = _
    rw [show Value.int .u8 (16 * p + q) = Value.int .u8 (iv (UInt8.ofNat (16 * p + q).toNat)) from congrArg _ e1]
    rfl
  · rw [Hid, if_neg c] at HE
    subst HE
    by_cases cp : p = -1
    · subst cp
      clear c ry
      go_enter Tryd.func46, Tryd.ntmps46
      go_wp2_with (first | (go_at_call 33; (first | (with_reducible refine (HB.out _).mono ?_) | (with_reducible refine (HB2.out _).mono ?_) | (with_reducible refine (HB3.out _).mono ?_)); rintro e w1 ⟨rfl, hww⟩; subst hww) | (go_at_call 60; (first | (with_reducible refine (HY.out _).mono ?_) | (with_reducible refine (HZ.out _).mono ?_)); rintro e w1 ⟨rfl, hww⟩; subst hww))
      go_ret2
      exact ⟨rfl, rfl⟩
    · have cq : q = -1 := by omega
      have cp' : 0 ≤ p := by omega
      subst cq
      clear c rz
      go_enter Tryd.func46, Tryd.ntmps46
      go_wp2_with (first | (go_at_call 33; (first | (with_reducible refine (HB.out _).mono ?_) | (with_reducible refine (HB2.out _).mono ?_) | (with_reducible refine (HB3.out _).mono ?_)); rintro e w1 ⟨rfl, hww⟩; subst hww) | (go_at_call 60; (first | (with_reducible refine (HY.out _).mono ?_) | (with_reducible refine (HZ.out _).mono ?_)); rintro e w1 ⟨rfl, hww⟩; subst hww))
      go_ret2
      exact ⟨rfl, rfl⟩
theorem rescp_any (s : ByteArray) (k : Nat) (w : World) (hk : k ≤ 9007199254740992) :
    Calls Tryd.prog 46 #[.string s, .int .i64 (k : Int)] w fun e w' => e = .returned (.tuple #[.int .u8 (iv (esc3 s k).1), .int .i64 (esc3 s k).2]) ∧ w' = w := by
  by_cases c1 : bt s (k + 1) = 34
  · rw [show esc3 s k = (34, 2) by unfold esc3; rw [c1]; simp [escV]]
    exact rescp_fix s k w hk 34 34 c1 (by simp)
  by_cases c2 : bt s (k + 1) = 92
  · rw [show esc3 s k = (92, 2) by unfold esc3; rw [c2]; simp [escV]]
    exact rescp_fix s k w hk 92 92 c2 (by simp)
  by_cases c3 : bt s (k + 1) = 110
  · rw [show esc3 s k = (10, 2) by unfold esc3; rw [c3]; simp [escV]]
    exact rescp_fix s k w hk 110 10 c3 (by simp)
  by_cases c4 : bt s (k + 1) = 116
  · rw [show esc3 s k = (9, 2) by unfold esc3; rw [c4]; simp [escV]]
    exact rescp_fix s k w hk 116 9 c4 (by simp)
  by_cases c5 : bt s (k + 1) = 114
  · rw [show esc3 s k = (13, 2) by unfold esc3; rw [c5]; simp [escV]]
    exact rescp_fix s k w hk 114 13 c5 (by simp)
  by_cases c6 : bt s (k + 1) = 120
  · exact rescp_hex s k w hk c6
  · rw [show esc3 s k = (0, 0) by simp [esc3, escV, c1, c2, c3, c4, c5, c6]]
    exact rescp_not s k w hk c1 c2 c3 c4 c5 c6
end Go.Proofs.YtbplmglddinkdaaDoor.L
