import Derived.Test.YtbplmglddinkdaaDoorX0
namespace Go.Proofs.YtbplmglddinkdaaDoor.L
open Go.RowKit
set_option linter.unusedVariables false
/-- What an escape stands for, by the three bytes behind the backslash, and its length; length 0: none. -/
def escV (a b c : UInt8) : UInt8 × Nat :=
  if a = 34 then (34, 2) else if a = 92 then (92, 2) else if a = 110 then (10, 2) else if a = 116 then (9, 2) else if a = 114 then (13, 2)
  else if a = 120 ∧ 0 ≤ hexv (iv b) ∧ 0 ≤ hexv (iv c) then (UInt8.ofNat (16 * hexv (iv b) + hexv (iv c)).toNat, 4) else (0, 0)
def escaped : ByteArray := ⟨#[34, 92, 110, 116, 114]⟩
theorem idx_esc (a : UInt8) (h1 : a ≠ 34) (h2 : a ≠ 92) (h3 : a ≠ 110) (h4 : a ≠ 116) (h5 : a ≠ 114) : idx escaped a = -1 := by
  have := all_u8 (p := fun a => a == 34 || a == 92 || a == 110 || a == 116 || a == 114 || decide (idx escaped a = -1)) (by decide +kernel) a
  simpa [h1, h2, h3, h4, h5] using this
theorem hex_range (c : UInt8) : hexv (iv c) = -1 ∨ (0 ≤ hexv (iv c) ∧ hexv (iv c) ≤ 15) := by
  unfold hexv
  split
  · right; omega
  · split
    · right; omega
    · split
      · right; omega
      · left; rfl
theorem iv_get (s : ByteArray) (k : Nat) (h : k < s.size) : ((s[k]'h).toNat : Int) = iv (bt s k) := by
  rw [bt_get s k h]; rfl
theorem esc_x0 (w : World) (t : ByteArray) (hs : t.size < 2) (hm : t.size ≤ maxLen) :
    Calls Tryd.prog 44 #[.string t] w fun e w' => e = .returned (.tuple #[.int .u8 0, .int .i64 0]) ∧ ∃ n, w' = w.drewN n := by
  unfold maxLen at hm
  go_enter Tryd.func44, Tryd.ntmps44
  go_wp2
  go_ret2
  exact ⟨rfl, 0, rfl⟩
set_option maxHeartbeats 2000000 in
theorem esc_two (w : World) (t : ByteArray) (a v : UInt8) (k : Nat) (hs : 2 ≤ t.size) (hm : t.size ≤ maxLen) (ha : bt t 1 = a) (h : (a = 34 ∧ v = 34) ∨ (a = 92 ∧ v = 92) ∨ (a = 110 ∧ v = 10) ∨ (a = 116 ∧ v = 9) ∨ (a = 114 ∧ v = 13)) :
    Calls Tryd.prog 44 #[.string t] w fun e w' => e = .returned (.tuple #[.int .u8 (iv v), .int .i64 2]) ∧ ∃ n, w' = w.drewN n := by
  unfold maxLen at hm
  have h1 : 1 < t.size := by omega
  obtain ⟨x, hx⟩ : ∃ x : Int, ((t[1]'h1).toNat : Int) = x := ⟨_, rfl⟩
  have HI := hid (fun W => sib_any escaped a W)
  have hxa : x = iv a := by rw [← hx, iv_get t 1 h1, ha]
  unfold escaped at HI
  have hs2 : ¬ t.size < 2 := by omega
  rcases h with ⟨rfl, rfl⟩ | ⟨rfl, rfl⟩ | ⟨rfl, rfl⟩ | ⟨rfl, rfl⟩ | ⟨rfl, rfl⟩ <;>
  · simp only [show ∀ c, idx ⟨#[34, 92, 110, 116, 114]⟩ c = Lib.indexByte [34, 92, 110, 116, 114] c from fun c => rfl, Lib.indexByte] at HI
    simp at HI
    rw [← hxa] at HI
    clear ha hxa
    go_enter Tryd.func44, Tryd.ntmps44
    go_wp2_with (go_at_call 41; refine (HI.out _).mono ?_; rintro e w1 ⟨rfl, hww⟩; subst hww)
    go_ret2
    exact ⟨rfl, 0, rfl⟩
theorem drewN_eq (w : World) (n : Nat) : ∃ k, w.drewN n = w.drewN k := ⟨n, rfl⟩
set_option maxHeartbeats 2000000 in
theorem esc_not (w : World) (t : ByteArray) (hs : 2 ≤ t.size) (hm : t.size ≤ maxLen) (hi : idx escaped (bt t 1) = -1) (h : bt t 1 ≠ 120 ∨ t.size < 4) :
    Calls Tryd.prog 44 #[.string t] w fun e w' => e = .returned (.tuple #[.int .u8 0, .int .i64 0]) ∧ ∃ n, w' = w.drewN n := by
  unfold maxLen at hm
  have h1 : 1 < t.size := by omega
  obtain ⟨x, hx⟩ : ∃ x : Int, ((t[1]'h1).toNat : Int) = x := ⟨_, rfl⟩
  have HI := hid (fun W => sib_any escaped (bt t 1) W)
  rw [hi] at HI
  have hxa : iv (bt t 1) = x := by rw [← hx, iv_get t 1 h1]
  rw [hxa] at HI
  unfold escaped at HI
  have hs2 : ¬ t.size < 2 := by omega
  by_cases c : x = 120
  · have c4 : t.size < 4 := by
      rcases h with h | h
      · exact absurd (show bt t 1 = 120 by apply UInt8.toNat_inj.1; have : iv (bt t 1) = 120 := by rw [hxa, c]
                                           unfold iv at this; show (bt t 1).toNat = 120; omega) h
      · exact h
    clear h hxa hi
    subst c
    go_enter Tryd.func44, Tryd.ntmps44
    go_wp2_with (go_at_call 41; refine (HI.out _).mono ?_; rintro e w1 ⟨rfl, hww⟩; subst hww)
    go_ret2
    exact ⟨rfl, 0, rfl⟩
  · have c' : (x != 120) = true := by simpa using c
    clear h hxa hi c
    go_enter Tryd.func44, Tryd.ntmps44
    go_wp2_with (go_at_call 41; refine (HI.out _).mono ?_; rintro e w1 ⟨rfl, hww⟩; subst hww)
    go_ret2
    exact ⟨rfl, 0, rfl⟩
theorem or_hex (n m : Fin 16) : bits BinOp.or IntKind.i64 ((n.val : Int) * 16) (m.val : Int) % 256 = iv (UInt8.ofNat (16 * n.val + m.val)) := by
  have : (List.range 256).all (fun k => decide (bits BinOp.or IntKind.i64 (((k / 16 : Nat) : Int) * 16) ((k % 16 : Nat) : Int) % 256 = iv (UInt8.ofNat (16 * (k / 16) + k % 16)))) = true := by decide +kernel
  rw [List.all_eq_true] at this
  have h := this (16 * n.val + m.val) (by simp; omega)
  simp only [decide_eq_true_eq] at h
  rw [show (16 * n.val + m.val) / 16 = n.val by omega, show (16 * n.val + m.val) % 16 = m.val by omega] at h
  exact h
set_option maxHeartbeats 4000000 in
theorem esc_hex (w : World) (t : ByteArray) (hs : 4 ≤ t.size) (hm : t.size ≤ maxLen) (h : bt t 1 = 120) :
    Calls Tryd.prog 44 #[.string t] w fun e w' => e = .returned (.tuple #[.int .u8 (iv (escV 120 (bt t 2) (bt t 3)).1), .int .i64 (escV 120 (bt t 2) (bt t 3)).2]) ∧ ∃ n, w' = w.drewN n := by
  unfold maxLen at hm
  have h1 : 1 < t.size := by omega
  have h2 : 2 < t.size := by omega
  have h3 : 3 < t.size := by omega
  obtain ⟨x, hx⟩ : ∃ x : Int, ((t[1]'h1).toNat : Int) = x := ⟨_, rfl⟩
  obtain ⟨y, hy⟩ : ∃ y : Int, ((t[2]'h2).toNat : Int) = y := ⟨_, rfl⟩
  obtain ⟨z, hz⟩ : ∃ z : Int, ((t[3]'h3).toNat : Int) = z := ⟨_, rfl⟩
  have hxa : x = 120 := by rw [← hx, iv_get t 1 h1, h]; rfl
  have HI := hid (fun W => sib_any escaped 120 W)
  unfold escaped at HI
  simp only [show ∀ c, idx ⟨#[34, 92, 110, 116, 114]⟩ c = Lib.indexByte [34, 92, 110, 116, 114] c from fun c => rfl, Lib.indexByte] at HI
  simp at HI
  have e120 : iv 120 = 120 := rfl
  rw [e120] at HI
  have HY := hid (fun W => worth_any (bt t 2) W)
  have HZ := hid (fun W => worth_any (bt t 3) W)
  have hya : iv (bt t 2) = y := by rw [← hy, iv_get t 2 h2]
  have hza : iv (bt t 3) = z := by rw [← hz, iv_get t 3 h3]
  have ry := hex_range (bt t 2)
  have rz := hex_range (bt t 3)
  have HE := hid (show escV 120 (bt t 2) (bt t 3) = if 0 ≤ hexv (iv (bt t 2)) ∧ 0 ≤ hexv (iv (bt t 3)) then (UInt8.ofNat (16 * hexv (iv (bt t 2)) + hexv (iv (bt t 3))).toNat, 4) else (0, 0) by
    unfold escV
    simp)
  generalize escV 120 (bt t 2) (bt t 3) = E at *
  rw [hya, hza] at HE
  rw [hya] at HY ry
  rw [hza] at HZ rz
  obtain ⟨p, hp⟩ : ∃ p : Int, hexv y = p := ⟨_, rfl⟩
  obtain ⟨q, hq⟩ : ∃ q : Int, hexv z = q := ⟨_, rfl⟩
  rw [hp, hq] at HE
  rw [hp] at HY ry
  rw [hq] at HZ rz
  clear hya hza hp hq h
  subst hxa
  have hs2 : ¬ t.size < 2 := by omega
  have hs4 : ¬ t.size < 4 := by omega
  by_cases c : 0 ≤ p ∧ 0 ≤ q
  · rw [Hid, if_pos c] at HE
    obtain ⟨n, rfl⟩ : ∃ n : Nat, p = n := ⟨p.toNat, by omega⟩
    obtain ⟨m, rfl⟩ : ∃ m : Nat, q = m := ⟨q.toNat, by omega⟩
    have HE := hid HE
    have hn : n ≤ 15 := by omega
    have hmm : m ≤ 15 := by omega
    clear ry rz c
    go_enter Tryd.func44, Tryd.ntmps44
    go_wp2_with (go_at_call 41; refine (HI.out _).mono ?_; rintro e w1 ⟨rfl, hww⟩; subst hww)
    go_quiet ((go_at_call 55; first | with_reducible exact Calls.quiet_of_same (HY.out _) | with_reducible exact Calls.quiet_of_same (HZ.out _)))
    go_wp2
    go_ret2
    refine ⟨?_, _, rfl⟩
    rw [HE.out]
    have := or_hex ⟨n, by omega⟩ ⟨m, by omega⟩
    simp only at this
    rw [show (16 * (n : Int) + (m : Int)).toNat = 16 * n + m by omega, ← this]
    rfl
  · rw [Hid, if_neg c] at HE
    subst HE
    by_cases cp : p = -1
    · subst cp
      clear c ry
      go_enter Tryd.func44, Tryd.ntmps44
      go_wp2_with (go_at_call 41; refine (HI.out _).mono ?_; rintro e w1 ⟨rfl, hww⟩; subst hww)
      go_quiet ((go_at_call 55; first | with_reducible exact Calls.quiet_of_same (HY.out _) | with_reducible exact Calls.quiet_of_same (HZ.out _)))
      go_wp2
      go_ret2
      exact ⟨rfl, _, rfl⟩
    · have cq : q = -1 := by omega
      obtain ⟨n, rfl⟩ : ∃ n : Nat, p = n := ⟨p.toNat, by omega⟩
      subst cq
      clear c ry rz
      go_enter Tryd.func44, Tryd.ntmps44
      go_wp2_with (go_at_call 41; refine (HI.out _).mono ?_; rintro e w1 ⟨rfl, hww⟩; subst hww)
      go_quiet ((go_at_call 55; first | with_reducible exact Calls.quiet_of_same (HY.out _) | with_reducible exact Calls.quiet_of_same (HZ.out _)))
      go_wp2
      go_ret2
      exact ⟨rfl, _, rfl⟩
/-- What readEscape answers. -/
theorem rescape_any (w : World) (t : ByteArray) (hm : t.size ≤ maxLen) :
    Calls Tryd.prog 44 #[.string t] w fun e w' => e = .returned (.tuple #[.int .u8 (iv (escV (bt t 1) (bt t 2) (bt t 3)).1), .int .i64 (escV (bt t 1) (bt t 2) (bt t 3)).2]) ∧ ∃ n, w' = w.drewN n := by
  by_cases h2 : t.size < 2
  · have : escV (bt t 1) (bt t 2) (bt t 3) = (0, 0) := by rw [bt_out t 1 (by omega)]; simp [escV]
    rw [this]
    exact esc_x0 w t h2 hm
  have h2' : 2 ≤ t.size := by omega
  by_cases c1 : bt t 1 = 34
  · rw [show escV (bt t 1) (bt t 2) (bt t 3) = (34, 2) by rw [c1]; simp [escV]]
    exact esc_two w t 34 34 0 h2' hm c1 (by simp)
  by_cases c2 : bt t 1 = 92
  · rw [show escV (bt t 1) (bt t 2) (bt t 3) = (92, 2) by rw [c2]; simp [escV]]
    exact esc_two w t 92 92 0 h2' hm c2 (by simp)
  by_cases c3 : bt t 1 = 110
  · rw [show escV (bt t 1) (bt t 2) (bt t 3) = (10, 2) by rw [c3]; simp [escV]]
    exact esc_two w t 110 10 0 h2' hm c3 (by simp)
  by_cases c4 : bt t 1 = 116
  · rw [show escV (bt t 1) (bt t 2) (bt t 3) = (9, 2) by rw [c4]; simp [escV]]
    exact esc_two w t 116 9 0 h2' hm c4 (by simp)
  by_cases c5 : bt t 1 = 114
  · rw [show escV (bt t 1) (bt t 2) (bt t 3) = (13, 2) by rw [c5]; simp [escV]]
    exact esc_two w t 114 13 0 h2' hm c5 (by simp)
  by_cases c6 : bt t 1 = 120
  · by_cases h4 : t.size < 4
    · have : escV (bt t 1) (bt t 2) (bt t 3) = (0, 0) := by
        rw [bt_out t 3 (by omega), c6]
        unfold escV
        simp
        intro _
        decide
      rw [this]
      exact esc_not w t h2' hm (idx_esc _ c1 c2 c3 c4 c5) (Or.inr h4)
    · rw [c6]
      exact esc_hex w t (by omega) hm c6
  · have : escV (bt t 1) (bt t 2) (bt t 3) = (0, 0) := by simp [escV, c1, c2, c3, c4, c5, c6]
    rw [this]
    exact esc_not w t h2' hm (idx_esc _ c1 c2 c3 c4 c5) (Or.inl c6)
end Go.Proofs.YtbplmglddinkdaaDoor.L
