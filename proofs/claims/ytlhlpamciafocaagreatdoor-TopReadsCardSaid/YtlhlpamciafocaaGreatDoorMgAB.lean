import Derived.Test.YtlhlpamciafocaaGreatDoorMgAA
import Derived.Shelf.Strings.BuilderK
import Derived.Test.YtlhlpamciafocaaGreatDoorProg
import Derived.Shelf.Strings.BuilderF
namespace Go.Proofs.YtlhlpamciafocaaGreatDoor.L
open Go.RowKit
set_option linter.unusedVariables false
/-- What an escape stands for, by the three bytes behind the backslash, and its length; length 0: none. -/
def escV (a b c : UInt8) : UInt8 × Nat :=
  if a = 34 then (34, 2) else if a = 92 then (92, 2) else if a = 110 then (10, 2) else if a = 116 then (9, 2) else if a = 114 then (13, 2)
  else if a = 120 ∧ 0 ≤ hexv (iv b) ∧ 0 ≤ hexv (iv c) then (UInt8.ofNat (16 * hexv (iv b) + hexv (iv c)).toNat, 4) else (0, 0)
def escaped : ByteArray := ⟨#[34, 92, 110, 116, 114]⟩
theorem idx_esc (a : UInt8) (h1 : a ≠ 34) (h2 : a ≠ 92) (h3 : a ≠ 110) (h4 : a ≠ 116) (h5 : a ≠ 114) : idx escaped a = -1 := by
  have := all_u8 (p := fun a => a == 34 || a == 92 || a == 110 || a == 116 || a == 114 || decide (idx escaped a = -1)) (by decide +kernel) a
  simpa [h1, h2, h3, h4, h5] using this
theorem hex_range (c : UInt8) : hexv (iv c) = -1 ∨ (0 ≤ hexv (iv c) ∧ hexv (iv c) ≤ 15) := by
  unfold hexv
  split
  · right; omega
  · split
    · right; omega
    · split
      · right; omega
      · left; rfl
theorem iv_get (s : ByteArray) (k : Nat) (h : k < s.size) : ((s[k]'h).toNat : Int) = iv (bt s k) := by
  rw [bt_get s k h]; rfl
theorem esc_x0 (w : World) (t : ByteArray) (hs : t.size < 2) (hm : t.size ≤ maxLen) :
    Calls Tryz.prog 94 #[.string t] w fun e w' => e = .returned (.tuple #[.int .u8 0, .int .i64 0]) ∧ ∃ n, w' = w.drewN n := by
  unfold maxLen at hm
  go_enter Tryz.func94, Tryz.ntmps94
  go_wp2
  go_ret2
  exact ⟨rfl, 0, rfl⟩
set_option maxHeartbeats 2000000 in
theorem esc_two (w : World) (t : ByteArray) (a v : UInt8) (k : Nat) (hs : 2 ≤ t.size) (hm : t.size ≤ maxLen) (ha : bt t 1 = a) (h : (a = 34 ∧ v = 34) ∨ (a = 92 ∧ v = 92) ∨ (a = 110 ∧ v = 10) ∨ (a = 116 ∧ v = 9) ∨ (a = 114 ∧ v = 13)) :
    Calls Tryz.prog 94 #[.string t] w fun e w' => e = .returned (.tuple #[.int .u8 (iv v), .int .i64 2]) ∧ ∃ n, w' = w.drewN n := by
  unfold maxLen at hm
  have h1 : 1 < t.size := by omega
  obtain ⟨x, hx⟩ : ∃ x : Int, ((t[1]'h1).toNat : Int) = x := ⟨_, rfl⟩
  have HI := hid (fun W => sib_any escaped a W)
  have hxa : x = iv a := by rw [← hx, iv_get t 1 h1, ha]
  unfold escaped at HI
  have hs2 : ¬ t.size < 2 := by omega
  rcases h with ⟨rfl, rfl⟩ | ⟨rfl, rfl⟩ | ⟨rfl, rfl⟩ | ⟨rfl, rfl⟩ | ⟨rfl, rfl⟩ <;>
  · simp only [show ∀ c, idx ⟨#[34, 92, 110, 116, 114]⟩ c = Lib.indexByte [34, 92, 110, 116, 114] c from fun c => rfl, Lib.indexByte] at HI
    simp at HI
    rw [← hxa] at HI
    clear ha hxa
    go_enter Tryz.func94, Tryz.ntmps94
    go_wp2_with (go_at_call 77; refine (HI.out _).mono ?_; rintro e w1 ⟨rfl, hww⟩; subst hww)
    go_ret2
    exact ⟨rfl, 0, rfl⟩
set_option maxHeartbeats 2000000 in
theorem esc_not (w : World) (t : ByteArray) (hs : 2 ≤ t.size) (hm : t.size ≤ maxLen) (hi : idx escaped (bt t 1) = -1) (h : bt t 1 ≠ 120 ∨ t.size < 4) :
    Calls Tryz.prog 94 #[.string t] w fun e w' => e = .returned (.tuple #[.int .u8 0, .int .i64 0]) ∧ ∃ n, w' = w.drewN n := by
  unfold maxLen at hm
  have h1 : 1 < t.size := by omega
  obtain ⟨x, hx⟩ : ∃ x : Int, ((t[1]'h1).toNat : Int) = x := ⟨_, rfl⟩
  have HI := hid (fun W => sib_any escaped (bt t 1) W)
  rw [hi] at HI
  have hxa : iv (bt t 1) = x := by rw [← hx, iv_get t 1 h1]
  rw [hxa] at HI
  unfold escaped at HI
  have hs2 : ¬ t.size < 2 := by omega
  by_cases c : x = 120
  · have c4 : t.size < 4 := by
      rcases h with h | h
      · exact absurd (show bt t 1 = 120 by apply UInt8.toNat_inj.1; have : iv (bt t 1) = 120 := by rw [hxa, c]
                                           unfold iv at this; show (bt t 1).toNat = 120; omega) h
      · exact h
    clear h hxa hi
    subst c
    go_enter Tryz.func94, Tryz.ntmps94
    go_wp2_with (go_at_call 77; refine (HI.out _).mono ?_; rintro e w1 ⟨rfl, hww⟩; subst hww)
    go_ret2
    exact ⟨rfl, 0, rfl⟩
  · have c' : (x != 120) = true := by simpa using c
    clear h hxa hi c
    go_enter Tryz.func94, Tryz.ntmps94
    go_wp2_with (go_at_call 77; refine (HI.out _).mono ?_; rintro e w1 ⟨rfl, hww⟩; subst hww)
    go_ret2
    exact ⟨rfl, 0, rfl⟩
theorem or_hex (n m : Fin 16) : bits BinOp.or IntKind.i64 ((n.val : Int) * 16) (m.val : Int) % 256 = iv (UInt8.ofNat (16 * n.val + m.val)) := by
  have : (List.range 256).all (fun k => decide (bits BinOp.or IntKind.i64 (((k / 16 : Nat) : Int) * 16) ((k % 16 : Nat) : Int) % 256 = iv (UInt8.ofNat (16 * (k / 16) + k % 16)))) = true := by decide +kernel
  rw [List.all_eq_true] at this
  have h := this (16 * n.val + m.val) (by simp; omega)
  simp only [decide_eq_true_eq] at h
  rw [show (16 * n.val + m.val) / 16 = n.val by omega, show (16 * n.val + m.val) % 16 = m.val by omega] at h
  exact h
set_option maxHeartbeats 4000000 in
theorem esc_hex (w : World) (t : ByteArray) (hs : 4 ≤ t.size) (hm : t.size ≤ maxLen) (h : bt t 1 = 120) :
    Calls Tryz.prog 94 #[.string t] w fun e w' => e = .returned (.tuple #[.int .u8 (iv (escV 120 (bt t 2) (bt t 3)).1), .int .i64 (escV 120 (bt t 2) (bt t 3)).2]) ∧ ∃ n, w' = w.drewN n := by
  unfold maxLen at hm
  have h1 : 1 < t.size := by omega
  have h2 : 2 < t.size := by omega
  have h3 : 3 < t.size := by omega
  obtain ⟨x, hx⟩ : ∃ x : Int, ((t[1]'h1).toNat : Int) = x := ⟨_, rfl⟩
  obtain ⟨y, hy⟩ : ∃ y : Int, ((t[2]'h2).toNat : Int) = y := ⟨_, rfl⟩
  obtain ⟨z, hz⟩ : ∃ z : Int, ((t[3]'h3).toNat : Int) = z := ⟨_, rfl⟩
  have hxa : x = 120 := by rw [← hx, iv_get t 1 h1, h]; rfl
  have HI := hid (fun W => sib_any escaped 120 W)
  unfold escaped at HI
  simp only [show ∀ c, idx ⟨#[34, 92, 110, 116, 114]⟩ c = Lib.indexByte [34, 92, 110, 116, 114] c from fun c => rfl, Lib.indexByte] at HI
  simp at HI
  have e120 : iv 120 = 120 := rfl
  rw [e120] at HI
  have HY := hid (fun W => worth_any (bt t 2) W)
  have HZ := hid (fun W => worth_any (bt t 3) W)
  have hya : iv (bt t 2) = y := by rw [← hy, iv_get t 2 h2]
  have hza : iv (bt t 3) = z := by rw [← hz, iv_get t 3 h3]
  have ry := hex_range (bt t 2)
  have rz := hex_range (bt t 3)
  have HE := hid (show escV 120 (bt t 2) (bt t 3) = if 0 ≤ hexv (iv (bt t 2)) ∧ 0 ≤ hexv (iv (bt t 3)) then (UInt8.ofNat (16 * hexv (iv (bt t 2)) + hexv (iv (bt t 3))).toNat, 4) else (0, 0) by
    unfold escV
    simp)
  generalize escV 120 (bt t 2) (bt t 3) = E at *
  rw [hya, hza] at HE
  rw [hya] at HY ry
  rw [hza] at HZ rz
  obtain ⟨p, hp⟩ : ∃ p : Int, hexv y = p := ⟨_, rfl⟩
  obtain ⟨q, hq⟩ : ∃ q : Int, hexv z = q := ⟨_, rfl⟩
  rw [hp, hq] at HE
  rw [hp] at HY ry
  rw [hq] at HZ rz
  clear hya hza hp hq h
  subst hxa
  have hs2 : ¬ t.size < 2 := by omega
  have hs4 : ¬ t.size < 4 := by omega
  by_cases c : 0 ≤ p ∧ 0 ≤ q
  · rw [Hid, if_pos c] at HE
    obtain ⟨n, rfl⟩ : ∃ n : Nat, p = n := ⟨p.toNat, by omega⟩
    obtain ⟨m, rfl⟩ : ∃ m : Nat, q = m := ⟨q.toNat, by omega⟩
    have HE := hid HE
    have hn : n ≤ 15 := by omega
    have hmm : m ≤ 15 := by omega
    clear ry rz c
    go_enter Tryz.func94, Tryz.ntmps94
    go_wp2_with (go_at_call 77; refine (HI.out _).mono ?_; rintro e w1 ⟨rfl, hww⟩; subst hww)
    go_quiet ((go_at_call 109; first | with_reducible exact Calls.quiet_of_same (HY.out _) | with_reducible exact Calls.quiet_of_same (HZ.out _)))
    go_wp2
    go_ret2
    refine ⟨?_, _, rfl⟩
    rw [HE.out]
    have := or_hex ⟨n, by omega⟩ ⟨m, by omega⟩
    simp only at this
    rw [show (16 * (n : Int) + (m : Int)).toNat = 16 * n + m by omega, ← this]
    rfl
  · rw [Hid, if_neg c] at HE
    subst HE
    by_cases cp : p = -1
    · subst cp
      clear c ry
      go_enter Tryz.func94, Tryz.ntmps94
      go_wp2_with (go_at_call 77; refine (HI.out _).mono ?_; rintro e w1 ⟨rfl, hww⟩; subst hww)
      go_quiet ((go_at_call 109; first | with_reducible exact Calls.quiet_of_same (HY.out _) | with_reducible exact Calls.quiet_of_same (HZ.out _)))
      go_wp2
      go_ret2
      exact ⟨rfl, _, rfl⟩
    · have cq : q = -1 := by omega
      obtain ⟨n, rfl⟩ : ∃ n : Nat, p = n := ⟨p.toNat, by omega⟩
      subst cq
      clear c ry rz
      go_enter Tryz.func94, Tryz.ntmps94
      go_wp2_with (go_at_call 77; refine (HI.out _).mono ?_; rintro e w1 ⟨rfl, hww⟩; subst hww)
      go_quiet ((go_at_call 109; first | with_reducible exact Calls.quiet_of_same (HY.out _) | with_reducible exact Calls.quiet_of_same (HZ.out _)))
      go_wp2
      go_ret2
      exact ⟨rfl, _, rfl⟩
/-- What readEscape answers. -/
theorem rescape_any (w : World) (t : ByteArray) (hm : t.size ≤ maxLen) :
    Calls Tryz.prog 94 #[.string t] w fun e w' => e = .returned (.tuple #[.int .u8 (iv (escV (bt t 1) (bt t 2) (bt t 3)).1), .int .i64 (escV (bt t 1) (bt t 2) (bt t 3)).2]) ∧ ∃ n, w' = w.drewN n := by
  by_cases h2 : t.size < 2
  · have : escV (bt t 1) (bt t 2) (bt t 3) = (0, 0) := by rw [bt_out t 1 (by omega)]; simp [escV]
    rw [this]
    exact esc_x0 w t h2 hm
  have h2' : 2 ≤ t.size := by omega
  by_cases c1 : bt t 1 = 34
  · rw [show escV (bt t 1) (bt t 2) (bt t 3) = (34, 2) by rw [c1]; simp [escV]]
    exact esc_two w t 34 34 0 h2' hm c1 (by simp)
  by_cases c2 : bt t 1 = 92
  · rw [show escV (bt t 1) (bt t 2) (bt t 3) = (92, 2) by rw [c2]; simp [escV]]
    exact esc_two w t 92 92 0 h2' hm c2 (by simp)
  by_cases c3 : bt t 1 = 110
  · rw [show escV (bt t 1) (bt t 2) (bt t 3) = (10, 2) by rw [c3]; simp [escV]]
    exact esc_two w t 110 10 0 h2' hm c3 (by simp)
  by_cases c4 : bt t 1 = 116
  · rw [show escV (bt t 1) (bt t 2) (bt t 3) = (9, 2) by rw [c4]; simp [escV]]
    exact esc_two w t 116 9 0 h2' hm c4 (by simp)
  by_cases c5 : bt t 1 = 114
  · rw [show escV (bt t 1) (bt t 2) (bt t 3) = (13, 2) by rw [c5]; simp [escV]]
    exact esc_two w t 114 13 0 h2' hm c5 (by simp)
  by_cases c6 : bt t 1 = 120
  · by_cases h4 : t.size < 4
    · have : escV (bt t 1) (bt t 2) (bt t 3) = (0, 0) := by
        rw [bt_out t 3 (by omega), c6]
        unfold escV
        simp
        intro _
        decide
      rw [this]
      exact esc_not w t h2' hm (idx_esc _ c1 c2 c3 c4 c5) (Or.inr h4)
    · rw [c6]
      exact esc_hex w t (by omega) hm c6
  · have : escV (bt t 1) (bt t 2) (bt t 3) = (0, 0) := by simp [escV, c1, c2, c3, c4, c5, c6]
    rw [this]
    exact esc_not w t h2' hm (idx_esc _ c1 c2 c3 c4 c5) (Or.inl c6)
end Go.Proofs.YtlhlpamciafocaaGreatDoor.L
namespace Go.Proofs.YtlhlpamciafocaaGreatDoor
open Go.Shelf
def lays166_ren : Go.Shelf.Ren := ⟨fun | 166 => 60 | 240 => 75 | 276 => 89 | n => n, fun | 70 => 110 | 9 => 9 | 3 => 3 | 75 => 27 | 0 => 0 | 72 => 113 | 37 => 111 | 4 => 4 | 164 => 132 | 80 => 32 | 5 => 5 | n => n, fun | n => n⟩
theorem lays166 : Go.Proofs.Lays.n166 Tryz.prog lays166_ren := {
  mixed := by kernel_rfl
  f166 := Tryz.func60.trans (congrArg some (by kernel_rfl))
  f240 := Tryz.func75.trans (congrArg some (by kernel_rfl))
  f276 := Tryz.func89.trans (congrArg some (by kernel_rfl))
  t0 := Tryz.underlying0
  a0 := Tryz.isAgg0
  z0 := Tryz.sizeOf0
  v0 := Tryz.zeroValue0
  t3 := Tryz.underlying3
  a3 := Tryz.isAgg3
  z3 := Tryz.sizeOf3
  v3 := Tryz.zeroValue3
  t4 := Tryz.underlying4
  a4 := Tryz.isAgg4
  z4 := Tryz.sizeOf4
  v4 := Tryz.zeroValue4
  t9 := Tryz.underlying9
  a9 := Tryz.isAgg9
  z9 := Tryz.sizeOf9
  v9 := Tryz.zeroValue9
  t20 := Tryz.underlying20
  a20 := Tryz.isAgg20
  z20 := Tryz.sizeOf20
  v20 := Tryz.zeroValue20
  t37 := Tryz.underlying111
  a37 := Tryz.isAgg111
  z37 := Tryz.sizeOf111
  v37 := Tryz.zeroValue111
  t70 := Tryz.underlying110
  a70 := Tryz.isAgg110
  z70 := Tryz.sizeOf110
  v70 := Tryz.zeroValue110
  t72 := Tryz.underlying113
  a72 := Tryz.isAgg113
  z72 := Tryz.sizeOf113
  v72 := Tryz.zeroValue113
  t75 := Tryz.underlying27
  a75 := Tryz.isAgg27
  z75 := Tryz.sizeOf27
  v75 := Tryz.zeroValue27
  t164 := Tryz.underlying132
  a164 := Tryz.isAgg132
  z164 := Tryz.sizeOf132
  v164 := Tryz.zeroValue132 }
def lays167_ren : Go.Shelf.Ren := ⟨fun | 167 => 62 | 240 => 75 | 276 => 89 | n => n, fun | 70 => 110 | 5 => 5 | 75 => 27 | 0 => 0 | 72 => 113 | 37 => 111 | 4 => 4 | 164 => 132 | 80 => 32 | 9 => 9 | n => n, fun | n => n⟩
theorem lays167 : Go.Proofs.Lays.n167 Tryz.prog lays167_ren := {
  mixed := by kernel_rfl
  f167 := Tryz.func62.trans (congrArg some (by kernel_rfl))
  f240 := Tryz.func75.trans (congrArg some (by kernel_rfl))
  f276 := Tryz.func89.trans (congrArg some (by kernel_rfl))
  t0 := Tryz.underlying0
  a0 := Tryz.isAgg0
  z0 := Tryz.sizeOf0
  v0 := Tryz.zeroValue0
  t4 := Tryz.underlying4
  a4 := Tryz.isAgg4
  z4 := Tryz.sizeOf4
  v4 := Tryz.zeroValue4
  t5 := Tryz.underlying5
  a5 := Tryz.isAgg5
  z5 := Tryz.sizeOf5
  v5 := Tryz.zeroValue5
  t9 := Tryz.underlying9
  a9 := Tryz.isAgg9
  z9 := Tryz.sizeOf9
  v9 := Tryz.zeroValue9
  t20 := Tryz.underlying20
  a20 := Tryz.isAgg20
  z20 := Tryz.sizeOf20
  v20 := Tryz.zeroValue20
  t37 := Tryz.underlying111
  a37 := Tryz.isAgg111
  z37 := Tryz.sizeOf111
  v37 := Tryz.zeroValue111
  t70 := Tryz.underlying110
  a70 := Tryz.isAgg110
  z70 := Tryz.sizeOf110
  v70 := Tryz.zeroValue110
  t72 := Tryz.underlying113
  a72 := Tryz.isAgg113
  z72 := Tryz.sizeOf113
  v72 := Tryz.zeroValue113
  t75 := Tryz.underlying27
  a75 := Tryz.isAgg27
  z75 := Tryz.sizeOf27
  v75 := Tryz.zeroValue27
  t164 := Tryz.underlying132
  a164 := Tryz.isAgg132
  z164 := Tryz.sizeOf132
  v164 := Tryz.zeroValue132 }
def lays169_ren : Go.Shelf.Ren := ⟨fun | 169 => 61 | n => n, fun | 70 => 110 | 9 => 9 | 0 => 0 | 72 => 113 | 37 => 111 | 127 => 127 | 3 => 3 | 5 => 5 | n => n, fun | n => n⟩
theorem lays169 : Go.Proofs.Lays.n169 Tryz.prog lays169_ren := {
  mixed := by kernel_rfl
  f169 := Tryz.func61.trans (congrArg some (by kernel_rfl))
  t0 := Tryz.underlying0
  a0 := Tryz.isAgg0
  z0 := Tryz.sizeOf0
  v0 := Tryz.zeroValue0
  t3 := Tryz.underlying3
  a3 := Tryz.isAgg3
  z3 := Tryz.sizeOf3
  v3 := Tryz.zeroValue3
  t9 := Tryz.underlying9
  a9 := Tryz.isAgg9
  z9 := Tryz.sizeOf9
  v9 := Tryz.zeroValue9
  t37 := Tryz.underlying111
  a37 := Tryz.isAgg111
  z37 := Tryz.sizeOf111
  v37 := Tryz.zeroValue111
  t70 := Tryz.underlying110
  a70 := Tryz.isAgg110
  z70 := Tryz.sizeOf110
  v70 := Tryz.zeroValue110
  t72 := Tryz.underlying113
  a72 := Tryz.isAgg113
  z72 := Tryz.sizeOf113
  v72 := Tryz.zeroValue113
  t127 := Tryz.underlying127
  a127 := Tryz.isAgg127
  z127 := Tryz.sizeOf127
  v127 := Tryz.zeroValue127 }
def lays170_ren : Go.Shelf.Ren := ⟨fun | 170 => 93 | n => n, fun | 70 => 110 | 3 => 3 | 0 => 0 | 72 => 113 | 37 => 111 | 5 => 5 | n => n, fun | n => n⟩
theorem lays170 : Go.Proofs.Lays.n170 Tryz.prog lays170_ren := {
  mixed := by kernel_rfl
  f170 := Tryz.func93.trans (congrArg some (by kernel_rfl))
  t0 := Tryz.underlying0
  a0 := Tryz.isAgg0
  z0 := Tryz.sizeOf0
  v0 := Tryz.zeroValue0
  t3 := Tryz.underlying3
  a3 := Tryz.isAgg3
  z3 := Tryz.sizeOf3
  v3 := Tryz.zeroValue3
  t37 := Tryz.underlying111
  a37 := Tryz.isAgg111
  z37 := Tryz.sizeOf111
  v37 := Tryz.zeroValue111
  t70 := Tryz.underlying110
  a70 := Tryz.isAgg110
  z70 := Tryz.sizeOf110
  v70 := Tryz.zeroValue110
  t72 := Tryz.underlying113
  a72 := Tryz.isAgg113
  z72 := Tryz.sizeOf113
  v72 := Tryz.zeroValue113 }
end Go.Proofs.YtlhlpamciafocaaGreatDoor
namespace Go.Proofs.YtlhlpamciafocaaGreatDoor.L
open Go.RowKit Go.Shelf
set_option linter.unusedVariables false
theorem bx166 : Builder.Extra Tryz.prog lays166_ren := { sizeBuilder := by kernel_rfl, liesBuilder := by kernel_rfl, t5 := Tryz.underlying5, a5 := Tryz.isAgg5, z5 := Tryz.sizeOf5, v5 := Tryz.zeroValue5, infoByte := by kernel_rfl, cellsByte := by kernel_rfl, sizeByte := by kernel_rfl, neB5 := by decide }
theorem bx167 : Builder.Extra Tryz.prog lays167_ren := { sizeBuilder := by kernel_rfl, liesBuilder := by kernel_rfl, t5 := Tryz.underlying5, a5 := Tryz.isAgg5, z5 := Tryz.sizeOf5, v5 := Tryz.zeroValue5, infoByte := by kernel_rfl, cellsByte := by kernel_rfl, sizeByte := by kernel_rfl, neB5 := by decide }
theorem bx169 : Builder.Extra Tryz.prog lays169_ren := { sizeBuilder := by kernel_rfl, liesBuilder := by kernel_rfl, t5 := Tryz.underlying5, a5 := Tryz.isAgg5, z5 := Tryz.sizeOf5, v5 := Tryz.zeroValue5, infoByte := by kernel_rfl, cellsByte := by kernel_rfl, sizeByte := by kernel_rfl, neB5 := by decide }
/-- A builder that holds these bytes. -/
def Bld (B b : Nat) (l : List UInt8) (w : World) : Prop := Lib.IsBuilderF 113 5 B b (Lib.byteCells l) w
theorem byteCells_app (a b : List UInt8) : Lib.byteCells (a ++ b) = Lib.byteCells a ++ Lib.byteCells b := by
  unfold Lib.byteCells
  simp
theorem byteCells_len (a : List UInt8) : (Lib.byteCells a).length = a.length := by
  unfold Lib.byteCells
  simp
theorem strCells_eq (s : ByteArray) : Lib.strCells s = Lib.byteCells s.data.toList := by
  rfl
theorem wbyte_any (B b : Nat) (l : List UInt8) (c : UInt8) (w : World) (h : Bld B b l w) (hl : l.length ≤ 8000000) (hB : B ≤ w.heap.size) :
    Calls Tryz.prog 62 #[.pointer (some ⟨b, 0, none⟩), .int .u8 (iv c)] w fun e w' => e = .returned .nilIface ∧ Bld B b (l ++ [c]) w' ∧ Below B w w' ∧ Lib.OthersKept 5 (some b) w w' := by
  refine (show Calls Tryz.prog 62 _ _ _ from Any.Builder_WriteByte_k lays167 bx167 B b (Lib.byteCells l) (iv c) w h (by rw [byteCells_len]; omega) hB).mono ?_
  rintro e w' ⟨rfl, hb, h1, h2⟩
  refine ⟨rfl, ?_, h1, h2⟩
  unfold Bld
  rw [byteCells_app]
  exact Or.inr hb
theorem wstr_any (B b : Nat) (l : List UInt8) (s : ByteArray) (w : World) (h : Bld B b l w) (hl : l.length ≤ 8000000) (hs : s.size ≤ 8000000) (hB : B ≤ w.heap.size) :
    Calls Tryz.prog 60 #[.pointer (some ⟨b, 0, none⟩), .string s] w fun e w' => e = .returned (.tuple #[.int .i64 s.size, .nilIface]) ∧ Bld B b (l ++ s.data.toList) w' ∧ Below B w w' ∧ Lib.OthersKept 5 (some b) w w' := by
  refine (show Calls Tryz.prog 60 _ _ _ from Any.Builder_WriteString_k lays166 bx166 B b (Lib.byteCells l) s w h (by rw [byteCells_len]; omega) hB).mono ?_
  rintro e w' ⟨rfl, hb, h1, h2⟩
  refine ⟨rfl, ?_, h1, h2⟩
  unfold Bld
  rw [byteCells_app, ← strCells_eq]
  exact Or.inr hb
theorem bstr_any (B b : Nat) (l : List UInt8) (w : World) (h : Bld B b l w) (hB : B ≤ w.heap.size) :
    Calls Tryz.prog 61 #[.pointer (some ⟨b, 0, none⟩)] w fun e w' => e = .returned (.string ⟨l.toArray⟩) ∧ Below B w w' := by
  refine (show Calls Tryz.prog 61 _ _ _ from Any.Builder_String_any_k lays169 bx169 B b l w h hB).mono ?_
  rintro e w' ⟨rfl, _, h1, _⟩
  exact ⟨rfl, h1⟩
theorem blen_any (B b : Nat) (l : List UInt8) (w : World) (h : Bld B b l w) :
    Calls Tryz.prog 93 #[.pointer (some ⟨b, 0, none⟩)] w fun e w' => e = .returned (.int .i64 l.length) ∧ w' = w := by
  refine (show Calls Tryz.prog 93 _ _ _ from Any.Builder_Len_f lays170 B b (Lib.byteCells l) w h).mono ?_
  rintro e w' ⟨rfl, rfl⟩
  rw [byteCells_len]
  exact ⟨rfl, rfl⟩
theorem bld_drew {B b : Nat} {l : List UInt8} {w : World} (h : Bld B b l w) (n : Nat) : Bld B b l (w.drewN n) := by
  unfold Bld Lib.IsBuilderF at h ⊢
  rcases h with ⟨a, v, x, y, z⟩ | ⟨a, v, x, y, z⟩
  · exact Or.inl ⟨a, v, x, y, z⟩
  · exact Or.inr ⟨a, v, x, y, z⟩
/-- A builder just laid. -/
theorem bld_new (w : World) : Bld w.heap.size w.heap.size [] (w.alloc (.cells #[.pointer none, .slice none 0 0] 113)) := Lib.IsBuilderF.of (Lib.fresh_isBuilder 113 5 w)
end Go.Proofs.YtlhlpamciafocaaGreatDoor.L
namespace Go.Proofs.YtlhlpamciafocaaGreatDoor.L
open Go.RowKit Go.Shelf
set_option linter.unusedVariables false
/-- A fault lies in a block: its code and its place, no name, no cause. -/
def Flt (W : World) (N : Nat) (c a : Nat) : Prop := W.heap[N]? = some (.cells #[.int .i64 c, .int .i64 a, .string ⟨#[]⟩, .nilIface] 67 (0, 0))
theorem Flt.low {W W' : World} {N c a B : Nat} (h : Flt W N c a) (hb : Below B W W') (hN : N < B) : Flt W' N c a := by
  unfold Flt at h ⊢
  rw [hb.block N hN]
  exact h
theorem Flt.lt {W : World} {N c a : Nat} (h : Flt W N c a) : N < W.heap.size := by
  apply Classical.byContradiction
  intro n
  unfold Flt at h
  rw [Array.getElem?_eq_none (by omega)] at h
  cases h
def fv (N : Nat) : Value := .iface 60 (.pointer (some ⟨N, 0, none⟩))
set_option maxHeartbeats 1000000 in
theorem fault_any (c a : Nat) (w : World) : Calls Tryz.prog 67 #[.int .i64 (c : Int), .int .i64 (a : Int)] w fun e w' => e = .returned (fv w.heap.size) ∧ Flt w' w.heap.size c a ∧ Below w.heap.size w w' := by
  unfold fv
  go_enter Tryz.func67, Tryz.ntmps67
  go_wp2
  go_ret
  exact ⟨rfl, heap_alloc_new w _, belowA w _⟩
theorem run_assert (x : Value) (w : World) : (Instr.typeAssert (.iface 60 x) 27 60 true).run Tryz.prog w = .ok (.tuple #[x, .bool true]) w := by
  simp [Instr.typeAssert, run_underlying Tryz.underlying60, go_sem, Result.andThen]
set_option maxHeartbeats 1000000 in
theorem toolong_no (s : ByteArray) (w : World) (h : s.size ≤ 4096) : Calls Tryz.prog 51 #[.string s] w fun e w' => e = .returned .nilIface ∧ w' = w := by
  have h' : ¬ (4096 : Int) < (s.size : Int) := by omega
  go_enter Tryz.func51, Tryz.ntmps51
  go_wp2
  go_ret
  exact ⟨rfl, rfl⟩
set_option maxHeartbeats 1000000 in
theorem toolong_yes (s : ByteArray) (w : World) (h : 4096 < s.size) : Calls Tryz.prog 51 #[.string s] w fun e w' => e = .returned (fv w.heap.size) ∧ Flt w' w.heap.size 110 4096 ∧ Below w.heap.size w w' := by
  have h' : (4096 : Int) < (s.size : Int) := by omega
  have HF := hid (fault_any 110 4096 w)
  unfold fv at *
  go_enter Tryz.func51, Tryz.ntmps51
  go_wp2_with (go_at_call 67; refine HF.out.mono ?_; rintro e w1 ⟨rfl, f1, l1⟩; have F1 := hid f1; have L1 := hid l1; clear f1 l1)
  go_ret
  exact ⟨rfl, F1.out, L1.out⟩
/-- What reading a text comes to. -/
inductive TR where
  | ok (l : List UInt8) (e : Nat)
  | bad (c a : Nat)
def esc3 (s : ByteArray) (k : Nat) : UInt8 × Nat := escV (bt s (k + 1)) (bt s (k + 2)) (bt s (k + 3))
/-- The text whose first quote stands at f, read from k on, where l has been read. -/
def txS (s : ByteArray) (f k : Nat) (l : List UInt8) : TR :=
  if h : k < s.size then
    if bt s k = 34 then (if 127 < l.length then .bad 115 f else .ok l (k + 1))
    else if bt s k = 92 then
      if h2 : (esc3 s k).2 = 0 then .bad 113 k else txS s f (k + (esc3 s k).2) (l ++ [(esc3 s k).1])
    else if iv (bt s k) < 32 then .bad 111 k
    else txS s f (k + 1) (l ++ [bt s k])
  else .bad 112 f
termination_by s.size - k
decreasing_by all_goals omega
theorem txS_end (s : ByteArray) (f k : Nat) (l : List UInt8) (h : ¬ k < s.size) : txS s f k l = .bad 112 f := by
  rw [txS, dif_neg h]
theorem txS_q (s : ByteArray) (f k : Nat) (l : List UInt8) (h : k < s.size) (c : bt s k = 34) : txS s f k l = if 127 < l.length then .bad 115 f else .ok l (k + 1) := by
  rw [txS, dif_pos h, if_pos c]
theorem txS_e0 (s : ByteArray) (f k : Nat) (l : List UInt8) (h : k < s.size) (c : bt s k = 92) (e : (esc3 s k).2 = 0) : txS s f k l = .bad 113 k := by
  rw [txS, dif_pos h, if_neg (by rw [c]; decide), if_pos c, dif_pos e]
theorem txS_e (s : ByteArray) (f k : Nat) (l : List UInt8) (h : k < s.size) (c : bt s k = 92) (e : (esc3 s k).2 ≠ 0) : txS s f k l = txS s f (k + (esc3 s k).2) (l ++ [(esc3 s k).1]) := by
  rw [txS, dif_pos h, if_neg (by rw [c]; decide), if_pos c, dif_neg e]
theorem txS_low (s : ByteArray) (f k : Nat) (l : List UInt8) (h : k < s.size) (c : bt s k ≠ 34) (d : bt s k ≠ 92) (e : iv (bt s k) < 32) : txS s f k l = .bad 111 k := by
  rw [txS, dif_pos h, if_neg c, if_neg d, if_pos e]
theorem txS_go (s : ByteArray) (f k : Nat) (l : List UInt8) (h : k < s.size) (c : bt s k ≠ 34) (d : bt s k ≠ 92) (e : ¬ iv (bt s k) < 32) : txS s f k l = txS s f (k + 1) (l ++ [bt s k]) := by
  rw [txS, dif_pos h, if_neg c, if_neg d, if_neg e]
theorem esc_inv {a b c : UInt8} (h : (escV a b c).2 ≠ 0) : a ≠ 0 ∧ ((escV a b c).2 = 2 ∨ ((escV a b c).2 = 4 ∧ b ≠ 0 ∧ c ≠ 0)) := by
  unfold escV at h ⊢
  repeat' split
  all_goals first
    | (rename_i g; subst g; simp; done)
    | skip
  · rename_i g
    refine ⟨by rw [g.1]; decide, Or.inr ⟨rfl, ?_, ?_⟩⟩
    · intro z; subst z; exact absurd g.2.1 (by decide)
    · intro z; subst z; exact absurd g.2.2 (by decide)
  · simp_all
theorem bt_nz {s : ByteArray} {k : Nat} (h : bt s k ≠ 0) : k < s.size := by
  apply Classical.byContradiction
  intro n
  exact h (bt_out s k (by omega))
/-- An escape lies in the source. -/
theorem esc_in {s : ByteArray} {k : Nat} (h : (esc3 s k).2 ≠ 0) : k + (esc3 s k).2 ≤ s.size ∧ ((esc3 s k).2 = 2 ∨ (esc3 s k).2 = 4) := by
  unfold esc3 at h ⊢
  obtain ⟨ha, h2 | ⟨h4, hb, hc⟩⟩ := esc_inv h
  · have := bt_nz ha
    exact ⟨by omega, Or.inl h2⟩
  · have := bt_nz hc
    exact ⟨by omega, Or.inr h4⟩
theorem u8_iv {c : UInt8} {n : Nat} (h : iv c = n) (hn : n < 256) : c = UInt8.ofNat n := by
  apply UInt8.toNat_inj.1
  unfold iv at h
  simp
  omega
end Go.Proofs.YtlhlpamciafocaaGreatDoor.L
