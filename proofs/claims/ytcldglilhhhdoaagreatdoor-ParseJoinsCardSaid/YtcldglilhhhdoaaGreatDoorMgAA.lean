import Derived.WalkKit
import Derived.WalkSpells
import Derived.WalkLawsBesides
import Derived.Handy
import Derived.Test.YtcldglilhhhdoaaGreatDoorProg
import Derived.Deep.QuietTactic
import Derived.BigQuiet
import Derived.OwnWalk
import Derived.Laws.AppendOwnNone
import Derived.Lib.Bytealg
namespace Go.Proofs.YtcldglilhhhdoaaGreatDoor.L
open Go.RowKit
set_option linter.unusedVariables false
theorem hid {p : Prop} (h : p) : Hid p := h
theorem ret_bool {a b : Bool} (h : a = b) : Ending.returned (.bool a) = .returned (.bool b) := by rw [h]
theorem below_drewN {B : Nat} {a w : World} (h : Below B a w) (n : Nat) : Below B a (w.drewN n) := ⟨h.os, h.tape, h.output, h.size, h.block⟩
theorem belowA (w : World) (o : Obj) : Below w.heap.size w (w.alloc o) := (Below.refl _ _).alloc (Nat.le_refl _) _
/-- A byte as the number that it is. -/
def iv (c : UInt8) : Int := (c.toNat : Int)
/-- The byte at a place; 0 behind the end. -/
def bt (s : ByteArray) (i : Nat) : UInt8 := s.data.toList.getD i 0
theorem bt_get (s : ByteArray) (k : Nat) (h : k < s.size) : bt s k = s[k]'h := by
  unfold bt
  simp [h]
  rfl
theorem bt_out (s : ByteArray) (k : Nat) (h : s.size ≤ k) : bt s k = 0 := by
  unfold bt
  rw [List.getD_eq_getElem?_getD, List.getElem?_eq_none (by simpa using h)]
  rfl
theorem all_u8 {p : UInt8 → Bool} (h : (List.range 256).all (fun n => p (UInt8.ofNat n)) = true) (c : UInt8) : p c = true := by
  rw [List.all_eq_true] at h
  have := h c.toNat (by simp; exact c.toNat_lt)
  simpa using this
/-- The first place of a byte, or -1. -/
def idx (s : ByteArray) (c : UInt8) : Int := Lib.indexByte s.data.toList c
set_option maxHeartbeats 1000000 in
set_option maxRecDepth 100000 in
theorem ib_any (s : ByteArray) (c : UInt8) (w : World) : Calls Tryz.prog 71 #[.string s, .int .u8 (iv c)] w fun e w' => e = .returned (.int .i64 (idx s c)) ∧ w' = w := by
  unfold iv
  go_enter Tryz.func71, Tryz.ntmps71
  go_wp2
  rw [run_callFunc_extern Tryz.func91 (by kernel_rfl) (by kernel_rfl) (by kernel_rfl) (e := Extern.BytealgIndexByte.indexByte) (by kernel_rfl), Lib.run_indexByteString]
  simp only [Result.andThen]
  rw [Oper.upon_value]
  go_wp2
  go_ret
  exact ⟨by unfold idx; simp, rfl⟩
set_option maxHeartbeats 1000000 in
theorem sib_any (s : ByteArray) (c : UInt8) (w : World) : Calls Tryz.prog 50 #[.string s, .int .u8 (iv c)] w fun e w' => e = .returned (.int .i64 (idx s c)) ∧ w' = w := by
  have HI := hid (fun W => ib_any s c W)
  generalize idx s c = r at *
  generalize iv c = x at *
  go_enter Tryz.func50, Tryz.ntmps50
  go_wp2_with (go_at_call 71; refine (HI.out _).mono ?_; rintro e w1 ⟨rfl, hww⟩; subst hww)
  go_ret
  exact ⟨rfl, rfl⟩
/-- What the first place of a byte is. -/
theorem idx_cases (s : ByteArray) (c : UInt8) : idx s c = -1 ∨ ∃ i : Nat, idx s c = i ∧ i < s.size := by
  have key : ∀ l : List UInt8, Lib.indexByte l c = -1 ∨ ∃ i : Nat, Lib.indexByte l c = i ∧ i < l.length := by
    intro l
    induction l with
    | nil => exact Or.inl rfl
    | cons b l ih =>
      unfold Lib.indexByte
      by_cases e : (b == c) = true
      · rw [if_pos e]
        exact Or.inr ⟨0, rfl, by simp⟩
      · rw [if_neg e]
        rcases ih with h | ⟨i, h, hi⟩
        · rw [h]; exact Or.inl rfl
        · rw [h, if_neg (by simp)]
          exact Or.inr ⟨i + 1, rfl, by simpa using hi⟩
  exact key _
def hexv (x : Int) : Int := if 48 ≤ x ∧ x ≤ 57 then x - 48 else if 97 ≤ x ∧ x ≤ 102 then x - 87 else if 65 ≤ x ∧ x ≤ 70 then x - 55 else -1
def sixteen : ByteArray := ⟨#[48, 49, 50, 51, 52, 53, 54, 55, 56, 57, 97, 98, 99, 100, 101, 102]⟩
theorem idx_low (c : UInt8) (h : ¬ (65 ≤ iv c ∧ iv c ≤ 70)) : idx sixteen c = hexv (iv c) := by
  have := all_u8 (p := fun c => decide (65 ≤ iv c ∧ iv c ≤ 70) || decide (idx sixteen c = hexv (iv c))) (by decide +kernel) c
  simp at this
  rcases this with e | e
  · exact absurd e h
  · exact e
theorem idx_up (c : UInt8) (h : 65 ≤ iv c ∧ iv c ≤ 70) : idx sixteen (c + 32) = hexv (iv c) ∧ iv (c + 32) = iv c + 32 := by
  have := all_u8 (p := fun c => ! decide (65 ≤ iv c ∧ iv c ≤ 70) || decide (idx sixteen (c + 32) = hexv (iv c) ∧ iv (c + 32) = iv c + 32)) (by decide +kernel) c
  simp at this
  rcases this with e | e
  · omega
  · exact e
set_option maxHeartbeats 1000000 in
theorem worth_any (c : UInt8) (w : World) : Calls Tryz.prog 108 #[.int .u8 (iv c)] w fun e w' => e = .returned (.int .i64 (hexv (iv c))) ∧ w' = w := by
  by_cases h : 65 ≤ iv c ∧ iv c ≤ 70
  · obtain ⟨h1, h2⟩ := idx_up c h
    have HI := hid (fun W => sib_any sixteen (c + 32) W)
    rw [h1, h2] at HI
    clear h1 h2
    obtain ⟨ha, hb⟩ := h
    generalize hexv (iv c) = r at *
    generalize iv c = x at *
    unfold sixteen at HI
    go_enter Tryz.func108, Tryz.ntmps108
    go_wp2_with (go_at_call 50; refine (HI.out _).mono ?_; rintro e w1 ⟨rfl, hww⟩; subst hww)
    go_ret
    exact ⟨rfl, rfl⟩
  · have HI := hid (fun W => sib_any sixteen c W)
    rw [idx_low c h] at HI
    generalize hexv (iv c) = r at *
    generalize iv c = x at *
    unfold sixteen at HI
    by_cases ha : 65 ≤ x
    · have hb : ¬ x ≤ 70 := fun hb => h ⟨ha, hb⟩
      clear h
      go_enter Tryz.func108, Tryz.ntmps108
      go_wp2_with (go_at_call 50; refine (HI.out _).mono ?_; rintro e w1 ⟨rfl, hww⟩; subst hww)
      go_ret
      exact ⟨rfl, rfl⟩
    · clear h
      go_enter Tryz.func108, Tryz.ntmps108
      go_wp2_with (go_at_call 50; refine (HI.out _).mono ?_; rintro e w1 ⟨rfl, hww⟩; subst hww)
      go_ret
      exact ⟨rfl, rfl⟩
end Go.Proofs.YtcldglilhhhdoaaGreatDoor.L
namespace Go.Proofs.YtcldglilhhhdoaaGreatDoor.L
open Go.RowKit
set_option linter.unusedVariables false
/-- What an escape stands for, by the three bytes behind the backslash, and its length; length 0: none. -/
def escV (a b c : UInt8) : UInt8 × Nat :=
  if a = 34 then (34, 2) else if a = 92 then (92, 2) else if a = 110 then (10, 2) else if a = 116 then (9, 2) else if a = 114 then (13, 2)
  else if a = 120 ∧ 0 ≤ hexv (iv b) ∧ 0 ≤ hexv (iv c) then (UInt8.ofNat (16 * hexv (iv b) + hexv (iv c)).toNat, 4) else (0, 0)
def escaped : ByteArray := ⟨#[34, 92, 110, 116, 114]⟩
theorem idx_esc (a : UInt8) (h1 : a ≠ 34) (h2 : a ≠ 92) (h3 : a ≠ 110) (h4 : a ≠ 116) (h5 : a ≠ 114) : idx escaped a = -1 := by
  have := all_u8 (p := fun a => a == 34 || a == 92 || a == 110 || a == 116 || a == 114 || decide (idx escaped a = -1)) (by decide +kernel) a
  simpa [h1, h2, h3, h4, h5] using this
theorem hex_range (c : UInt8) : hexv (iv c) = -1 ∨ (0 ≤ hexv (iv c) ∧ hexv (iv c) ≤ 15) := by
  unfold hexv
  split
  · right; omega
  · split
    · right; omega
    · split
      · right; omega
      · left; rfl
theorem iv_get (s : ByteArray) (k : Nat) (h : k < s.size) : ((s[k]'h).toNat : Int) = iv (bt s k) := by
  rw [bt_get s k h]; rfl
theorem esc_x0 (w : World) (t : ByteArray) (hs : t.size < 2) (hm : t.size ≤ maxLen) :
    Calls Tryz.prog 97 #[.string t] w fun e w' => e = .returned (.tuple #[.int .u8 0, .int .i64 0]) ∧ ∃ n, w' = w.drewN n := by
  unfold maxLen at hm
  go_enter Tryz.func97, Tryz.ntmps97
  go_wp2
  go_ret2
  exact ⟨rfl, 0, rfl⟩
set_option maxHeartbeats 2000000 in
theorem esc_two (w : World) (t : ByteArray) (a v : UInt8) (k : Nat) (hs : 2 ≤ t.size) (hm : t.size ≤ maxLen) (ha : bt t 1 = a) (h : (a = 34 ∧ v = 34) ∨ (a = 92 ∧ v = 92) ∨ (a = 110 ∧ v = 10) ∨ (a = 116 ∧ v = 9) ∨ (a = 114 ∧ v = 13)) :
    Calls Tryz.prog 97 #[.string t] w fun e w' => e = .returned (.tuple #[.int .u8 (iv v), .int .i64 2]) ∧ ∃ n, w' = w.drewN n := by
  unfold maxLen at hm
  have h1 : 1 < t.size := by omega
  obtain ⟨x, hx⟩ : ∃ x : Int, ((t[1]'h1).toNat : Int) = x := ⟨_, rfl⟩
  have HI := hid (fun W => sib_any escaped a W)
  have hxa : x = iv a := by rw [← hx, iv_get t 1 h1, ha]
  unfold escaped at HI
  have hs2 : ¬ t.size < 2 := by omega
  rcases h with ⟨rfl, rfl⟩ | ⟨rfl, rfl⟩ | ⟨rfl, rfl⟩ | ⟨rfl, rfl⟩ | ⟨rfl, rfl⟩ <;>
  · simp only [show ∀ c, idx ⟨#[34, 92, 110, 116, 114]⟩ c = Lib.indexByte [34, 92, 110, 116, 114] c from fun c => rfl, Lib.indexByte] at HI
    simp at HI
    rw [← hxa] at HI
    clear ha hxa
    go_enter Tryz.func97, Tryz.ntmps97
    go_wp2_with (go_at_call 50; refine (HI.out _).mono ?_; rintro e w1 ⟨rfl, hww⟩; subst hww)
    go_ret2
    exact ⟨rfl, 0, rfl⟩
set_option maxHeartbeats 2000000 in
theorem esc_not (w : World) (t : ByteArray) (hs : 2 ≤ t.size) (hm : t.size ≤ maxLen) (hi : idx escaped (bt t 1) = -1) (h : bt t 1 ≠ 120 ∨ t.size < 4) :
    Calls Tryz.prog 97 #[.string t] w fun e w' => e = .returned (.tuple #[.int .u8 0, .int .i64 0]) ∧ ∃ n, w' = w.drewN n := by
  unfold maxLen at hm
  have h1 : 1 < t.size := by omega
  obtain ⟨x, hx⟩ : ∃ x : Int, ((t[1]'h1).toNat : Int) = x := ⟨_, rfl⟩
  have HI := hid (fun W => sib_any escaped (bt t 1) W)
  rw [hi] at HI
  have hxa : iv (bt t 1) = x := by rw [← hx, iv_get t 1 h1]
  rw [hxa] at HI
  unfold escaped at HI
  have hs2 : ¬ t.size < 2 := by omega
  by_cases c : x = 120
  · have c4 : t.size < 4 := by
      rcases h with h | h
      · exact absurd (show bt t 1 = 120 by apply UInt8.toNat_inj.1; have : iv (bt t 1) = 120 := by rw [hxa, c]
                                           unfold iv at this; show (bt t 1).toNat = 120; omega) h
      · exact h
    clear h hxa hi
    subst c
    go_enter Tryz.func97, Tryz.ntmps97
    go_wp2_with (go_at_call 50; refine (HI.out _).mono ?_; rintro e w1 ⟨rfl, hww⟩; subst hww)
    go_ret2
    exact ⟨rfl, 0, rfl⟩
  · have c' : (x != 120) = true := by simpa using c
    clear h hxa hi c
    go_enter Tryz.func97, Tryz.ntmps97
    go_wp2_with (go_at_call 50; refine (HI.out _).mono ?_; rintro e w1 ⟨rfl, hww⟩; subst hww)
    go_ret2
    exact ⟨rfl, 0, rfl⟩
theorem or_hex (n m : Fin 16) : bits BinOp.or IntKind.i64 ((n.val : Int) * 16) (m.val : Int) % 256 = iv (UInt8.ofNat (16 * n.val + m.val)) := by
  have : (List.range 256).all (fun k => decide (bits BinOp.or IntKind.i64 (((k / 16 : Nat) : Int) * 16) ((k % 16 : Nat) : Int) % 256 = iv (UInt8.ofNat (16 * (k / 16) + k % 16)))) = true := by decide +kernel
  rw [List.all_eq_true] at this
  have h := this (16 * n.val + m.val) (by simp; omega)
  simp only [decide_eq_true_eq] at h
  rw [show (16 * n.val + m.val) / 16 = n.val by omega, show (16 * n.val + m.val) % 16 = m.val by omega] at h
  exact h
set_option maxHeartbeats 4000000 in
theorem esc_hex (w : World) (t : ByteArray) (hs : 4 ≤ t.size) (hm : t.size ≤ maxLen) (h : bt t 1 = 120) :
    Calls Tryz.prog 97 #[.string t] w fun e w' => e = .returned (.tuple #[.int .u8 (iv (escV 120 (bt t 2) (bt t 3)).1), .int .i64 (escV 120 (bt t 2) (bt t 3)).2]) ∧ ∃ n, w' = w.drewN n := by
  unfold maxLen at hm
  have h1 : 1 < t.size := by omega
  have h2 : 2 < t.size := by omega
  have h3 : 3 < t.size := by omega
  obtain ⟨x, hx⟩ : ∃ x : Int, ((t[1]'h1).toNat : Int) = x := ⟨_, rfl⟩
  obtain ⟨y, hy⟩ : ∃ y : Int, ((t[2]'h2).toNat : Int) = y := ⟨_, rfl⟩
  obtain ⟨z, hz⟩ : ∃ z : Int, ((t[3]'h3).toNat : Int) = z := ⟨_, rfl⟩
  have hxa : x = 120 := by rw [← hx, iv_get t 1 h1, h]; rfl
  have HI := hid (fun W => sib_any escaped 120 W)
  unfold escaped at HI
  simp only [show ∀ c, idx ⟨#[34, 92, 110, 116, 114]⟩ c = Lib.indexByte [34, 92, 110, 116, 114] c from fun c => rfl, Lib.indexByte] at HI
  simp at HI
  have e120 : iv 120 = 120 := rfl
  rw [e120] at HI
  have HY := hid (fun W => worth_any (bt t 2) W)
  have HZ := hid (fun W => worth_any (bt t 3) W)
  have hya : iv (bt t 2) = y := by rw [← hy, iv_get t 2 h2]
  have hza : iv (bt t 3) = z := by rw [← hz, iv_get t 3 h3]
  have ry := hex_range (bt t 2)
  have rz := hex_range (bt t 3)
  have HE := hid (show escV 120 (bt t 2) (bt t 3) = if 0 ≤ hexv (iv (bt t 2)) ∧ 0 ≤ hexv (iv (bt t 3)) then (UInt8.ofNat (16 * hexv (iv (bt t 2)) + hexv (iv (bt t 3))).toNat, 4) else (0, 0) by
    unfold escV
    simp)
  generalize escV 120 (bt t 2) (bt t 3) = E at *
  rw [hya, hza] at HE
  rw [hya] at HY ry
  rw [hza] at HZ rz
  obtain ⟨p, hp⟩ : ∃ p : Int, hexv y = p := ⟨_, rfl⟩
  obtain ⟨q, hq⟩ : ∃ q : Int, hexv z = q := ⟨_, rfl⟩
  rw [hp, hq] at HE
  rw [hp] at HY ry
  rw [hq] at HZ rz
  clear hya hza hp hq h
  subst hxa
  have hs2 : ¬ t.size < 2 := by omega
  have hs4 : ¬ t.size < 4 := by omega
  by_cases c : 0 ≤ p ∧ 0 ≤ q
  · rw [Hid, if_pos c] at HE
    obtain ⟨n, rfl⟩ : ∃ n : Nat, p = n := ⟨p.toNat, by omega⟩
    obtain ⟨m, rfl⟩ : ∃ m : Nat, q = m := ⟨q.toNat, by omega⟩
    have HE := hid HE
    have hn : n ≤ 15 := by omega
    have hmm : m ≤ 15 := by omega
    clear ry rz c
    go_enter Tryz.func97, Tryz.ntmps97
    go_wp2_with (go_at_call 50; refine (HI.out _).mono ?_; rintro e w1 ⟨rfl, hww⟩; subst hww)
    go_quiet ((go_at_call 108; first | with_reducible exact Calls.quiet_of_same (HY.out _) | with_reducible exact Calls.quiet_of_same (HZ.out _)))
    go_wp2
    go_ret2
    refine ⟨?_, _, rfl⟩
    rw [HE.out]
    have := or_hex ⟨n, by omega⟩ ⟨m, by omega⟩
    simp only at this
    rw [show (16 * (n : Int) + (m : Int)).toNat = 16 * n + m by omega, ← this]
    rfl
  · rw [Hid, if_neg c] at HE
    subst HE
    by_cases cp : p = -1
    · subst cp
      clear c ry
      go_enter Tryz.func97, Tryz.ntmps97
      go_wp2_with (go_at_call 50; refine (HI.out _).mono ?_; rintro e w1 ⟨rfl, hww⟩; subst hww)
      go_quiet ((go_at_call 108; first | with_reducible exact Calls.quiet_of_same (HY.out _) | with_reducible exact Calls.quiet_of_same (HZ.out _)))
      go_wp2
      go_ret2
      exact ⟨rfl, _, rfl⟩
    · have cq : q = -1 := by omega
      obtain ⟨n, rfl⟩ : ∃ n : Nat, p = n := ⟨p.toNat, by omega⟩
      subst cq
      clear c ry rz
      go_enter Tryz.func97, Tryz.ntmps97
      go_wp2_with (go_at_call 50; refine (HI.out _).mono ?_; rintro e w1 ⟨rfl, hww⟩; subst hww)
      go_quiet ((go_at_call 108; first | with_reducible exact Calls.quiet_of_same (HY.out _) | with_reducible exact Calls.quiet_of_same (HZ.out _)))
      go_wp2
      go_ret2
      exact ⟨rfl, _, rfl⟩
/-- What readEscape answers. -/
theorem rescape_any (w : World) (t : ByteArray) (hm : t.size ≤ maxLen) :
    Calls Tryz.prog 97 #[.string t] w fun e w' => e = .returned (.tuple #[.int .u8 (iv (escV (bt t 1) (bt t 2) (bt t 3)).1), .int .i64 (escV (bt t 1) (bt t 2) (bt t 3)).2]) ∧ ∃ n, w' = w.drewN n := by
  by_cases h2 : t.size < 2
  · have : escV (bt t 1) (bt t 2) (bt t 3) = (0, 0) := by rw [bt_out t 1 (by omega)]; simp [escV]
    rw [this]
    exact esc_x0 w t h2 hm
  have h2' : 2 ≤ t.size := by omega
  by_cases c1 : bt t 1 = 34
  · rw [show escV (bt t 1) (bt t 2) (bt t 3) = (34, 2) by rw [c1]; simp [escV]]
    exact esc_two w t 34 34 0 h2' hm c1 (by simp)
  by_cases c2 : bt t 1 = 92
  · rw [show escV (bt t 1) (bt t 2) (bt t 3) = (92, 2) by rw [c2]; simp [escV]]
    exact esc_two w t 92 92 0 h2' hm c2 (by simp)
  by_cases c3 : bt t 1 = 110
  · rw [show escV (bt t 1) (bt t 2) (bt t 3) = (10, 2) by rw [c3]; simp [escV]]
    exact esc_two w t 110 10 0 h2' hm c3 (by simp)
  by_cases c4 : bt t 1 = 116
  · rw [show escV (bt t 1) (bt t 2) (bt t 3) = (9, 2) by rw [c4]; simp [escV]]
    exact esc_two w t 116 9 0 h2' hm c4 (by simp)
  by_cases c5 : bt t 1 = 114
  · rw [show escV (bt t 1) (bt t 2) (bt t 3) = (13, 2) by rw [c5]; simp [escV]]
    exact esc_two w t 114 13 0 h2' hm c5 (by simp)
  by_cases c6 : bt t 1 = 120
  · by_cases h4 : t.size < 4
    · have : escV (bt t 1) (bt t 2) (bt t 3) = (0, 0) := by
        rw [bt_out t 3 (by omega), c6]
        unfold escV
        simp
        intro _
        decide
      rw [this]
      exact esc_not w t h2' hm (idx_esc _ c1 c2 c3 c4 c5) (Or.inr h4)
    · rw [c6]
      exact esc_hex w t (by omega) hm c6
  · have : escV (bt t 1) (bt t 2) (bt t 3) = (0, 0) := by simp [escV, c1, c2, c3, c4, c5, c6]
    rw [this]
    exact esc_not w t h2' hm (idx_esc _ c1 c2 c3 c4 c5) (Or.inl c6)
end Go.Proofs.YtcldglilhhhdoaaGreatDoor.L
