import Derived.WalkKit
import Derived.WalkSpells
import Derived.WalkLawsBesides
import Derived.Handy
import Derived.Test.YtbplmglddinkdaaDoorProg
import Derived.Deep.QuietTactic
import Derived.BigQuiet
import Derived.OwnWalk
import Derived.Laws.AppendOwnNone
import Derived.Lib.Bytealg
namespace Go.Proofs.YtbplmglddinkdaaDoor.L
open Go.RowKit
set_option linter.unusedVariables false
theorem hid {p : Prop} (h : p) : Hid p := h
theorem ret_bool {a b : Bool} (h : a = b) : Ending.returned (.bool a) = .returned (.bool b) := by rw [h]
theorem below_drewN {B : Nat} {a w : World} (h : Below B a w) (n : Nat) : Below B a (w.drewN n) := ⟨h.os, h.tape, h.output, h.size, h.block⟩
theorem belowA (w : World) (o : Obj) : Below w.heap.size w (w.alloc o) := (Below.refl _ _).alloc (Nat.le_refl _) _
/-- A byte as the number that it is. -/
def iv (c : UInt8) : Int := (c.toNat : Int)
theorem iv_lt (c : UInt8) : 0 ≤ iv c ∧ iv c < 256 := by
  unfold iv
  have := c.toNat_lt
  omega
/-- The byte at a place; 0 behind the end. -/
def bt (s : ByteArray) (i : Nat) : UInt8 := s.data.toList.getD i 0
theorem bt_get (s : ByteArray) (k : Nat) (h : k < s.size) : bt s k = s[k]'h := by
  unfold bt
  simp [h]
  rfl
theorem bt_out (s : ByteArray) (k : Nat) (h : s.size ≤ k) : bt s k = 0 := by
  unfold bt
  rw [List.getD_eq_getElem?_getD, List.getElem?_eq_none (by simpa using h)]
  rfl
theorem all_u8 {p : UInt8 → Bool} (h : (List.range 256).all (fun n => p (UInt8.ofNat n)) = true) (c : UInt8) : p c = true := by
  rw [List.all_eq_true] at h
  have := h c.toNat (by simp; exact c.toNat_lt)
  simpa using this
/-- The first place of a byte, or -1. -/
def idx (s : ByteArray) (c : UInt8) : Int := Lib.indexByte s.data.toList c
set_option maxHeartbeats 1000000 in
set_option maxRecDepth 100000 in
theorem ib_any (s : ByteArray) (c : UInt8) (w : World) : Calls Tryd.prog 54 #[.string s, .int .u8 (iv c)] w fun e w' => e = .returned (.int .i64 (idx s c)) ∧ w' = w := by
  unfold iv
  go_enter Tryd.func54, Tryd.ntmps54
  go_wp2
  rw [run_callFunc_extern Tryd.func63 (by kernel_rfl) (by kernel_rfl) (by kernel_rfl) (e := Extern.BytealgIndexByte.indexByte) (by kernel_rfl), Lib.run_indexByteString]
  simp only [Result.andThen]
  rw [Oper.upon_value]
  go_wp2
  go_ret
  exact ⟨by unfold idx; simp, rfl⟩
set_option maxHeartbeats 1000000 in
theorem sib_any (s : ByteArray) (c : UInt8) (w : World) : Calls Tryd.prog 41 #[.string s, .int .u8 (iv c)] w fun e w' => e = .returned (.int .i64 (idx s c)) ∧ w' = w := by
  have HI := hid (fun W => ib_any s c W)
  generalize idx s c = r at *
  generalize iv c = x at *
  go_enter Tryd.func41, Tryd.ntmps41
  go_wp2_with (go_at_call 54; refine (HI.out _).mono ?_; rintro e w1 ⟨rfl, hww⟩; subst hww)
  go_ret
  exact ⟨rfl, rfl⟩
/-- What the first place of a byte is. -/
theorem idx_cases (s : ByteArray) (c : UInt8) : idx s c = -1 ∨ ∃ i : Nat, idx s c = i ∧ i < s.size := by
  have key : ∀ l : List UInt8, Lib.indexByte l c = -1 ∨ ∃ i : Nat, Lib.indexByte l c = i ∧ i < l.length := by
    intro l
    induction l with
    | nil => exact Or.inl rfl
    | cons b l ih =>
      unfold Lib.indexByte
      by_cases e : (b == c) = true
      · rw [if_pos e]
        exact Or.inr ⟨0, rfl, by simp⟩
      · rw [if_neg e]
        rcases ih with h | ⟨i, h, hi⟩
        · rw [h]; exact Or.inl rfl
        · rw [h, if_neg (by simp)]
          exact Or.inr ⟨i + 1, rfl, by simpa using hi⟩
  exact key _
def hexv (x : Int) : Int := if 48 ≤ x ∧ x ≤ 57 then x - 48 else if 97 ≤ x ∧ x ≤ 102 then x - 87 else if 65 ≤ x ∧ x ≤ 70 then x - 55 else -1
def sixteen : ByteArray := ⟨#[48, 49, 50, 51, 52, 53, 54, 55, 56, 57, 97, 98, 99, 100, 101, 102]⟩
theorem idx_low (c : UInt8) (h : ¬ (65 ≤ iv c ∧ iv c ≤ 70)) : idx sixteen c = hexv (iv c) := by
  have := all_u8 (p := fun c => decide (65 ≤ iv c ∧ iv c ≤ 70) || decide (idx sixteen c = hexv (iv c))) (by decide +kernel) c
  simp at this
  rcases this with e | e
  · exact absurd e h
  · exact e
theorem idx_up (c : UInt8) (h : 65 ≤ iv c ∧ iv c ≤ 70) : idx sixteen (c + 32) = hexv (iv c) ∧ iv (c + 32) = iv c + 32 := by
  have := all_u8 (p := fun c => ! decide (65 ≤ iv c ∧ iv c ≤ 70) || decide (idx sixteen (c + 32) = hexv (iv c) ∧ iv (c + 32) = iv c + 32)) (by decide +kernel) c
  simp at this
  rcases this with e | e
  · omega
  · exact e
set_option maxHeartbeats 1000000 in
theorem worth_any (c : UInt8) (w : World) : Calls Tryd.prog 55 #[.int .u8 (iv c)] w fun e w' => e = .returned (.int .i64 (hexv (iv c))) ∧ w' = w := by
  by_cases h : 65 ≤ iv c ∧ iv c ≤ 70
  · obtain ⟨h1, h2⟩ := idx_up c h
    have HI := hid (fun W => sib_any sixteen (c + 32) W)
    rw [h1, h2] at HI
    clear h1 h2
    obtain ⟨ha, hb⟩ := h
    generalize hexv (iv c) = r at *
    generalize iv c = x at *
    unfold sixteen at HI
    go_enter Tryd.func55, Tryd.ntmps55
    go_wp2_with (go_at_call 41; refine (HI.out _).mono ?_; rintro e w1 ⟨rfl, hww⟩; subst hww)
    go_ret
    exact ⟨rfl, rfl⟩
  · have HI := hid (fun W => sib_any sixteen c W)
    rw [idx_low c h] at HI
    generalize hexv (iv c) = r at *
    generalize iv c = x at *
    unfold sixteen at HI
    by_cases ha : 65 ≤ x
    · have hb : ¬ x ≤ 70 := fun hb => h ⟨ha, hb⟩
      clear h
      go_enter Tryd.func55, Tryd.ntmps55
      go_wp2_with (go_at_call 41; refine (HI.out _).mono ?_; rintro e w1 ⟨rfl, hww⟩; subst hww)
      go_ret
      exact ⟨rfl, rfl⟩
    · clear h
      go_enter Tryd.func55, Tryd.ntmps55
      go_wp2_with (go_at_call 41; refine (HI.out _).mono ?_; rintro e w1 ⟨rfl, hww⟩; subst hww)
      go_ret
      exact ⟨rfl, rfl⟩
end Go.Proofs.YtbplmglddinkdaaDoor.L
