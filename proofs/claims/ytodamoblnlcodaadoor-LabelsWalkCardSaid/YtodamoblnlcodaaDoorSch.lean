import Derived.Test.YtodamoblnlcodaaDoorTxt
import Derived.Lib.Bytealg
namespace Go.Proofs.YtodamoblnlcodaaDoor.L
open Go.RowKit
set_option linter.unusedVariables false
/-- The first place of a byte, or -1. -/
def idx (s : ByteArray) (c : UInt8) : Int := Lib.indexByte s.data.toList c
set_option maxHeartbeats 1000000 in
set_option maxRecDepth 100000 in
theorem ib_any (s : ByteArray) (c : UInt8) (w : World) : Calls Tryd.prog 73 #[.string s, .int .u8 (c.toNat : Int)] w fun e w' => e = .returned (.int .i64 (idx s c)) ∧ w' = w := by
  go_enter Tryd.func73, Tryd.ntmps73
  go_wp2
  rw [run_callFunc_extern Tryd.func84 (by kernel_rfl) (by kernel_rfl) (by kernel_rfl) (e := Extern.BytealgIndexByte.indexByte) (by kernel_rfl), Lib.run_indexByteString]
  simp only [Result.andThen]
  rw [Oper.upon_value]
  go_wp2
  go_ret
  exact ⟨by unfold idx; simp, rfl⟩
set_option maxHeartbeats 1000000 in
set_option maxRecDepth 100000 in
theorem ix_any (s : ByteArray) (c : UInt8) (w : World) : Calls Tryd.prog 56 #[.string s, .string ⟨#[c]⟩] w fun e w' => e = .returned (.int .i64 (idx s c)) ∧ w' = w := by
  have HI := hid (fun W => ib_any s c W)
  cases h : ([c] == s.toList)
  · generalize idx s c = i at *
    go_enter Tryd.func56, Tryd.ntmps56
    go_wp2_with (go_at_call 73; refine (HI.out _).mono ?_; rintro e w1 ⟨rfl, hww⟩; subst hww)
    go_ret
    exact ⟨rfl, rfl⟩
  · have h' : idx s c = 0 := by
      simp at h
      unfold idx
      rw [← ByteArray.toList_eq, ← h]
      simp [Lib.indexByte]
    have H := hid h'
    go_enter Tryd.func56, Tryd.ntmps56
    go_wp2
    go_ret
    exact ⟨by rw [H.out]; rfl, rfl⟩
/-- What stands ahead of the first place of a byte, and behind it. -/
theorem idx_cases (s : ByteArray) (c : UInt8) : idx s c = -1 ∨ ∃ i : Nat, idx s c = i ∧ i < s.size := by
  have key : ∀ l : List UInt8, Lib.indexByte l c = -1 ∨ ∃ i : Nat, Lib.indexByte l c = i ∧ i < l.length := by
    intro l
    induction l with
    | nil => exact Or.inl rfl
    | cons b l ih =>
      unfold Lib.indexByte
      by_cases e : (b == c) = true
      · rw [if_pos e]
        exact Or.inr ⟨0, rfl, by simp⟩
      · rw [if_neg e]
        rcases ih with h | ⟨i, h, hi⟩
        · rw [h]; exact Or.inl rfl
        · rw [h, if_neg (by simp)]
          exact Or.inr ⟨i + 1, rfl, by simpa using hi⟩
  exact key _
set_option maxHeartbeats 1000000 in
set_option maxRecDepth 100000 in
theorem lcut_no (s : ByteArray) (c : UInt8) (w : World) (h : idx s c = -1) : Calls Tryd.prog 45 #[.string s, .string ⟨#[c]⟩] w fun e w' => e = .returned (.tuple #[.string s, .string ByteArray.empty, .bool false]) ∧ w' = w := by
  have HI := hid (fun W => ix_any s c W)
  rw [h] at HI
  go_enter Tryd.func45, Tryd.ntmps45
  go_wp2_with (go_at_call 56; refine (HI.out _).mono ?_; rintro e w1 ⟨rfl, hww⟩; subst hww)
  go_ret3
  exact ⟨rfl, rfl⟩
set_option maxHeartbeats 1000000 in
set_option maxRecDepth 100000 in
theorem cut_no (s : ByteArray) (c : UInt8) (w : World) (h : idx s c = -1) : Calls Tryd.prog 30 #[.string s, .string ⟨#[c]⟩] w fun e w' => e = .returned (.tuple #[.string s, .string ByteArray.empty, .bool false]) ∧ w' = w := by
  have HI := hid (fun W => lcut_no s c W h)
  go_enter Tryd.func30, Tryd.ntmps30
  go_wp2_with (go_at_call 45; refine (HI.out _).mono ?_; rintro e w1 ⟨rfl, hww⟩; subst hww)
  go_ret3
  exact ⟨rfl, rfl⟩
set_option maxHeartbeats 1000000 in
set_option maxRecDepth 100000 in
theorem lcut_yes (s : ByteArray) (c : UInt8) (i : Nat) (w : World) (hs : s.size ≤ maxLen) (h : idx s c = i) (hi : i < s.size) : Calls Tryd.prog 45 #[.string s, .string ⟨#[c]⟩] w fun e w' => e = .returned (.tuple #[.string (s.extract 0 i), .string (s.extract (i + 1) s.size), .bool true]) ∧ ∃ n, w' = w.drewN n := by
  have HI := hid (fun W => ix_any s c W)
  rw [h] at HI
  unfold maxLen at hs
  go_enter Tryd.func45, Tryd.ntmps45
  go_wp2_with (go_at_call 56; refine (HI.out _).mono ?_; rintro e w1 ⟨rfl, hww⟩; subst hww)
  go_quiet (fail)
  go_wp2_with fail
  go_ret3
  exact ⟨rfl, _, rfl⟩
set_option maxHeartbeats 1000000 in
set_option maxRecDepth 100000 in
theorem cut_yes (s : ByteArray) (c : UInt8) (i : Nat) (w : World) (hs : s.size ≤ maxLen) (h : idx s c = i) (hi : i < s.size) : Calls Tryd.prog 30 #[.string s, .string ⟨#[c]⟩] w fun e w' => e = .returned (.tuple #[.string (s.extract 0 i), .string (s.extract (i + 1) s.size), .bool true]) ∧ ∃ n, w' = w.drewN n := by
  have HI := hid (fun W => lcut_yes s c i W hs h hi)
  go_enter Tryd.func30, Tryd.ntmps30
  go_wp2_with (go_at_call 45; refine (HI.out _).mono ?_; rintro e w1 ⟨rfl, n, hww⟩; subst hww)
  go_ret3
  exact ⟨rfl, n, rfl⟩
set_option maxHeartbeats 1000000 in
set_option maxRecDepth 100000 in
theorem sindex_any (s : ByteArray) (c : UInt8) (w : World) : Calls Tryd.prog 44 #[.string s, .string ⟨#[c]⟩] w fun e w' => e = .returned (.int .i64 (idx s c)) ∧ w' = w := by
  have HI := hid (fun W => ix_any s c W)
  generalize idx s c = i at *
  go_enter Tryd.func44, Tryd.ntmps44
  go_wp2_with (go_at_call 56; refine (HI.out _).mono ?_; rintro e w1 ⟨rfl, hww⟩; subst hww)
  go_ret
  exact ⟨rfl, rfl⟩
set_option maxHeartbeats 1000000 in
set_option maxRecDepth 100000 in
theorem count_any (s : ByteArray) (c : UInt8) (w : World) : Calls Tryd.prog 43 #[.string s, .string ⟨#[c]⟩] w fun e w' => e = .returned (.int .i64 (Lib.countByte s.data.toList c)) ∧ w' = w := by
  go_enter Tryd.func43, Tryd.ntmps43
  go_wp2
  rw [run_callFunc_extern Tryd.func55 (by kernel_rfl) (by kernel_rfl) (by kernel_rfl) (e := Extern.BytealgCount.count) (by kernel_rfl), Lib.run_countString]
  simp only [Result.andThen]
  rw [Oper.upon_value]
  go_wp2
  go_ret
  exact ⟨by simp; rfl, rfl⟩
set_option maxHeartbeats 1000000 in
set_option maxRecDepth 100000 in
theorem cmp_any (a b : ByteArray) (w : World) : Calls Tryd.prog 35 #[.string a, .string b] w fun e w' => e = .returned (.int .i64 (Lib.compareBytes a.data.toList b.data.toList)) ∧ w' = w := by
  go_enter Tryd.func35, Tryd.ntmps35
  go_wp2
  rw [run_callFunc_extern Tryd.func71 (by kernel_rfl) (by kernel_rfl) (by kernel_rfl) (e := Extern.BytealgCompare.compare) (by kernel_rfl), Lib.run_compareString]
  simp only [Result.andThen]
  rw [Oper.upon_value]
  go_wp2
  go_ret
  exact ⟨rfl, rfl⟩
end Go.Proofs.YtodamoblnlcodaaDoor.L
