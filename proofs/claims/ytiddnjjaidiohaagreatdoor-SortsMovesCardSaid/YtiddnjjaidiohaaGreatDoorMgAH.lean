import Derived.Test.YtiddnjjaidiohaaGreatDoorMgAG
import Derived.Lib.Bytealg
import Derived.Shelf.Strings.Split
import Derived.Test.YtiddnjjaidiohaaGreatDoorProg
namespace Go.Proofs.YtiddnjjaidiohaaGreatDoor.L
open Go.RowKit
set_option linter.unusedVariables false
/-- The first place of a byte, or -1. -/
def idx (s : ByteArray) (c : UInt8) : Int := Lib.indexByte s.data.toList c
set_option maxHeartbeats 1000000 in
set_option maxRecDepth 100000 in
theorem ib_any (s : ByteArray) (c : UInt8) (w : World) : Calls Tryz.prog 113 #[.string s, .int .u8 (c.toNat : Int)] w fun e w' => e = .returned (.int .i64 (idx s c)) ∧ w' = w := by
  go_enter Tryz.func113, Tryz.ntmps113
  go_wp2
  rw [run_callFunc_extern Tryz.func120 (by kernel_rfl) (by kernel_rfl) (by kernel_rfl) (e := Extern.BytealgIndexByte.indexByte) (by kernel_rfl), Lib.run_indexByteString]
  simp only [Result.andThen]
  rw [Oper.upon_value]
  go_wp2
  go_ret
  exact ⟨by unfold idx; simp, rfl⟩
set_option maxHeartbeats 1000000 in
set_option maxRecDepth 100000 in
theorem ix_any (s : ByteArray) (c : UInt8) (w : World) : Calls Tryz.prog 110 #[.string s, .string ⟨#[c]⟩] w fun e w' => e = .returned (.int .i64 (idx s c)) ∧ w' = w := by
  have HI := hid (fun W => ib_any s c W)
  cases h : ([c] == s.toList)
  · generalize idx s c = i at *
    go_enter Tryz.func110, Tryz.ntmps110
    go_wp2_with (go_at_call 113; refine (HI.out _).mono ?_; rintro e w1 ⟨rfl, hww⟩; subst hww)
    go_ret
    exact ⟨rfl, rfl⟩
  · have h' : idx s c = 0 := by
      simp at h
      unfold idx
      rw [← ByteArray.toList_eq, ← h]
      simp [Lib.indexByte]
    have H := hid h'
    go_enter Tryz.func110, Tryz.ntmps110
    go_wp2
    go_ret
    exact ⟨by rw [H.out]; rfl, rfl⟩
/-- What stands ahead of the first place of a byte, and behind it. -/
theorem idx_cases (s : ByteArray) (c : UInt8) : idx s c = -1 ∨ ∃ i : Nat, idx s c = i ∧ i < s.size := by
  have key : ∀ l : List UInt8, Lib.indexByte l c = -1 ∨ ∃ i : Nat, Lib.indexByte l c = i ∧ i < l.length := by
    intro l
    induction l with
    | nil => exact Or.inl rfl
    | cons b l ih =>
      unfold Lib.indexByte
      by_cases e : (b == c) = true
      · rw [if_pos e]
        exact Or.inr ⟨0, rfl, by simp⟩
      · rw [if_neg e]
        rcases ih with h | ⟨i, h, hi⟩
        · rw [h]; exact Or.inl rfl
        · rw [h, if_neg (by simp)]
          exact Or.inr ⟨i + 1, rfl, by simpa using hi⟩
  exact key _
set_option maxHeartbeats 1000000 in
set_option maxRecDepth 100000 in
theorem lcut_no (s : ByteArray) (c : UInt8) (w : World) (h : idx s c = -1) : Calls Tryz.prog 105 #[.string s, .string ⟨#[c]⟩] w fun e w' => e = .returned (.tuple #[.string s, .string ByteArray.empty, .bool false]) ∧ w' = w := by
  have HI := hid (fun W => ix_any s c W)
  rw [h] at HI
  go_enter Tryz.func105, Tryz.ntmps105
  go_wp2_with (go_at_call 110; refine (HI.out _).mono ?_; rintro e w1 ⟨rfl, hww⟩; subst hww)
  go_ret3
  exact ⟨rfl, rfl⟩
set_option maxHeartbeats 1000000 in
set_option maxRecDepth 100000 in
theorem cut_no (s : ByteArray) (c : UInt8) (w : World) (h : idx s c = -1) : Calls Tryz.prog 100 #[.string s, .string ⟨#[c]⟩] w fun e w' => e = .returned (.tuple #[.string s, .string ByteArray.empty, .bool false]) ∧ w' = w := by
  have HI := hid (fun W => lcut_no s c W h)
  go_enter Tryz.func100, Tryz.ntmps100
  go_wp2_with (go_at_call 105; refine (HI.out _).mono ?_; rintro e w1 ⟨rfl, hww⟩; subst hww)
  go_ret3
  exact ⟨rfl, rfl⟩
set_option maxHeartbeats 1000000 in
set_option maxRecDepth 100000 in
theorem lcut_yes (s : ByteArray) (c : UInt8) (i : Nat) (w : World) (hs : s.size ≤ maxLen) (h : idx s c = i) (hi : i < s.size) : Calls Tryz.prog 105 #[.string s, .string ⟨#[c]⟩] w fun e w' => e = .returned (.tuple #[.string (s.extract 0 i), .string (s.extract (i + 1) s.size), .bool true]) ∧ ∃ n, w' = w.drewN n := by
  have HI := hid (fun W => ix_any s c W)
  rw [h] at HI
  unfold maxLen at hs
  go_enter Tryz.func105, Tryz.ntmps105
  go_wp2_with (go_at_call 110; refine (HI.out _).mono ?_; rintro e w1 ⟨rfl, hww⟩; subst hww)
  go_quiet (fail)
  go_wp2_with fail
  go_ret3
  exact ⟨rfl, _, rfl⟩
set_option maxHeartbeats 1000000 in
set_option maxRecDepth 100000 in
theorem cut_yes (s : ByteArray) (c : UInt8) (i : Nat) (w : World) (hs : s.size ≤ maxLen) (h : idx s c = i) (hi : i < s.size) : Calls Tryz.prog 100 #[.string s, .string ⟨#[c]⟩] w fun e w' => e = .returned (.tuple #[.string (s.extract 0 i), .string (s.extract (i + 1) s.size), .bool true]) ∧ ∃ n, w' = w.drewN n := by
  have HI := hid (fun W => lcut_yes s c i W hs h hi)
  go_enter Tryz.func100, Tryz.ntmps100
  go_wp2_with (go_at_call 105; refine (HI.out _).mono ?_; rintro e w1 ⟨rfl, n, hww⟩; subst hww)
  go_ret3
  exact ⟨rfl, n, rfl⟩
set_option maxHeartbeats 1000000 in
set_option maxRecDepth 100000 in
theorem sindex_any (s : ByteArray) (c : UInt8) (w : World) : Calls Tryz.prog 119 #[.string s, .string ⟨#[c]⟩] w fun e w' => e = .returned (.int .i64 (idx s c)) ∧ w' = w := by
  have HI := hid (fun W => ix_any s c W)
  generalize idx s c = i at *
  go_enter Tryz.func119, Tryz.ntmps119
  go_wp2_with (go_at_call 110; refine (HI.out _).mono ?_; rintro e w1 ⟨rfl, hww⟩; subst hww)
  go_ret
  exact ⟨rfl, rfl⟩
set_option maxHeartbeats 1000000 in
set_option maxRecDepth 100000 in
theorem count_any (s : ByteArray) (c : UInt8) (w : World) : Calls Tryz.prog 118 #[.string s, .string ⟨#[c]⟩] w fun e w' => e = .returned (.int .i64 (Lib.countByte s.data.toList c)) ∧ w' = w := by
  go_enter Tryz.func118, Tryz.ntmps118
  go_wp2
  rw [run_callFunc_extern Tryz.func124 (by kernel_rfl) (by kernel_rfl) (by kernel_rfl) (e := Extern.BytealgCount.count) (by kernel_rfl), Lib.run_countString]
  simp only [Result.andThen]
  rw [Oper.upon_value]
  go_wp2
  go_ret
  exact ⟨by simp; rfl, rfl⟩
end Go.Proofs.YtiddnjjaidiohaaGreatDoor.L
namespace Go.Proofs.YtiddnjjaidiohaaGreatDoor
open Go.Shelf
def lays221_ren : Go.Shelf.Ren := ⟨fun | 221 => 112 | 268 => 117 | 138 => 118 | 143 => 119 | 195 => 122 | 197 => 123 | 218 => 124 | 219 => 110 | 260 => 125 | 217 => 113 | 225 => 114 | 224 => 115 | 267 => 116 | 266 => 120 | 314 => 121 | n => n, fun | 9 => 9 | 3 => 3 | 31 => 107 | 4 => 4 | 0 => 0 | 105 => 166 | 21 => 21 | 5 => 5 | 46 => 160 | 119 => 168 | 139 => 171 | 138 => 170 | 146 => 163 | 51 => 162 | n => n, fun | 1 => 1 | 3 => 2 | 4 => 3 | n => n⟩
theorem lays221 : Go.Proofs.Lays.n221 Tryz.prog lays221_ren := {
  mixed := by kernel_rfl
  f138 := Tryz.func118.trans (congrArg some (by kernel_rfl))
  f143 := Tryz.func119.trans (congrArg some (by kernel_rfl))
  f195 := Tryz.func122.trans (congrArg some (by kernel_rfl))
  f197 := Tryz.func123.trans (congrArg some (by kernel_rfl))
  f217 := Tryz.func113.trans (congrArg some (by kernel_rfl))
  f218 := Tryz.func124.trans (congrArg some (by kernel_rfl))
  f219 := Tryz.func110.trans (congrArg some (by kernel_rfl))
  f221 := Tryz.func112.trans (congrArg some (by kernel_rfl))
  f224 := Tryz.func115.trans (congrArg some (by kernel_rfl))
  f225 := Tryz.func114.trans (congrArg some (by kernel_rfl))
  f260 := Tryz.func125.trans (congrArg some (by kernel_rfl))
  f266 := Tryz.func120.trans (congrArg some (by kernel_rfl))
  f267 := Tryz.func116.trans (congrArg some (by kernel_rfl))
  f268 := Tryz.func117.trans (congrArg some (by kernel_rfl))
  f314 := Tryz.func121.trans (congrArg some (by kernel_rfl))
  t0 := Tryz.underlying0
  a0 := Tryz.isAgg0
  z0 := Tryz.sizeOf0
  v0 := Tryz.zeroValue0
  t3 := Tryz.underlying3
  a3 := Tryz.isAgg3
  z3 := Tryz.sizeOf3
  v3 := Tryz.zeroValue3
  t4 := Tryz.underlying4
  a4 := Tryz.isAgg4
  z4 := Tryz.sizeOf4
  v4 := Tryz.zeroValue4
  t5 := Tryz.underlying5
  a5 := Tryz.isAgg5
  z5 := Tryz.sizeOf5
  v5 := Tryz.zeroValue5
  t9 := Tryz.underlying9
  a9 := Tryz.isAgg9
  z9 := Tryz.sizeOf9
  v9 := Tryz.zeroValue9
  t21 := Tryz.underlying21
  a21 := Tryz.isAgg21
  z21 := Tryz.sizeOf21
  v21 := Tryz.zeroValue21
  t31 := Tryz.underlying107
  a31 := Tryz.isAgg107
  z31 := Tryz.sizeOf107
  v31 := Tryz.zeroValue107
  t46 := Tryz.underlying160
  a46 := Tryz.isAgg160
  z46 := Tryz.sizeOf160
  v46 := Tryz.zeroValue160
  t51 := Tryz.underlying162
  a51 := Tryz.isAgg162
  z51 := Tryz.sizeOf162
  v51 := Tryz.zeroValue162
  t105 := Tryz.underlying166
  a105 := Tryz.isAgg166
  z105 := Tryz.sizeOf166
  v105 := Tryz.zeroValue166
  t119 := Tryz.underlying168
  a119 := Tryz.isAgg168
  z119 := Tryz.sizeOf168
  t138 := Tryz.underlying170
  a138 := Tryz.isAgg170
  z138 := Tryz.sizeOf170
  v138 := Tryz.zeroValue170
  t139 := Tryz.underlying171
  a139 := Tryz.isAgg171
  z139 := Tryz.sizeOf171
  v139 := Tryz.zeroValue171
  t146 := Tryz.underlying163
  a146 := Tryz.isAgg163
  z146 := Tryz.sizeOf163
  v146 := Tryz.zeroValue163
  g1 := by kernel_rfl
  g3 := by kernel_rfl
  g4 := by kernel_rfl }
end Go.Proofs.YtiddnjjaidiohaaGreatDoor
