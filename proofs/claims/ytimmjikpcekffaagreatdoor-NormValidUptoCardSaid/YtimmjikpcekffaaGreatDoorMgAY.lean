import Derived.Test.YtimmjikpcekffaaGreatDoorMgAX
import Derived.Lib.Bytealg
import Derived.Shelf.Strings.Split
import Derived.Test.YtimmjikpcekffaaGreatDoorProg
namespace Go.Proofs.YtimmjikpcekffaaGreatDoor.L
open Go.RowKit
set_option linter.unusedVariables false
/-- The first place of a byte, or -1. -/
def idx (s : ByteArray) (c : UInt8) : Int := Lib.indexByte s.data.toList c
set_option maxHeartbeats 1000000 in
set_option maxRecDepth 100000 in
theorem ib_any (s : ByteArray) (c : UInt8) (w : World) : Calls Tryz.prog 215 #[.string s, .int .u8 (c.toNat : Int)] w fun e w' => e = .returned (.int .i64 (idx s c)) ∧ w' = w := by
  go_enter Tryz.func215, Tryz.ntmps215
  go_wp2
  rw [run_callFunc_extern Tryz.func226 (by kernel_rfl) (by kernel_rfl) (by kernel_rfl) (e := Extern.BytealgIndexByte.indexByte) (by kernel_rfl), Lib.run_indexByteString]
  simp only [Result.andThen]
  rw [Oper.upon_value]
  go_wp2
  go_ret
  exact ⟨by unfold idx; simp, rfl⟩
set_option maxHeartbeats 1000000 in
set_option maxRecDepth 100000 in
theorem ix_any (s : ByteArray) (c : UInt8) (w : World) : Calls Tryz.prog 206 #[.string s, .string ⟨#[c]⟩] w fun e w' => e = .returned (.int .i64 (idx s c)) ∧ w' = w := by
  have HI := hid (fun W => ib_any s c W)
  cases h : ([c] == s.toList)
  · generalize idx s c = i at *
    go_enter Tryz.func206, Tryz.ntmps206
    go_wp2_with (go_at_call 215; refine (HI.out _).mono ?_; rintro e w1 ⟨rfl, hww⟩; subst hww)
    go_ret
    exact ⟨rfl, rfl⟩
  · have h' : idx s c = 0 := by
      simp at h
      unfold idx
      rw [← ByteArray.toList_eq, ← h]
      simp [Lib.indexByte]
    have H := hid h'
    go_enter Tryz.func206, Tryz.ntmps206
    go_wp2
    go_ret
    exact ⟨by rw [H.out]; rfl, rfl⟩
/-- What stands ahead of the first place of a byte, and behind it. -/
theorem idx_cases (s : ByteArray) (c : UInt8) : idx s c = -1 ∨ ∃ i : Nat, idx s c = i ∧ i < s.size := by
  have key : ∀ l : List UInt8, Lib.indexByte l c = -1 ∨ ∃ i : Nat, Lib.indexByte l c = i ∧ i < l.length := by
    intro l
    induction l with
    | nil => exact Or.inl rfl
    | cons b l ih =>
      unfold Lib.indexByte
      by_cases e : (b == c) = true
      · rw [if_pos e]
        exact Or.inr ⟨0, rfl, by simp⟩
      · rw [if_neg e]
        rcases ih with h | ⟨i, h, hi⟩
        · rw [h]; exact Or.inl rfl
        · rw [h, if_neg (by simp)]
          exact Or.inr ⟨i + 1, rfl, by simpa using hi⟩
  exact key _
set_option maxHeartbeats 1000000 in
set_option maxRecDepth 100000 in
theorem lcut_no (s : ByteArray) (c : UInt8) (w : World) (h : idx s c = -1) : Calls Tryz.prog 195 #[.string s, .string ⟨#[c]⟩] w fun e w' => e = .returned (.tuple #[.string s, .string ByteArray.empty, .bool false]) ∧ w' = w := by
  have HI := hid (fun W => ix_any s c W)
  rw [h] at HI
  go_enter Tryz.func195, Tryz.ntmps195
  go_wp2_with (go_at_call 206; refine (HI.out _).mono ?_; rintro e w1 ⟨rfl, hww⟩; subst hww)
  go_ret3
  exact ⟨rfl, rfl⟩
set_option maxHeartbeats 1000000 in
set_option maxRecDepth 100000 in
theorem cut_no (s : ByteArray) (c : UInt8) (w : World) (h : idx s c = -1) : Calls Tryz.prog 174 #[.string s, .string ⟨#[c]⟩] w fun e w' => e = .returned (.tuple #[.string s, .string ByteArray.empty, .bool false]) ∧ w' = w := by
  have HI := hid (fun W => lcut_no s c W h)
  go_enter Tryz.func174, Tryz.ntmps174
  go_wp2_with (go_at_call 195; refine (HI.out _).mono ?_; rintro e w1 ⟨rfl, hww⟩; subst hww)
  go_ret3
  exact ⟨rfl, rfl⟩
set_option maxHeartbeats 1000000 in
set_option maxRecDepth 100000 in
theorem lcut_yes (s : ByteArray) (c : UInt8) (i : Nat) (w : World) (hs : s.size ≤ maxLen) (h : idx s c = i) (hi : i < s.size) : Calls Tryz.prog 195 #[.string s, .string ⟨#[c]⟩] w fun e w' => e = .returned (.tuple #[.string (s.extract 0 i), .string (s.extract (i + 1) s.size), .bool true]) ∧ ∃ n, w' = w.drewN n := by
  have HI := hid (fun W => ix_any s c W)
  rw [h] at HI
  unfold maxLen at hs
  go_enter Tryz.func195, Tryz.ntmps195
  go_wp2_with (go_at_call 206; refine (HI.out _).mono ?_; rintro e w1 ⟨rfl, hww⟩; subst hww)
  go_quiet (fail)
  go_wp2_with fail
  go_ret3
  exact ⟨rfl, _, rfl⟩
set_option maxHeartbeats 1000000 in
set_option maxRecDepth 100000 in
theorem cut_yes (s : ByteArray) (c : UInt8) (i : Nat) (w : World) (hs : s.size ≤ maxLen) (h : idx s c = i) (hi : i < s.size) : Calls Tryz.prog 174 #[.string s, .string ⟨#[c]⟩] w fun e w' => e = .returned (.tuple #[.string (s.extract 0 i), .string (s.extract (i + 1) s.size), .bool true]) ∧ ∃ n, w' = w.drewN n := by
  have HI := hid (fun W => lcut_yes s c i W hs h hi)
  go_enter Tryz.func174, Tryz.ntmps174
  go_wp2_with (go_at_call 195; refine (HI.out _).mono ?_; rintro e w1 ⟨rfl, n, hww⟩; subst hww)
  go_ret3
  exact ⟨rfl, n, rfl⟩
set_option maxHeartbeats 1000000 in
set_option maxRecDepth 100000 in
theorem sindex_any (s : ByteArray) (c : UInt8) (w : World) : Calls Tryz.prog 221 #[.string s, .string ⟨#[c]⟩] w fun e w' => e = .returned (.int .i64 (idx s c)) ∧ w' = w := by
  have HI := hid (fun W => ix_any s c W)
  generalize idx s c = i at *
  go_enter Tryz.func221, Tryz.ntmps221
  go_wp2_with (go_at_call 206; refine (HI.out _).mono ?_; rintro e w1 ⟨rfl, hww⟩; subst hww)
  go_ret
  exact ⟨rfl, rfl⟩
set_option maxHeartbeats 1000000 in
set_option maxRecDepth 100000 in
theorem count_any (s : ByteArray) (c : UInt8) (w : World) : Calls Tryz.prog 220 #[.string s, .string ⟨#[c]⟩] w fun e w' => e = .returned (.int .i64 (Lib.countByte s.data.toList c)) ∧ w' = w := by
  go_enter Tryz.func220, Tryz.ntmps220
  go_wp2
  rw [run_callFunc_extern Tryz.func230 (by kernel_rfl) (by kernel_rfl) (by kernel_rfl) (e := Extern.BytealgCount.count) (by kernel_rfl), Lib.run_countString]
  simp only [Result.andThen]
  rw [Oper.upon_value]
  go_wp2
  go_ret
  exact ⟨by simp; rfl, rfl⟩
end Go.Proofs.YtimmjikpcekffaaGreatDoor.L
namespace Go.Proofs.YtimmjikpcekffaaGreatDoor
open Go.Shelf
def lays221_ren : Go.Shelf.Ren := ⟨fun | 221 => 208 | 268 => 219 | 138 => 220 | 143 => 221 | 195 => 228 | 197 => 229 | 218 => 230 | 219 => 206 | 260 => 233 | 217 => 215 | 225 => 216 | 224 => 217 | 267 => 218 | 266 => 226 | 314 => 227 | n => n, fun | 9 => 9 | 3 => 3 | 31 => 47 | 4 => 4 | 0 => 0 | 105 => 282 | 21 => 21 | 5 => 5 | 46 => 210 | 119 => 286 | 139 => 289 | 138 => 288 | 146 => 279 | 51 => 223 | n => n, fun | 1 => 3 | 3 => 7 | 4 => 8 | n => n⟩
theorem lays221 : Go.Proofs.Lays.n221 Tryz.prog lays221_ren := {
  mixed := by kernel_rfl
  f138 := Tryz.func220.trans (congrArg some (by kernel_rfl))
  f143 := Tryz.func221.trans (congrArg some (by kernel_rfl))
  f195 := Tryz.func228.trans (congrArg some (by kernel_rfl))
  f197 := Tryz.func229.trans (congrArg some (by kernel_rfl))
  f217 := Tryz.func215.trans (congrArg some (by kernel_rfl))
  f218 := Tryz.func230.trans (congrArg some (by kernel_rfl))
  f219 := Tryz.func206.trans (congrArg some (by kernel_rfl))
  f221 := Tryz.func208.trans (congrArg some (by kernel_rfl))
  f224 := Tryz.func217.trans (congrArg some (by kernel_rfl))
  f225 := Tryz.func216.trans (congrArg some (by kernel_rfl))
  f260 := Tryz.func233.trans (congrArg some (by kernel_rfl))
  f266 := Tryz.func226.trans (congrArg some (by kernel_rfl))
  f267 := Tryz.func218.trans (congrArg some (by kernel_rfl))
  f268 := Tryz.func219.trans (congrArg some (by kernel_rfl))
  f314 := Tryz.func227.trans (congrArg some (by kernel_rfl))
  t0 := Tryz.underlying0
  a0 := Tryz.isAgg0
  z0 := Tryz.sizeOf0
  v0 := Tryz.zeroValue0
  t3 := Tryz.underlying3
  a3 := Tryz.isAgg3
  z3 := Tryz.sizeOf3
  v3 := Tryz.zeroValue3
  t4 := Tryz.underlying4
  a4 := Tryz.isAgg4
  z4 := Tryz.sizeOf4
  v4 := Tryz.zeroValue4
  t5 := Tryz.underlying5
  a5 := Tryz.isAgg5
  z5 := Tryz.sizeOf5
  v5 := Tryz.zeroValue5
  t9 := Tryz.underlying9
  a9 := Tryz.isAgg9
  z9 := Tryz.sizeOf9
  v9 := Tryz.zeroValue9
  t21 := Tryz.underlying21
  a21 := Tryz.isAgg21
  z21 := Tryz.sizeOf21
  v21 := Tryz.zeroValue21
  t31 := Tryz.underlying47
  a31 := Tryz.isAgg47
  z31 := Tryz.sizeOf47
  v31 := Tryz.zeroValue47
  t46 := Tryz.underlying210
  a46 := Tryz.isAgg210
  z46 := Tryz.sizeOf210
  v46 := Tryz.zeroValue210
  t51 := Tryz.underlying223
  a51 := Tryz.isAgg223
  z51 := Tryz.sizeOf223
  v51 := Tryz.zeroValue223
  t105 := Tryz.underlying282
  a105 := Tryz.isAgg282
  z105 := Tryz.sizeOf282
  v105 := Tryz.zeroValue282
  t119 := Tryz.underlying286
  a119 := Tryz.isAgg286
  z119 := Tryz.sizeOf286
  t138 := Tryz.underlying288
  a138 := Tryz.isAgg288
  z138 := Tryz.sizeOf288
  v138 := Tryz.zeroValue288
  t139 := Tryz.underlying289
  a139 := Tryz.isAgg289
  z139 := Tryz.sizeOf289
  v139 := Tryz.zeroValue289
  t146 := Tryz.underlying279
  a146 := Tryz.isAgg279
  z146 := Tryz.sizeOf279
  v146 := Tryz.zeroValue279
  g1 := by kernel_rfl
  g3 := by kernel_rfl
  g4 := by kernel_rfl }
end Go.Proofs.YtimmjikpcekffaaGreatDoor
namespace Go.Proofs.YtimmjikpcekffaaGreatDoor.L
open Go.RowKit
set_option linter.unusedVariables false
/-- The pieces between a byte. -/
def pieces (s : ByteArray) (c : UInt8) : List ByteArray := Lib.splitB ⟨#[c]⟩ 0 (Lib.countB s ⟨#[c]⟩) s
theorem info9 : (Tryz.prog.info? 9).map (fun i => (i.zero, i.size, i.bytes)) = some (some (.string ByteArray.empty), 1, 16) := by kernel_rfl
theorem pieces_len (s : ByteArray) (c : UInt8) : (pieces s c).length = Lib.countB s ⟨#[c]⟩ + 1 := Lib.splitB_all ⟨#[c]⟩ (Nat.le_refl 1) 0 _ s rfl
theorem pieces_count (s : ByteArray) (c : UInt8) : Lib.countB s ⟨#[c]⟩ ≤ s.size := Lib.countB_le ⟨#[c]⟩ (Nat.le_refl 1) s.size s (Nat.le_refl _)
set_option maxHeartbeats 1000000 in
set_option maxRecDepth 100000 in
theorem split_any (s : ByteArray) (c : UInt8) (w : World) (hs : s.size < 4294967281) :
    Calls Tryz.prog 198 #[.string s, .string ⟨#[c]⟩] w fun e w' => e = .returned (.slice (some ⟨w.heap.size, 0, none⟩) (pieces s c).length (pieces s c).length) ∧ w' = w.alloc (.cells ((pieces s c).map Value.string).toArray 9) := by
  have h1 : 1 ≤ (⟨#[c]⟩ : ByteArray).size := Nat.le_refl 1
  have hle := pieces_count s c
  have hlen := pieces_len s c
  have hc : Lib.countB s ⟨#[c]⟩ = Lib.countByte s.data.toList c := by
    show Lib.count s.data.toList [c] = _
    rw [Lib.count_one]
    rfl
  have g := Any.strings_genSplit_core lays221 info9 s ⟨#[c]⟩ 0 (-1) (Lib.countB s ⟨#[c]⟩ + 1) w hs h1 (Nat.zero_le _)
    (fun x a hx => by
      have := sindex_any x c (w.alloc (.cells a 9))
      have e : Lib.indexB x ⟨#[c]⟩ = idx x c := Lib.index_one x.data.toList c
      rw [e]
      exact this)
    (by rw [hc]; exact count_any s c w)
    (by decide) (by decide) (by rw [if_pos (by decide)]; omega)
  rw [Nat.add_sub_cancel] at g
  have e2 : Lib.cellsOf (Lib.splitB ⟨#[c]⟩ 0 (Lib.countB s ⟨#[c]⟩) s) (Lib.countB s ⟨#[c]⟩ + 1) = ((pieces s c).map Value.string).toArray := by rw [← hlen]; exact Lib.cellsOf_full _
  rw [e2, ← hlen] at g
  rw [show Lib.splitB ⟨#[c]⟩ 0 (Lib.countB s ⟨#[c]⟩) s = pieces s c from rfl] at g
  have G := hid (show Calls Tryz.prog 208 _ _ _ from g)
  clear g hc hlen hle e2
  generalize pieces s c = ps at *
  go_enter Tryz.func198, Tryz.ntmps198
  go_wp2_with fail
  refine G.out.mono ?_
  rintro e w1 ⟨rfl, rfl⟩
  go_wp2_with fail
  go_ret
  exact ⟨rfl, rfl⟩
def dashB (c : Int) : Bool := lowB c || c == 45
def partB (s : ByteArray) : Bool := decide (s.size ≠ 0) && allB dashB s && lowB (at' s 0) && lowB (at' s (s.size - 1))
def nameB (s : ByteArray) : Bool := decide (s.size ≤ 63) && (pieces s 46).all partB
def shortB (s : ByteArray) : Bool := decide (s.size ≠ 0 ∧ s.size ≤ 63) && allB innB s && wordB (at' s 0) && wordB (at' s (s.size - 1))
def keyB (s : ByteArray) : Bool := if idx s 47 = -1 then shortB s else nameB (s.extract 0 (idx s 47).toNat) && shortB (s.extract ((idx s 47).toNat + 1) s.size)
set_option maxHeartbeats 4000000 in
theorem part_any (s : ByteArray) (w : World) (hs : s.size ≤ maxLen) : Calls Tryz.prog 199 #[.string s] w fun e w' => e = .returned (.bool (partB s)) ∧ w' = w := by
  unfold maxLen at hs
  by_cases h0 : s.size = 0
  · have HN := hid (show partB s = false by unfold partB; rw [decide_eq_false (by simpa using h0)]; rfl)
    have hE := empty_yes h0
    go_enter Tryz.func199, Tryz.ntmps199
    go_wp2
    go_ret
    exact ⟨ret_bool HN.out.symm, rfl⟩
  · have hE := empty_no h0
    have HP := hid (show partB s = (allB dashB s && lowB (at' s 0) && lowB (at' s (s.size - 1))) by unfold partB; rw [decide_eq_true h0]; rfl)
    go_enter Tryz.func199, Tryz.ntmps199
    go_wp2
    go_loop [8] (fun i => ∃ k : Nat, k ≤ s.size ∧ i = .int .i64 k ∧ Hid (∀ j, j < k → dashB (at' s j) = true)) (fun i => s.size - (intOf i).toNat)
    case atStart => exact ⟨0, Nat.zero_le _, rfl, hid (fun j hj => by omega)⟩
    case round =>
      obtain ⟨k, hk, rfl, HO⟩ := hrel
      by_cases hlt : k < s.size
      · obtain ⟨c, hc⟩ : ∃ c : Int, ((s[k]'hlt).toNat : Int) = c := ⟨_, rfl⟩
        have HC := hid ((at_get s k hlt).trans hc)
        have HL := hid (fun W => low_any c W)
        by_cases c1 : lowB c = true
        · rw [c1] at HL
          have HO2 := hid (all_snoc (p := dashB) HO.out (show dashB (at' s k) = true by rw [HC.out]; unfold dashB; rw [c1]; rfl))
          clear HO HC c1
          go_wp2_with (go_at_call 207; refine (HL.out _).mono ?_; rintro e w1 ⟨rfl, hww⟩; subst hww)
          exact ⟨⟨k + 1, by omega, by go_num, HO2⟩, by simp [intOf]; omega⟩
        · have c1' : lowB c = false := by simpa using c1
          rw [c1'] at HL
          by_cases c3 : c = 45
          · subst c3
            have HO2 := hid (all_snoc (p := dashB) HO.out (show dashB (at' s k) = true by rw [HC.out]; decide))
            clear HO HC c1 c1'
            go_wp2_with (go_at_call 207; refine (HL.out _).mono ?_; rintro e w1 ⟨rfl, hww⟩; subst hww)
            exact ⟨⟨k + 1, by omega, by go_num, HO2⟩, by simp [intOf]; omega⟩
          · have HN := hid (show partB s = false by rw [HP.out, all_bad (p := dashB) hlt (show dashB (at' s k) = false by rw [HC.out]; unfold dashB; simp [c1', c3])]; rfl)
            have b3 : (c != 45) = true := by simpa using c3
            clear c1 c1' c3
            go_wp2_with (go_at_call 207; refine (HL.out _).mono ?_; rintro e w1 ⟨rfl, hww⟩; subst hww)
            go_ret
            exact ⟨ret_bool HN.out.symm, rfl⟩
      · obtain rfl : k = s.size := by omega
        have HV := hid (show partB s = (lowB (at' s 0) && lowB (at' s (s.size - 1))) by rw [HP.out, all_good HO.out]; rfl)
        obtain ⟨c, hc⟩ : ∃ c : Int, ((s[0]'(by omega)).toNat : Int) = c := ⟨_, rfl⟩
        obtain ⟨d, hd⟩ : ∃ d : Int, ((s[s.size - 1]'(by omega)).toNat : Int) = d := ⟨_, rfl⟩
        rw [at_get s 0 (by omega), hc, at_get s (s.size - 1) (by omega), hd] at HV
        have HC := hid (fun W => low_any c W)
        have HD := hid (fun W => low_any d W)
        have hsub : ((s.size : Int) - 1).toNat = s.size - 1 := by omega
        cases e1 : lowB c
        · rw [e1] at HC HV
          go_wp2_with fail
          refine (HC.out _).mono ?_
          rintro e w1 ⟨rfl, hww⟩; subst hww
          go_wp2_with fail
          go_ret
          exact ⟨ret_bool (by rw [HV.out]; rfl), rfl⟩
        · rw [e1] at HC HV
          cases e2 : lowB d <;>
          · rw [e2] at HD HV
            go_wp2_with fail
            refine (HC.out _).mono ?_
            rintro e w1 ⟨rfl, hww⟩; subst hww
            go_wp2_with fail
            refine (HD.out _).mono ?_
            rintro e w1 ⟨rfl, hww⟩; subst hww
            go_wp2_with fail
            go_ret
            exact ⟨ret_bool (by rw [HV.out]; rfl), rfl⟩
set_option maxHeartbeats 4000000 in
theorem lshort_any (s : ByteArray) (w : World) (hs : s.size ≤ maxLen) : Calls Tryz.prog 175 #[.string s] w fun e w' => e = .returned (.bool (shortB s)) ∧ w' = w := by
  unfold maxLen at hs
  by_cases h0 : s.size = 0
  · have HN := hid (show shortB s = false by unfold shortB; rw [decide_eq_false (by simp [h0])]; rfl)
    have hE := empty_yes h0
    go_enter Tryz.func175, Tryz.ntmps175
    go_wp2
    go_ret
    exact ⟨ret_bool HN.out.symm, rfl⟩
  · have hE := empty_no h0
    by_cases h63 : s.size ≤ 63
    · have g63 : ¬ (63 : Int) < (s.size : Int) := by omega
      have HV := hid (show shortB s = (allB innB s && wordB (at' s 0) && wordB (at' s (s.size - 1))) by unfold shortB; rw [decide_eq_true ⟨h0, h63⟩]; simp)
      have HP := hid (fun W => plain_any s W (by unfold maxLen; omega))
      obtain ⟨c, hc⟩ : ∃ c : Int, ((s[0]'(by omega)).toNat : Int) = c := ⟨_, rfl⟩
      obtain ⟨d, hd⟩ : ∃ d : Int, ((s[s.size - 1]'(by omega)).toNat : Int) = d := ⟨_, rfl⟩
      rw [at_get s 0 (by omega), hc, at_get s (s.size - 1) (by omega), hd] at HV
      have HC := hid (fun W => word_any c W)
      have HD := hid (fun W => word_any d W)
      have hsub : ((s.size : Int) - 1).toNat = s.size - 1 := by omega
      cases e0 : allB innB s
      · rw [e0] at HV HP
        go_enter Tryz.func175, Tryz.ntmps175
        go_wp2_with fail
        refine (HP.out _).mono ?_
        rintro e w1 ⟨rfl, hww⟩; subst hww
        go_wp2_with fail
        go_ret
        exact ⟨ret_bool (by rw [HV.out]; rfl), rfl⟩
      · rw [e0] at HV HP
        cases e1 : wordB c
        · rw [e1] at HC HV
          go_enter Tryz.func175, Tryz.ntmps175
          go_wp2_with fail
          refine (HP.out _).mono ?_
          rintro e w1 ⟨rfl, hww⟩; subst hww
          go_wp2_with fail
          refine (HC.out _).mono ?_
          rintro e w1 ⟨rfl, hww⟩; subst hww
          go_wp2_with fail
          go_ret
          exact ⟨ret_bool (by rw [HV.out]; rfl), rfl⟩
        · rw [e1] at HC HV
          cases e2 : wordB d <;>
          · rw [e2] at HD HV
            go_enter Tryz.func175, Tryz.ntmps175
            go_wp2_with fail
            refine (HP.out _).mono ?_
            rintro e w1 ⟨rfl, hww⟩; subst hww
            go_wp2_with fail
            refine (HC.out _).mono ?_
            rintro e w1 ⟨rfl, hww⟩; subst hww
            go_wp2_with fail
            refine (HD.out _).mono ?_
            rintro e w1 ⟨rfl, hww⟩; subst hww
            go_wp2_with fail
            go_ret
            exact ⟨ret_bool (by rw [HV.out]; rfl), rfl⟩
    · have g63 : (63 : Int) < (s.size : Int) := by omega
      have HN := hid (show shortB s = false by unfold shortB; rw [decide_eq_false (by omega)]; rfl)
      go_enter Tryz.func175, Tryz.ntmps175
      go_wp2
      go_ret
      exact ⟨ret_bool HN.out.symm, rfl⟩
end Go.Proofs.YtimmjikpcekffaaGreatDoor.L
