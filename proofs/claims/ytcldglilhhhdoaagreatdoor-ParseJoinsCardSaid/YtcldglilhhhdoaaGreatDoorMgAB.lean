import Derived.Shelf.Strings.BuilderK
import Derived.Test.YtcldglilhhhdoaaGreatDoorProg
import Derived.Test.YtcldglilhhhdoaaGreatDoorMgAA
import Derived.Shelf.Strings.BuilderF
namespace Go.Proofs.YtcldglilhhhdoaaGreatDoor
open Go.Shelf
def lays166_ren : Go.Shelf.Ren := ⟨fun | 166 => 51 | 240 => 49 | 276 => 70 | n => n, fun | 70 => 83 | 9 => 9 | 3 => 3 | 75 => 28 | 0 => 0 | 72 => 86 | 37 => 84 | 4 => 4 | 164 => 117 | 80 => 89 | 5 => 5 | n => n, fun | n => n⟩
theorem lays166 : Go.Proofs.Lays.n166 Tryz.prog lays166_ren := {
  mixed := by kernel_rfl
  f166 := Tryz.func51.trans (congrArg some (by kernel_rfl))
  f240 := Tryz.func49.trans (congrArg some (by kernel_rfl))
  f276 := Tryz.func70.trans (congrArg some (by kernel_rfl))
  t0 := Tryz.underlying0
  a0 := Tryz.isAgg0
  z0 := Tryz.sizeOf0
  v0 := Tryz.zeroValue0
  t3 := Tryz.underlying3
  a3 := Tryz.isAgg3
  z3 := Tryz.sizeOf3
  v3 := Tryz.zeroValue3
  t4 := Tryz.underlying4
  a4 := Tryz.isAgg4
  z4 := Tryz.sizeOf4
  v4 := Tryz.zeroValue4
  t9 := Tryz.underlying9
  a9 := Tryz.isAgg9
  z9 := Tryz.sizeOf9
  v9 := Tryz.zeroValue9
  t20 := Tryz.underlying20
  a20 := Tryz.isAgg20
  z20 := Tryz.sizeOf20
  v20 := Tryz.zeroValue20
  t37 := Tryz.underlying84
  a37 := Tryz.isAgg84
  z37 := Tryz.sizeOf84
  v37 := Tryz.zeroValue84
  t70 := Tryz.underlying83
  a70 := Tryz.isAgg83
  z70 := Tryz.sizeOf83
  v70 := Tryz.zeroValue83
  t72 := Tryz.underlying86
  a72 := Tryz.isAgg86
  z72 := Tryz.sizeOf86
  v72 := Tryz.zeroValue86
  t75 := Tryz.underlying28
  a75 := Tryz.isAgg28
  z75 := Tryz.sizeOf28
  v75 := Tryz.zeroValue28
  t164 := Tryz.underlying117
  a164 := Tryz.isAgg117
  z164 := Tryz.sizeOf117
  v164 := Tryz.zeroValue117 }
def lays167_ren : Go.Shelf.Ren := ⟨fun | 167 => 31 | 240 => 49 | 276 => 70 | n => n, fun | 70 => 83 | 5 => 5 | 75 => 28 | 0 => 0 | 72 => 86 | 37 => 84 | 4 => 4 | 164 => 117 | 80 => 89 | 9 => 9 | n => n, fun | n => n⟩
theorem lays167 : Go.Proofs.Lays.n167 Tryz.prog lays167_ren := {
  mixed := by kernel_rfl
  f167 := Tryz.func31.trans (congrArg some (by kernel_rfl))
  f240 := Tryz.func49.trans (congrArg some (by kernel_rfl))
  f276 := Tryz.func70.trans (congrArg some (by kernel_rfl))
  t0 := Tryz.underlying0
  a0 := Tryz.isAgg0
  z0 := Tryz.sizeOf0
  v0 := Tryz.zeroValue0
  t4 := Tryz.underlying4
  a4 := Tryz.isAgg4
  z4 := Tryz.sizeOf4
  v4 := Tryz.zeroValue4
  t5 := Tryz.underlying5
  a5 := Tryz.isAgg5
  z5 := Tryz.sizeOf5
  v5 := Tryz.zeroValue5
  t9 := Tryz.underlying9
  a9 := Tryz.isAgg9
  z9 := Tryz.sizeOf9
  v9 := Tryz.zeroValue9
  t20 := Tryz.underlying20
  a20 := Tryz.isAgg20
  z20 := Tryz.sizeOf20
  v20 := Tryz.zeroValue20
  t37 := Tryz.underlying84
  a37 := Tryz.isAgg84
  z37 := Tryz.sizeOf84
  v37 := Tryz.zeroValue84
  t70 := Tryz.underlying83
  a70 := Tryz.isAgg83
  z70 := Tryz.sizeOf83
  v70 := Tryz.zeroValue83
  t72 := Tryz.underlying86
  a72 := Tryz.isAgg86
  z72 := Tryz.sizeOf86
  v72 := Tryz.zeroValue86
  t75 := Tryz.underlying28
  a75 := Tryz.isAgg28
  z75 := Tryz.sizeOf28
  v75 := Tryz.zeroValue28
  t164 := Tryz.underlying117
  a164 := Tryz.isAgg117
  z164 := Tryz.sizeOf117
  v164 := Tryz.zeroValue117 }
def lays169_ren : Go.Shelf.Ren := ⟨fun | 169 => 33 | n => n, fun | 70 => 83 | 9 => 9 | 0 => 0 | 72 => 86 | 37 => 84 | 127 => 103 | 3 => 3 | 5 => 5 | n => n, fun | n => n⟩
theorem lays169 : Go.Proofs.Lays.n169 Tryz.prog lays169_ren := {
  mixed := by kernel_rfl
  f169 := Tryz.func33.trans (congrArg some (by kernel_rfl))
  t0 := Tryz.underlying0
  a0 := Tryz.isAgg0
  z0 := Tryz.sizeOf0
  v0 := Tryz.zeroValue0
  t3 := Tryz.underlying3
  a3 := Tryz.isAgg3
  z3 := Tryz.sizeOf3
  v3 := Tryz.zeroValue3
  t9 := Tryz.underlying9
  a9 := Tryz.isAgg9
  z9 := Tryz.sizeOf9
  v9 := Tryz.zeroValue9
  t37 := Tryz.underlying84
  a37 := Tryz.isAgg84
  z37 := Tryz.sizeOf84
  v37 := Tryz.zeroValue84
  t70 := Tryz.underlying83
  a70 := Tryz.isAgg83
  z70 := Tryz.sizeOf83
  v70 := Tryz.zeroValue83
  t72 := Tryz.underlying86
  a72 := Tryz.isAgg86
  z72 := Tryz.sizeOf86
  v72 := Tryz.zeroValue86
  t127 := Tryz.underlying103
  a127 := Tryz.isAgg103
  z127 := Tryz.sizeOf103
  v127 := Tryz.zeroValue103 }
def lays170_ren : Go.Shelf.Ren := ⟨fun | 170 => 96 | n => n, fun | 70 => 83 | 3 => 3 | 0 => 0 | 72 => 86 | 37 => 84 | 5 => 5 | n => n, fun | n => n⟩
theorem lays170 : Go.Proofs.Lays.n170 Tryz.prog lays170_ren := {
  mixed := by kernel_rfl
  f170 := Tryz.func96.trans (congrArg some (by kernel_rfl))
  t0 := Tryz.underlying0
  a0 := Tryz.isAgg0
  z0 := Tryz.sizeOf0
  v0 := Tryz.zeroValue0
  t3 := Tryz.underlying3
  a3 := Tryz.isAgg3
  z3 := Tryz.sizeOf3
  v3 := Tryz.zeroValue3
  t37 := Tryz.underlying84
  a37 := Tryz.isAgg84
  z37 := Tryz.sizeOf84
  v37 := Tryz.zeroValue84
  t70 := Tryz.underlying83
  a70 := Tryz.isAgg83
  z70 := Tryz.sizeOf83
  v70 := Tryz.zeroValue83
  t72 := Tryz.underlying86
  a72 := Tryz.isAgg86
  z72 := Tryz.sizeOf86
  v72 := Tryz.zeroValue86 }
end Go.Proofs.YtcldglilhhhdoaaGreatDoor
namespace Go.Proofs.YtcldglilhhhdoaaGreatDoor.L
open Go.RowKit Go.Shelf
set_option linter.unusedVariables false
theorem bx166 : Builder.Extra Tryz.prog lays166_ren := { sizeBuilder := by kernel_rfl, liesBuilder := by kernel_rfl, t5 := Tryz.underlying5, a5 := Tryz.isAgg5, z5 := Tryz.sizeOf5, v5 := Tryz.zeroValue5, infoByte := by kernel_rfl, cellsByte := by kernel_rfl, sizeByte := by kernel_rfl, neB5 := by decide }
theorem bx167 : Builder.Extra Tryz.prog lays167_ren := { sizeBuilder := by kernel_rfl, liesBuilder := by kernel_rfl, t5 := Tryz.underlying5, a5 := Tryz.isAgg5, z5 := Tryz.sizeOf5, v5 := Tryz.zeroValue5, infoByte := by kernel_rfl, cellsByte := by kernel_rfl, sizeByte := by kernel_rfl, neB5 := by decide }
theorem bx169 : Builder.Extra Tryz.prog lays169_ren := { sizeBuilder := by kernel_rfl, liesBuilder := by kernel_rfl, t5 := Tryz.underlying5, a5 := Tryz.isAgg5, z5 := Tryz.sizeOf5, v5 := Tryz.zeroValue5, infoByte := by kernel_rfl, cellsByte := by kernel_rfl, sizeByte := by kernel_rfl, neB5 := by decide }
/-- A builder that holds these bytes. -/
def Bld (B b : Nat) (l : List UInt8) (w : World) : Prop := Lib.IsBuilderF 86 5 B b (Lib.byteCells l) w
theorem byteCells_app (a b : List UInt8) : Lib.byteCells (a ++ b) = Lib.byteCells a ++ Lib.byteCells b := by
  unfold Lib.byteCells
  simp
theorem byteCells_len (a : List UInt8) : (Lib.byteCells a).length = a.length := by
  unfold Lib.byteCells
  simp
theorem strCells_eq (s : ByteArray) : Lib.strCells s = Lib.byteCells s.data.toList := by
  rfl
theorem wbyte_any (B b : Nat) (l : List UInt8) (c : UInt8) (w : World) (h : Bld B b l w) (hl : l.length ≤ 8000000) (hB : B ≤ w.heap.size) :
    Calls Tryz.prog 31 #[.pointer (some ⟨b, 0, none⟩), .int .u8 (iv c)] w fun e w' => e = .returned .nilIface ∧ Bld B b (l ++ [c]) w' ∧ Below B w w' ∧ Lib.OthersKept 5 (some b) w w' := by
  refine (show Calls Tryz.prog 31 _ _ _ from Any.Builder_WriteByte_k lays167 bx167 B b (Lib.byteCells l) (iv c) w h (by rw [byteCells_len]; omega) hB).mono ?_
  rintro e w' ⟨rfl, hb, h1, h2⟩
  refine ⟨rfl, ?_, h1, h2⟩
  unfold Bld
  rw [byteCells_app]
  exact Or.inr hb
theorem wstr_any (B b : Nat) (l : List UInt8) (s : ByteArray) (w : World) (h : Bld B b l w) (hl : l.length ≤ 8000000) (hs : s.size ≤ 8000000) (hB : B ≤ w.heap.size) :
    Calls Tryz.prog 51 #[.pointer (some ⟨b, 0, none⟩), .string s] w fun e w' => e = .returned (.tuple #[.int .i64 s.size, .nilIface]) ∧ Bld B b (l ++ s.data.toList) w' ∧ Below B w w' ∧ Lib.OthersKept 5 (some b) w w' := by
  refine (show Calls Tryz.prog 51 _ _ _ from Any.Builder_WriteString_k lays166 bx166 B b (Lib.byteCells l) s w h (by rw [byteCells_len]; omega) hB).mono ?_
  rintro e w' ⟨rfl, hb, h1, h2⟩
  refine ⟨rfl, ?_, h1, h2⟩
  unfold Bld
  rw [byteCells_app, ← strCells_eq]
  exact Or.inr hb
theorem bstr_any (B b : Nat) (l : List UInt8) (w : World) (h : Bld B b l w) (hB : B ≤ w.heap.size) :
    Calls Tryz.prog 33 #[.pointer (some ⟨b, 0, none⟩)] w fun e w' => e = .returned (.string ⟨l.toArray⟩) ∧ Below B w w' := by
  refine (show Calls Tryz.prog 33 _ _ _ from Any.Builder_String_any_k lays169 bx169 B b l w h hB).mono ?_
  rintro e w' ⟨rfl, _, h1, _⟩
  exact ⟨rfl, h1⟩
theorem blen_any (B b : Nat) (l : List UInt8) (w : World) (h : Bld B b l w) :
    Calls Tryz.prog 96 #[.pointer (some ⟨b, 0, none⟩)] w fun e w' => e = .returned (.int .i64 l.length) ∧ w' = w := by
  refine (show Calls Tryz.prog 96 _ _ _ from Any.Builder_Len_f lays170 B b (Lib.byteCells l) w h).mono ?_
  rintro e w' ⟨rfl, rfl⟩
  rw [byteCells_len]
  exact ⟨rfl, rfl⟩
theorem bld_drew {B b : Nat} {l : List UInt8} {w : World} (h : Bld B b l w) (n : Nat) : Bld B b l (w.drewN n) := by
  unfold Bld Lib.IsBuilderF at h ⊢
  rcases h with ⟨a, v, x, y, z⟩ | ⟨a, v, x, y, z⟩
  · exact Or.inl ⟨a, v, x, y, z⟩
  · exact Or.inr ⟨a, v, x, y, z⟩
/-- A builder just laid. -/
theorem bld_new (w : World) : Bld w.heap.size w.heap.size [] (w.alloc (.cells #[.pointer none, .slice none 0 0] 86)) := Lib.IsBuilderF.of (Lib.fresh_isBuilder 86 5 w)
end Go.Proofs.YtcldglilhhhdoaaGreatDoor.L
namespace Go.Proofs.YtcldglilhhhdoaaGreatDoor.L
open Go.RowKit Go.Shelf
set_option linter.unusedVariables false
/-- A fault lies in a block: its code and its place, no name, no cause. -/
def Flt (W : World) (N : Nat) (c a : Nat) : Prop := W.heap[N]? = some (.cells #[.int .i64 c, .int .i64 a, .string ⟨#[]⟩, .nilIface] 78 (0, 0))
theorem Flt.low {W W' : World} {N c a B : Nat} (h : Flt W N c a) (hb : Below B W W') (hN : N < B) : Flt W' N c a := by
  unfold Flt at h ⊢
  rw [hb.block N hN]
  exact h
theorem Flt.lt {W : World} {N c a : Nat} (h : Flt W N c a) : N < W.heap.size := by
  apply Classical.byContradiction
  intro n
  unfold Flt at h
  rw [Array.getElem?_eq_none (by omega)] at h
  cases h
def fv (N : Nat) : Value := .iface 62 (.pointer (some ⟨N, 0, none⟩))
set_option maxHeartbeats 1000000 in
theorem fault_any (c a : Nat) (w : World) : Calls Tryz.prog 66 #[.int .i64 (c : Int), .int .i64 (a : Int)] w fun e w' => e = .returned (fv w.heap.size) ∧ Flt w' w.heap.size c a ∧ Below w.heap.size w w' := by
  unfold fv
  go_enter Tryz.func66, Tryz.ntmps66
  go_wp2
  go_ret
  exact ⟨rfl, heap_alloc_new w _, belowA w _⟩
theorem run_assert (x : Value) (w : World) : (Instr.typeAssert (.iface 62 x) 28 62 true).run Tryz.prog w = .ok (.tuple #[x, .bool true]) w := by
  simp [Instr.typeAssert, run_underlying Tryz.underlying62, go_sem, Result.andThen]
set_option maxHeartbeats 1000000 in
theorem toolong_no (s : ByteArray) (w : World) (h : s.size ≤ 4096) : Calls Tryz.prog 47 #[.string s] w fun e w' => e = .returned .nilIface ∧ w' = w := by
  have h' : ¬ (4096 : Int) < (s.size : Int) := by omega
  go_enter Tryz.func47, Tryz.ntmps47
  go_wp2
  go_ret
  exact ⟨rfl, rfl⟩
set_option maxHeartbeats 1000000 in
theorem toolong_yes (s : ByteArray) (w : World) (h : 4096 < s.size) : Calls Tryz.prog 47 #[.string s] w fun e w' => e = .returned (fv w.heap.size) ∧ Flt w' w.heap.size 110 4096 ∧ Below w.heap.size w w' := by
  have h' : (4096 : Int) < (s.size : Int) := by omega
  have HF := hid (fault_any 110 4096 w)
  unfold fv at *
  go_enter Tryz.func47, Tryz.ntmps47
  go_wp2_with (go_at_call 66; refine HF.out.mono ?_; rintro e w1 ⟨rfl, f1, l1⟩; have F1 := hid f1; have L1 := hid l1; clear f1 l1)
  go_ret
  exact ⟨rfl, F1.out, L1.out⟩
/-- What reading a text comes to. -/
inductive TR where
  | ok (l : List UInt8) (e : Nat)
  | bad (c a : Nat)
def esc3 (s : ByteArray) (k : Nat) : UInt8 × Nat := escV (bt s (k + 1)) (bt s (k + 2)) (bt s (k + 3))
/-- The text whose first quote stands at f, read from k on, where l has been read. -/
def txS (s : ByteArray) (f k : Nat) (l : List UInt8) : TR :=
  if h : k < s.size then
    if bt s k = 34 then (if 127 < l.length then .bad 115 f else .ok l (k + 1))
    else if bt s k = 92 then
      if h2 : (esc3 s k).2 = 0 then .bad 113 k else txS s f (k + (esc3 s k).2) (l ++ [(esc3 s k).1])
    else if iv (bt s k) < 32 then .bad 111 k
    else txS s f (k + 1) (l ++ [bt s k])
  else .bad 112 f
termination_by s.size - k
decreasing_by all_goals omega
theorem txS_end (s : ByteArray) (f k : Nat) (l : List UInt8) (h : ¬ k < s.size) : txS s f k l = .bad 112 f := by
  rw [txS, dif_neg h]
theorem txS_q (s : ByteArray) (f k : Nat) (l : List UInt8) (h : k < s.size) (c : bt s k = 34) : txS s f k l = if 127 < l.length then .bad 115 f else .ok l (k + 1) := by
  rw [txS, dif_pos h, if_pos c]
theorem txS_e0 (s : ByteArray) (f k : Nat) (l : List UInt8) (h : k < s.size) (c : bt s k = 92) (e : (esc3 s k).2 = 0) : txS s f k l = .bad 113 k := by
  rw [txS, dif_pos h, if_neg (by rw [c]; decide), if_pos c, dif_pos e]
theorem txS_e (s : ByteArray) (f k : Nat) (l : List UInt8) (h : k < s.size) (c : bt s k = 92) (e : (esc3 s k).2 ≠ 0) : txS s f k l = txS s f (k + (esc3 s k).2) (l ++ [(esc3 s k).1]) := by
  rw [txS, dif_pos h, if_neg (by rw [c]; decide), if_pos c, dif_neg e]
theorem txS_low (s : ByteArray) (f k : Nat) (l : List UInt8) (h : k < s.size) (c : bt s k ≠ 34) (d : bt s k ≠ 92) (e : iv (bt s k) < 32) : txS s f k l = .bad 111 k := by
  rw [txS, dif_pos h, if_neg c, if_neg d, if_pos e]
theorem txS_go (s : ByteArray) (f k : Nat) (l : List UInt8) (h : k < s.size) (c : bt s k ≠ 34) (d : bt s k ≠ 92) (e : ¬ iv (bt s k) < 32) : txS s f k l = txS s f (k + 1) (l ++ [bt s k]) := by
  rw [txS, dif_pos h, if_neg c, if_neg d, if_neg e]
theorem esc_inv {a b c : UInt8} (h : (escV a b c).2 ≠ 0) : a ≠ 0 ∧ ((escV a b c).2 = 2 ∨ ((escV a b c).2 = 4 ∧ b ≠ 0 ∧ c ≠ 0)) := by
  unfold escV at h ⊢
  repeat' split
  all_goals first
    | (rename_i g; subst g; simp; done)
    | skip
  · rename_i g
    refine ⟨by rw [g.1]; decide, Or.inr ⟨rfl, ?_, ?_⟩⟩
    · intro z; subst z; exact absurd g.2.1 (by decide)
    · intro z; subst z; exact absurd g.2.2 (by decide)
  · simp_all
theorem bt_nz {s : ByteArray} {k : Nat} (h : bt s k ≠ 0) : k < s.size := by
  apply Classical.byContradiction
  intro n
  exact h (bt_out s k (by omega))
/-- An escape lies in the source. -/
theorem esc_in {s : ByteArray} {k : Nat} (h : (esc3 s k).2 ≠ 0) : k + (esc3 s k).2 ≤ s.size ∧ ((esc3 s k).2 = 2 ∨ (esc3 s k).2 = 4) := by
  unfold esc3 at h ⊢
  obtain ⟨ha, h2 | ⟨h4, hb, hc⟩⟩ := esc_inv h
  · have := bt_nz ha
    exact ⟨by omega, Or.inl h2⟩
  · have := bt_nz hc
    exact ⟨by omega, Or.inr h4⟩
theorem u8_iv {c : UInt8} {n : Nat} (h : iv c = n) (hn : n < 256) : c = UInt8.ofNat n := by
  apply UInt8.toNat_inj.1
  unfold iv at h
  simp
  omega
end Go.Proofs.YtcldglilhhhdoaaGreatDoor.L
