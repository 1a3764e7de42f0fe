import Derived.Shelf.Strings.BuilderK
import Derived.Test.YtcldglilhhhdoaaGreatDoorProg
import Derived.Test.YtcldglilhhhdoaaGreatDoorMgAA
import Derived.Shelf.Strings.BuilderF
import Derived.Sort.Row
namespace Go.Proofs.YtcldglilhhhdoaaGreatDoor
open Go.Shelf
def lays167_ren : Go.Shelf.Ren := ⟨fun | 167 => 31 | 240 => 49 | 276 => 70 | n => n, fun | 70 => 83 | 5 => 5 | 75 => 28 | 0 => 0 | 72 => 86 | 37 => 84 | 4 => 4 | 164 => 117 | 80 => 89 | 9 => 9 | n => n, fun | n => n⟩
theorem lays167 : Go.Proofs.Lays.n167 Tryz.prog lays167_ren := {
 mixed := by kernel_rfl
 f167 := Tryz.func31.trans (congrArg some (by kernel_rfl))
 f240 := Tryz.func49.trans (congrArg some (by kernel_rfl))
 f276 := Tryz.func70.trans (congrArg some (by kernel_rfl))
 t0 := Tryz.underlying0
 a0 := Tryz.isAgg0
 z0 := Tryz.sizeOf0
 v0 := Tryz.zeroValue0
 t4 := Tryz.underlying4
 a4 := Tryz.isAgg4
 z4 := Tryz.sizeOf4
 v4 := Tryz.zeroValue4
 t5 := Tryz.underlying5
 a5 := Tryz.isAgg5
 z5 := Tryz.sizeOf5
 v5 := Tryz.zeroValue5
 t9 := Tryz.underlying9
 a9 := Tryz.isAgg9
 z9 := Tryz.sizeOf9
 v9 := Tryz.zeroValue9
 t20 := Tryz.underlying20
 a20 := Tryz.isAgg20
 z20 := Tryz.sizeOf20
 v20 := Tryz.zeroValue20
 t37 := Tryz.underlying84
 a37 := Tryz.isAgg84
 z37 := Tryz.sizeOf84
 v37 := Tryz.zeroValue84
 t70 := Tryz.underlying83
 a70 := Tryz.isAgg83
 z70 := Tryz.sizeOf83
 v70 := Tryz.zeroValue83
 t72 := Tryz.underlying86
 a72 := Tryz.isAgg86
 z72 := Tryz.sizeOf86
 v72 := Tryz.zeroValue86
 t75 := Tryz.underlying28
 a75 := Tryz.isAgg28
 z75 := Tryz.sizeOf28
 v75 := Tryz.zeroValue28
 t164 := Tryz.underlying117
 a164 := Tryz.isAgg117
 z164 := Tryz.sizeOf117
 v164 := Tryz.zeroValue117 }
def lays169_ren : Go.Shelf.Ren := ⟨fun | 169 => 33 | n => n, fun | 70 => 83 | 9 => 9 | 0 => 0 | 72 => 86 | 37 => 84 | 127 => 103 | 3 => 3 | 5 => 5 | n => n, fun | n => n⟩
theorem lays169 : Go.Proofs.Lays.n169 Tryz.prog lays169_ren := {
 mixed := by kernel_rfl
 f169 := Tryz.func33.trans (congrArg some (by kernel_rfl))
 t0 := Tryz.underlying0
 a0 := Tryz.isAgg0
 z0 := Tryz.sizeOf0
 v0 := Tryz.zeroValue0
 t3 := Tryz.underlying3
 a3 := Tryz.isAgg3
 z3 := Tryz.sizeOf3
 v3 := Tryz.zeroValue3
 t9 := Tryz.underlying9
 a9 := Tryz.isAgg9
 z9 := Tryz.sizeOf9
 v9 := Tryz.zeroValue9
 t37 := Tryz.underlying84
 a37 := Tryz.isAgg84
 z37 := Tryz.sizeOf84
 v37 := Tryz.zeroValue84
 t70 := Tryz.underlying83
 a70 := Tryz.isAgg83
 z70 := Tryz.sizeOf83
 v70 := Tryz.zeroValue83
 t72 := Tryz.underlying86
 a72 := Tryz.isAgg86
 z72 := Tryz.sizeOf86
 v72 := Tryz.zeroValue86
 t127 := Tryz.underlying103
 a127 := Tryz.isAgg103
 z127 := Tryz.sizeOf103
 v127 := Tryz.zeroValue103 }
def lays170_ren : Go.Shelf.Ren := ⟨fun | 170 => 96 | n => n, fun | 70 => 83 | 3 => 3 | 0 => 0 | 72 => 86 | 37 => 84 | 5 => 5 | n => n, fun | n => n⟩
theorem lays170 : Go.Proofs.Lays.n170 Tryz.prog lays170_ren := {
 mixed := by kernel_rfl
 f170 := Tryz.func96.trans (congrArg some (by kernel_rfl))
 t0 := Tryz.underlying0
 a0 := Tryz.isAgg0
 z0 := Tryz.sizeOf0
 v0 := Tryz.zeroValue0
 t3 := Tryz.underlying3
 a3 := Tryz.isAgg3
 z3 := Tryz.sizeOf3
 v3 := Tryz.zeroValue3
 t37 := Tryz.underlying84
 a37 := Tryz.isAgg84
 z37 := Tryz.sizeOf84
 v37 := Tryz.zeroValue84
 t70 := Tryz.underlying83
 a70 := Tryz.isAgg83
 z70 := Tryz.sizeOf83
 v70 := Tryz.zeroValue83
 t72 := Tryz.underlying86
 a72 := Tryz.isAgg86
 z72 := Tryz.sizeOf86
 v72 := Tryz.zeroValue86 }
end Go.Proofs.YtcldglilhhhdoaaGreatDoor
namespace Go.Proofs.YtcldglilhhhdoaaGreatDoor.L
open Go.RowKit Go.Shelf
set_option linter.unusedVariables false
theorem bx167 : Builder.Extra Tryz.prog lays167_ren := { sizeBuilder := by kernel_rfl, liesBuilder := by kernel_rfl, t5 := Tryz.underlying5, a5 := Tryz.isAgg5, z5 := Tryz.sizeOf5, v5 := Tryz.zeroValue5, infoByte := by kernel_rfl, cellsByte := by kernel_rfl, sizeByte := by kernel_rfl, neB5 := by decide }
theorem bx169 : Builder.Extra Tryz.prog lays169_ren := { sizeBuilder := by kernel_rfl, liesBuilder := by kernel_rfl, t5 := Tryz.underlying5, a5 := Tryz.isAgg5, z5 := Tryz.sizeOf5, v5 := Tryz.zeroValue5, infoByte := by kernel_rfl, cellsByte := by kernel_rfl, sizeByte := by kernel_rfl, neB5 := by decide }
/-- A builder that holds these bytes. -/
def Bld (B b : Nat) (l : List UInt8) (w : World) : Prop := Lib.IsBuilderF 86 5 B b (Lib.byteCells l) w
theorem byteCells_app (a b : List UInt8) : Lib.byteCells (a ++ b) = Lib.byteCells a ++ Lib.byteCells b := by
 unfold Lib.byteCells
 simp
theorem byteCells_len (a : List UInt8) : (Lib.byteCells a).length = a.length := by
 unfold Lib.byteCells
 simp
theorem wbyte_any (B b : Nat) (l : List UInt8) (c : UInt8) (w : World) (h : Bld B b l w) (hl : l.length ≤ 8000000) (hB : B ≤ w.heap.size) :
  Calls Tryz.prog 31 #[.pointer (some ⟨b, 0, none⟩), .int .u8 (iv c)] w fun e w' => e = .returned .nilIface ∧ Bld B b (l ++ [c]) w' ∧ Below B w w' ∧ Lib.OthersKept 5 (some b) w w' := by
 refine (show Calls Tryz.prog 31 _ _ _ from Any.Builder_WriteByte_k lays167 bx167 B b (Lib.byteCells l) (iv c) w h (by rw [byteCells_len]; omega) hB).mono ?_
 rintro e w' ⟨rfl, hb, h1, h2⟩
 refine ⟨rfl, ?_, h1, h2⟩
 unfold Bld
 rw [byteCells_app]
 exact Or.inr hb
theorem bstr_any (B b : Nat) (l : List UInt8) (w : World) (h : Bld B b l w) (hB : B ≤ w.heap.size) :
  Calls Tryz.prog 33 #[.pointer (some ⟨b, 0, none⟩)] w fun e w' => e = .returned (.string ⟨l.toArray⟩) ∧ Below B w w' := by
 refine (show Calls Tryz.prog 33 _ _ _ from Any.Builder_String_any_k lays169 bx169 B b l w h hB).mono ?_
 rintro e w' ⟨rfl, _, h1, _⟩
 exact ⟨rfl, h1⟩
theorem blen_any (B b : Nat) (l : List UInt8) (w : World) (h : Bld B b l w) :
  Calls Tryz.prog 96 #[.pointer (some ⟨b, 0, none⟩)] w fun e w' => e = .returned (.int .i64 l.length) ∧ w' = w := by
 refine (show Calls Tryz.prog 96 _ _ _ from Any.Builder_Len_f lays170 B b (Lib.byteCells l) w h).mono ?_
 rintro e w' ⟨rfl, rfl⟩
 rw [byteCells_len]
 exact ⟨rfl, rfl⟩
theorem bld_drew {B b : Nat} {l : List UInt8} {w : World} (h : Bld B b l w) (n : Nat) : Bld B b l (w.drewN n) := by
 unfold Bld Lib.IsBuilderF at h ⊢
 rcases h with ⟨a, v, x, y, z⟩ | ⟨a, v, x, y, z⟩
 ·exact Or.inl ⟨a, v, x, y, z⟩
 ·exact Or.inr ⟨a, v, x, y, z⟩
/-- A builder just laid. -/
theorem bld_new (w : World) : Bld w.heap.size w.heap.size [] (w.alloc (.cells #[.pointer none, .slice none 0 0] 86)) := Lib.IsBuilderF.of (Lib.fresh_isBuilder 86 5 w)
end Go.Proofs.YtcldglilhhhdoaaGreatDoor.L
namespace Go.Proofs.YtcldglilhhhdoaaGreatDoor.L
open Go.RowKit Go.Shelf
set_option linter.unusedVariables false
/-- A fault lies in a block: its code and its place, no name, no cause. -/
def Flt (W : World) (N : Nat) (c a : Nat) : Prop := W.heap[N]? = some (.cells #[.int .i64 c, .int .i64 a, .string ⟨#[]⟩, .nilIface] 78 (0, 0))
theorem Flt.low {W W' : World} {N c a B : Nat} (h : Flt W N c a) (hb : Below B W W') (hN : N < B) : Flt W' N c a := by
 unfold Flt at h ⊢
 rw [hb.block N hN]
 exact h
theorem Flt.lt {W : World} {N c a : Nat} (h : Flt W N c a) : N < W.heap.size := by
 apply Classical.byContradiction
 intro n
 unfold Flt at h
 rw [Array.getElem?_eq_none (by omega)] at h
 cases h
def fv (N : Nat) : Value := .iface 62 (.pointer (some ⟨N, 0, none⟩))
set_option maxHeartbeats 1000000 in
theorem fault_any (c a : Nat) (w : World) : Calls Tryz.prog 66 #[.int .i64 (c : Int), .int .i64 (a : Int)] w fun e w' => e = .returned (fv w.heap.size) ∧ Flt w' w.heap.size c a ∧ Below w.heap.size w w' := by
 unfold fv
 go_enter Tryz.func66, Tryz.ntmps66
 go_wp2
 go_ret
 exact ⟨rfl, heap_alloc_new w _, belowA w _⟩
theorem run_assert (x : Value) (w : World) : (Instr.typeAssert (.iface 62 x) 28 62 true).run Tryz.prog w = .ok (.tuple #[x, .bool true]) w := by
 simp [Instr.typeAssert, run_underlying Tryz.underlying62, go_sem, Result.andThen]
set_option maxHeartbeats 1000000 in
theorem toolong_no (s : ByteArray) (w : World) (h : s.size ≤ 4096) : Calls Tryz.prog 47 #[.string s] w fun e w' => e = .returned .nilIface ∧ w' = w := by
 have h' : ¬ (4096 : Int) < (s.size : Int) := by omega
 go_enter Tryz.func47, Tryz.ntmps47
 go_wp2
 go_ret
 exact ⟨rfl, rfl⟩
set_option maxHeartbeats 1000000 in
theorem toolong_yes (s : ByteArray) (w : World) (h : 4096 < s.size) : Calls Tryz.prog 47 #[.string s] w fun e w' => e = .returned (fv w.heap.size) ∧ Flt w' w.heap.size 110 4096 ∧ Below w.heap.size w w' := by
 have h' : (4096 : Int) < (s.size : Int) := by omega
 have HF := hid (fault_any 110 4096 w)
 unfold fv at *
 go_enter Tryz.func47, Tryz.ntmps47
 go_wp2_with (go_at_call 66; refine HF.out.mono ?_; rintro e w1 ⟨rfl, f1, l1⟩; have F1 := hid f1; have L1 := hid l1; clear f1 l1)
 go_ret
 exact ⟨rfl, F1.out, L1.out⟩
/-- What reading a text comes to. -/
inductive TR where
 | ok (l : List UInt8) (e : Nat)
 | bad (c a : Nat)
def esc3 (s : ByteArray) (k : Nat) : UInt8 × Nat := escV (bt s (k + 1)) (bt s (k + 2)) (bt s (k + 3))
/-- The text whose first quote stands at f, read from k on, where l has been read. -/
def txS (s : ByteArray) (f k : Nat) (l : List UInt8) : TR :=
 if h : k < s.size then
  if bt s k = 34 then (if 127 < l.length then .bad 115 f else .ok l (k + 1))
  else if bt s k = 92 then
   if h2 : (esc3 s k).2 = 0 then .bad 113 k else txS s f (k + (esc3 s k).2) (l ++ [(esc3 s k).1])
  else if iv (bt s k) < 32 then .bad 111 k
  else txS s f (k + 1) (l ++ [bt s k])
 else .bad 112 f
termination_by s.size - k
decreasing_by all_goals omega
theorem txS_end (s : ByteArray) (f k : Nat) (l : List UInt8) (h : ¬ k < s.size) : txS s f k l = .bad 112 f := by
 rw [txS, dif_neg h]
theorem txS_q (s : ByteArray) (f k : Nat) (l : List UInt8) (h : k < s.size) (c : bt s k = 34) : txS s f k l = if 127 < l.length then .bad 115 f else .ok l (k + 1) := by
 rw [txS, dif_pos h, if_pos c]
theorem txS_e0 (s : ByteArray) (f k : Nat) (l : List UInt8) (h : k < s.size) (c : bt s k = 92) (e : (esc3 s k).2 = 0) : txS s f k l = .bad 113 k := by
 rw [txS, dif_pos h, if_neg (by rw [c]; decide), if_pos c, dif_pos e]
theorem txS_e (s : ByteArray) (f k : Nat) (l : List UInt8) (h : k < s.size) (c : bt s k = 92) (e : (esc3 s k).2 ≠ 0) : txS s f k l = txS s f (k + (esc3 s k).2) (l ++ [(esc3 s k).1]) := by
 rw [txS, dif_pos h, if_neg (by rw [c]; decide), if_pos c, dif_neg e]
theorem txS_low (s : ByteArray) (f k : Nat) (l : List UInt8) (h : k < s.size) (c : bt s k ≠ 34) (d : bt s k ≠ 92) (e : iv (bt s k) < 32) : txS s f k l = .bad 111 k := by
 rw [txS, dif_pos h, if_neg c, if_neg d, if_pos e]
theorem txS_go (s : ByteArray) (f k : Nat) (l : List UInt8) (h : k < s.size) (c : bt s k ≠ 34) (d : bt s k ≠ 92) (e : ¬ iv (bt s k) < 32) : txS s f k l = txS s f (k + 1) (l ++ [bt s k]) := by
 rw [txS, dif_pos h, if_neg c, if_neg d, if_neg e]
theorem esc_inv {a b c : UInt8} (h : (escV a b c).2 ≠ 0) : a ≠ 0 ∧ ((escV a b c).2 = 2 ∨ ((escV a b c).2 = 4 ∧ b ≠ 0 ∧ c ≠ 0)) := by
 unfold escV at h ⊢
 repeat' split
 all_goals first
  | (rename_i g; subst g; simp; done)
  | skip
 ·rename_i g
  refine ⟨by rw [g.1]; decide, Or.inr ⟨rfl, ?_, ?_⟩⟩
  ·intro z; subst z; exact absurd g.2.1 (by decide)
  ·intro z; subst z; exact absurd g.2.2 (by decide)
 ·simp_all
theorem bt_nz {s : ByteArray} {k : Nat} (h : bt s k ≠ 0) : k < s.size := by
 apply Classical.byContradiction
 intro n
 exact h (bt_out s k (by omega))
/-- An escape lies in the source. -/
theorem esc_in {s : ByteArray} {k : Nat} (h : (esc3 s k).2 ≠ 0) : k + (esc3 s k).2 ≤ s.size ∧ ((esc3 s k).2 = 2 ∨ (esc3 s k).2 = 4) := by
 unfold esc3 at h ⊢
 obtain ⟨ha, h2 | ⟨h4, hb, hc⟩⟩ := esc_inv h
 ·have := bt_nz ha
  exact ⟨by omega, Or.inl h2⟩
 ·have := bt_nz hc
  exact ⟨by omega, Or.inr h4⟩
theorem u8_iv {c : UInt8} {n : Nat} (h : iv c = n) (hn : n < 256) : c = UInt8.ofNat n := by
 apply UInt8.toNat_inj.1
 unfold iv at h
 simp
 omega
end Go.Proofs.YtcldglilhhhdoaaGreatDoor.L
namespace Go.Proofs.YtcldglilhhhdoaaGreatDoor.L
open Go.RowKit Go.Shelf
set_option linter.unusedVariables false
/-- A token. -/
structure Tok where
 kind : Nat
 text : ByteArray
 num : Int
 a : Nat
 e : Nat
def tv (t : Tok) : Value := .agg #[.int .i64 t.kind, .string t.text, .int .i64 t.num, .int .i64 t.a, .int .i64 t.e]
def tok0 : Tok := ⟨0, ⟨#[]⟩, 0, 0, 0⟩
/-- What reading a token comes to. -/
inductive RR where
 | ok (t : Tok)
 | bad (c a : Nat)
def TR.rr (f : Nat) : TR → RR
 | .ok l e => .ok ⟨1, ⟨l.toArray⟩, 0, f, e⟩
 | .bad c a => .bad c a
/-- What the program answers of it. -/
def Rd (r : RR) (w : World) (e : Ending) (w' : World) : Prop :=
 match r with
 | .ok t => e = .returned (.tuple #[tv t, .nilIface]) ∧ Below w.heap.size w w'
 | .bad c a => ∃ N, e = .returned (.tuple #[tv tok0, fv N]) ∧ Flt w' N c a ∧ w.heap.size ≤ N ∧ Below w.heap.size w w'
theorem bt_from (s : ByteArray) (k j : Nat) : bt (s.extract k s.size) j = bt s (k + j) := by
 unfold bt
 rw [List.getD_eq_getElem?_getD, List.getD_eq_getElem?_getD]
 simp [ByteArray.data_extract]
 rw [List.take_of_length_le (by simp), List.getElem?_drop]
 simp
theorem esc3_from (s : ByteArray) (k : Nat) : escV (bt (s.extract k s.size) 1) (bt (s.extract k s.size) 2) (bt (s.extract k s.size) 3) = esc3 s k := by
 unfold esc3
 rw [bt_from, bt_from, bt_from]
theorem ext_size (s : ByteArray) (k : Nat) : (s.extract k s.size).size ≤ s.size := by simp
theorem iv_eq {c : UInt8} {x : Int} {n : Nat} (h : iv c = x) (hx : x = n) (hn : n < 256) : c = UInt8.ofNat n := u8_iv (h.trans hx) hn
theorem iv_ne {c : UInt8} {x : Int} {n : Nat} (h : iv c = x) (hx : ¬ x = (n : Int)) (hn : n < 256) : c ≠ UInt8.ofNat n := by
 intro e
 apply hx
 rw [← h, e]
 unfold iv
 simp
 omega
def zcells : Array Value := #[.int .i64 0, .string ⟨#[]⟩, .int .i64 0, .int .i64 0, .int .i64 0]
/-- The result's own block, not yet written. -/
def Rc (N : Nat) (W : World) : Prop := W.heap[N]? = some (.cells zcells 53 (0, 0))
theorem Rc.keep {N b : Nat} {W W' : World} (h : Rc N W) (hk : Lib.OthersKept 5 (some b) W W') (hn : N ≠ b) : Rc N W' := by
 unfold Rc at h ⊢
 exact hk N _ h (fun e => hn (Option.some.inj e)) (fun c fz e => by cases e)
theorem Rc.low {N B : Nat} {W W' : World} (h : Rc N W) (hb : Below B W W') (hn : N < B) : Rc N W' := by
 unfold Rc at h ⊢
 rw [hb.block N hn]
 exact h
theorem Rc.cells {N : Nat} {W : World} (h : Rc N W) : W.cell? ⟨N, 0, none⟩ = some (.int .i64 0) ∧ W.cell? ⟨N, 1, none⟩ = some (.string ⟨#[]⟩) ∧ W.cell? ⟨N, 2, none⟩ = some (.int .i64 0) ∧ W.cell? ⟨N, 3, none⟩ = some (.int .i64 0) ∧ W.cell? ⟨N, 4, none⟩ = some (.int .i64 0) := by
 unfold Rc at h
 refine ⟨?_, ?_, ?_, ?_, ?_⟩ <;> (unfold World.cell?; rw [h]; rfl)
theorem Rc.lt {N : Nat} {W : World} (h : Rc N W) : N < W.heap.size := by
 apply Classical.byContradiction
 intro n
 unfold Rc at h
 rw [Array.getElem?_eq_none (by omega)] at h
 cases h
theorem Rc.facts {N : Nat} {W : World} (h : Rc N W) : (W.cell? ⟨N, 0, none⟩ = some (.int .i64 0) ∧ W.cell? ⟨N, 1, none⟩ = some (.string ⟨#[]⟩) ∧ W.cell? ⟨N, 2, none⟩ = some (.int .i64 0) ∧ W.cell? ⟨N, 3, none⟩ = some (.int .i64 0) ∧ W.cell? ⟨N, 4, none⟩ = some (.int .i64 0)) ∧
  W.frozen? ⟨N, 0, none⟩ = false ∧ W.frozen? ⟨N, 1, none⟩ = false ∧ W.frozen? ⟨N, 2, none⟩ = false ∧ W.frozen? ⟨N, 3, none⟩ = false ∧ W.frozen? ⟨N, 4, none⟩ = false := by
 refine ⟨h.cells, ?_⟩
 unfold Rc at h
 refine ⟨?_, ?_, ?_, ?_, ?_⟩ <;> (unfold World.frozen?; rw [h]; rfl)
theorem below_row {B : Nat} {a w : World} (h : Below B a w) (g : Nat) (cs : Array Value) (hb : B ≤ g) : Below B a (w.setRow g cs) := by
 refine ⟨h.os, h.tape, h.output, ?_, fun k hk => ?_⟩
 ·rw [setRow_size]; exact h.size
 ·show (w.heap.modify g _)[k]? = _
  rw [Array.getElem?_modify, if_neg (by omega)]
  exact h.block k hk
theorem below_undrew {B n : Nat} {w w' : World} (h : Below B (w.drewN n) w') : Below B w w' := ⟨h.os, h.tape, h.output, h.size, h.block⟩
theorem below_set {B : Nat} {a w : World} (h : Below B a w) (b o : Nat) (v : Value) (hb : B ≤ b) : Below B a (w.setCell ⟨b, o, none⟩ v) := by
 rw [Go.Sort.setCell_eq]
 refine ⟨h.os, h.tape, h.output, ?_, fun k hk => ?_⟩
 ·show a.heap.size ≤ (w.heap.modify b _).size
  rw [Array.size_modify]
  exact h.size
 ·show (w.heap.modify b _)[k]? = _
  rw [Array.getElem?_modify, if_neg (by omega)]
  exact h.block k hk
/-- A token is written into a block. -/
def put5 (W : World) (N : Nat) (a b c d e : Value) : World := ((((W.setCell ⟨N, 0, none⟩ a).setCell ⟨N, 1, none⟩ b).setCell ⟨N, 2, none⟩ c).setCell ⟨N, 3, none⟩ d).setCell ⟨N, 4, none⟩ e
theorem below_put5 {B : Nat} {a w : World} (h : Below B a w) (N : Nat) (x0 x1 x2 x3 x4 : Value) (hb : B ≤ N) : Below B a (put5 w N x0 x1 x2 x3 x4) :=
 below_set (below_set (below_set (below_set (below_set h N 0 _ hb) N 1 _ hb) N 2 _ hb) N 3 _ hb) N 4 _ hb
theorem block_set (W : World) (b o : Nat) (v : Value) (k : Nat) (h : k ≠ b) : (W.setCell ⟨b, o, none⟩ v).heap[k]? = W.heap[k]? := by
 rw [Go.Sort.setCell_eq]
 show (W.heap.modify b _)[k]? = _
 rw [Array.getElem?_modify, if_neg (fun e => h e.symm)]
theorem block_put5 (W : World) (N : Nat) (x0 x1 x2 x3 x4 : Value) (k : Nat) (h : k ≠ N) : (put5 W N x0 x1 x2 x3 x4).heap[k]? = W.heap[k]? := by
 unfold put5
 rw [block_set _ _ _ _ _ h, block_set _ _ _ _ _ h, block_set _ _ _ _ _ h, block_set _ _ _ _ _ h, block_set _ _ _ _ _ h]
theorem Flt.put5 {W : World} {M c a : Nat} (h : Flt W M c a) (N : Nat) (x0 x1 x2 x3 x4 : Value) (hn : M ≠ N) : Flt (put5 W N x0 x1 x2 x3 x4) M c a := by
 unfold Flt at h ⊢
 rw [block_put5 _ _ _ _ _ _ _ _ hn]
 exact h
set_option maxHeartbeats 8000000 in
theorem readtext_any (s : ByteArray) (f : Nat) (w : World) (hs : s.size ≤ 4096) (hf : f < s.size) :
  Calls Tryz.prog 84 #[.string s, .int .i64 (f : Int)] w fun e w' => Rd ((txS s f (f + 1) []).rr f) w e w' := by
 have FA := hid (fun (c : Nat) (a : Nat) (W : World) => fault_any c a W)
 go_enter Tryz.func84, Tryz.ntmps84
 go_wp2_with fail
 have RC0 := hid (show Rc w.heap.size (w.alloc (.cells zcells 53)) from heap_alloc_new w _)
 have BL0 := hid (belowA w (.cells zcells 53))
 have hZ0 : (w.alloc (.cells zcells 53)).heap.size = w.heap.size + 1 := by simp
 unfold zcells at RC0 BL0 hZ0
 generalize w.alloc (.cells #[.int .i64 0, .string ⟨#[]⟩, .int .i64 0, .int .i64 0, .int .i64 0] 53) = W at *
 have RC1 := hid (Rc.low RC0.out (belowA W (.cells #[.pointer none, .slice none 0 0] 86)) (by omega))
 have BD1 := hid (bld_new W)
 have BL1 := hid (BL0.out.trans ((belowA W (.cells #[.pointer none, .slice none 0 0] 86)).mono (by omega)))
 have hZ1 : w.heap.size + 1 < (W.alloc (.cells #[.pointer none, .slice none 0 0] 86)).heap.size := by simp; omega
 rw [hZ0] at BD1
 generalize W.alloc (.cells #[.pointer none, .slice none 0 0] 86) = W0 at *
 clear RC0 BL0 hZ0
 have hN : w.heap.size ≠ w.heap.size + 1 := by omega
 go_loopw [7] (fun i wr => ∃ (k : Nat) (l : List UInt8), k ≤ s.size ∧ i = .int .i64 k ∧ Hid (Below w.heap.size w wr) ∧ w.heap.size + 1 < wr.heap.size ∧ Hid (Bld (w.heap.size + 1) (w.heap.size + 1) l wr) ∧ Hid (Rc w.heap.size wr) ∧ l.length ≤ k ∧ Hid (txS s f (f + 1) [] = txS s f k l)) (fun i _ => s.size - (intOf i).toNat)
 case atStart => exact ⟨f + 1, [], by omega, by go_num, BL1, hZ1, BD1, RC1, by simp, hid rfl⟩
 case round =>
  obtain ⟨k, l, hk, rfl, HB, hZ, BD, RC, hl, HT⟩ := hrel
  by_cases hlt : k < s.size
  ·have hc := iv_get s k hlt
   obtain ⟨x, hx⟩ : ∃ x, iv (bt s k) = x := ⟨_, rfl⟩
   have HX := hid hx
   rw [hx] at hc
   clear hx
   by_cases c34 : x = 34
   ·have h2 := txS_q s f k l hlt (iv_eq (n := 34) HX.out c34 (by decide))
    have HL := hid (blen_any _ _ l wr BD.out)
    by_cases c127 : 127 < l.length
    all_goals have c127' := c127
    all_goals rw [← Int.ofNat_lt] at c127'
    ·rw [if_pos c127] at h2
     subst c34
     have HT := hid (HT.out.trans h2)
     have HF := hid (FA.out 115 f wr)
     clear h2
     go_wp2_with (first | (go_at_call 96; refine HL.out.mono ?_; rintro e w1 ⟨rfl, hww⟩; have hw2 := hww.symm; clear hww; subst hw2) | (go_at_call 66; refine HF.out.mono ?_; rintro e w1 ⟨he, f1, l1⟩; unfold fv at he; subst he; have F1 := hid f1; have L1 := hid l1; clear f1 l1; have R1 := hid (Rc.low RC.out L1.out (by omega)); have ⟨⟨q0, q1, q2, q3, q4⟩, f0, f1, f2, f3, f4⟩ := Rc.facts R1.out))
     (try simp only [Exit.inBlock, Exit.then])
     refine bodyPost_ret (v := .tuple #[tv tok0, fv wr.heap.size]) ?_ rfl (by rw [HT.out]; exact ⟨_, rfl, F1.out.put5 _ _ _ _ _ _ (by first | omega | (simp; omega)), by first | omega | (simp; omega), below_put5 (HB.out.trans (L1.out.mono HB.out.size)) _ _ _ _ _ _ (Nat.le_refl _)⟩)
     rw [results_cell_tmp rfl]
     go_simp
     first | rfl | exact ⟨rfl, rfl⟩
    ·rw [if_neg c127] at h2
     have HT := hid (HT.out.trans h2)
     have HS := hid (bstr_any _ _ l wr BD.out (by omega))
     clear h2
     subst c34
     go_wp2_with (first | (go_at_call 96; refine HL.out.mono ?_; rintro e w1 ⟨rfl, hww⟩; have hw2 := hww.symm; clear hww; subst hw2) | (go_at_call 33; refine HS.out.mono ?_; rintro e w1 ⟨rfl, l1⟩; have L1 := hid l1; clear l1; have R1 := hid (Rc.low RC.out L1.out (by omega)); have ⟨⟨q0, q1, q2, q3, q4⟩, f0, f1, f2, f3, f4⟩ := Rc.facts R1.out))
     (try simp only [Exit.inBlock, Exit.then])
     refine bodyPost_ret (v := .tuple #[tv ⟨1, ⟨l.toArray⟩, 0, f, k + 1⟩, .nilIface]) ?_ rfl (by rw [HT.out]; exact ⟨rfl, below_put5 (HB.out.trans (L1.out.mono (by omega))) _ _ _ _ _ _ (Nat.le_refl _)⟩)
     rw [results_cell_tmp rfl]
     go_simp
     first | rfl | exact ⟨rfl, rfl⟩
   ·have n34 := iv_ne (n := 34) HX.out c34 (by decide)
    by_cases c92 : x = 92
    ·have i92 := iv_eq (n := 92) HX.out c92 (by decide)
     have HE := hid (rescape_any wr (s.extract k s.size) (by have := ext_size s k; unfold maxLen; omega))
     rw [esc3_from] at HE
     by_cases e0 : (esc3 s k).2 = 0
     ·have h2 := txS_e0 s f k l hlt i92 e0
      rw [e0] at HE
      generalize (esc3 s k).1 = y at *
      clear n34 i92 e0 c34
      subst c92
      have HT := hid (HT.out.trans h2)
      have HF := hid (fun n => FA.out 113 k (wr.drewN n))
      clear h2
      go_wp2_with (first | (go_at_call 97; refine HE.out.mono ?_; rintro e w1 ⟨rfl, n1, hww⟩; have hw2 := hww.symm; clear hww; subst hw2) | (go_at_call 66; refine (HF.out _).mono ?_; rintro e w1 ⟨he, f1, l1⟩; unfold fv at he; subst he; have F1 := hid (show Flt w1 wr.heap.size 113 k from f1); have L1 := hid (show Below wr.heap.size wr w1 from below_undrew l1); clear f1 l1; have R1 := hid (Rc.low RC.out L1.out (by omega)); have ⟨⟨q0, q1, q2, q3, q4⟩, f0, f1, f2, f3, f4⟩ := Rc.facts R1.out))
      (try simp only [Exit.inBlock, Exit.then])
      refine bodyPost_ret (v := .tuple #[tv tok0, fv wr.heap.size]) ?_ rfl (by rw [HT.out]; exact ⟨_, rfl, F1.out.put5 _ _ _ _ _ _ (by first | omega | (simp; omega)), by first | omega | (simp; omega), below_put5 (HB.out.trans (L1.out.mono HB.out.size)) _ _ _ _ _ _ (Nat.le_refl _)⟩)
      rw [results_cell_tmp rfl]
      go_simp
      first | rfl | exact ⟨rfl, rfl⟩
     ·have h2 := txS_e s f k l hlt i92 e0
      have he := esc_in e0
      have HT := hid (HT.out.trans h2)
      have HW := hid (fun n => wbyte_any _ _ l (esc3 s k).1 (wr.drewN n) (bld_drew BD.out n) (by omega) (show w.heap.size + 1 ≤ wr.heap.size by omega))
      generalize (esc3 s k).1 = y at *
      obtain ⟨m, hm⟩ : ∃ m, (esc3 s k).2 = m := ⟨_, rfl⟩
      rw [hm] at HE HT he e0
      have e0' : ¬ (m : Int) = 0 := by omega
      have e0'' : ((m : Int) == 0) = false := by simpa using e0
      clear n34 i92 c34 h2 hm
      subst c92
      go_wp2_with (first | (go_at_call 97; refine HE.out.mono ?_; rintro e w1 ⟨rfl, n1, hww⟩; have hw2 := hww.symm; clear hww; subst hw2) | (go_at_call 31; refine (HW.out _).mono ?_; rintro e w2 ⟨rfl, b2, l2, o2⟩; have B2 := hid b2; have L2 := hid l2; have R2 := hid (Rc.keep (W := wr) RC.out o2 (by omega)); clear b2 l2 o2))
      exact ⟨⟨k + m, l ++ [y], by omega, by go_num, hid (HB.out.trans ((below_undrew L2.out).mono (by omega))), Nat.lt_of_lt_of_le hZ L2.out.size, B2, R2, by simp; omega, HT⟩, by simp [intOf]; omega⟩
    ·have n92 := iv_ne (n := 92) HX.out c92 (by decide)
     by_cases c32 : x < 32
     ·have h2 := txS_low s f k l hlt n34 n92 (by rw [HX.out]; exact c32)
      have c34' : (x == 34) = false := by simpa using c34
      have c92' : (x == 92) = false := by simpa using c92
      clear n34 n92
      have HT := hid (HT.out.trans h2)
      have HF := hid (FA.out 111 k wr)
      clear h2
      go_wp2_with (go_at_call 66; refine HF.out.mono ?_; rintro e w1 ⟨he, f1, l1⟩; unfold fv at he; subst he; have F1 := hid f1; have L1 := hid l1; clear f1 l1; have R1 := hid (Rc.low RC.out L1.out (by omega)); have ⟨⟨q0, q1, q2, q3, q4⟩, f0, f1, f2, f3, f4⟩ := Rc.facts R1.out)
      (try simp only [Exit.inBlock, Exit.then])
      refine bodyPost_ret (v := .tuple #[tv tok0, fv wr.heap.size]) ?_ rfl (by rw [HT.out]; exact ⟨_, rfl, F1.out.put5 _ _ _ _ _ _ (by first | omega | (simp; omega)), by first | omega | (simp; omega), below_put5 (HB.out.trans (L1.out.mono HB.out.size)) _ _ _ _ _ _ (Nat.le_refl _)⟩)
      rw [results_cell_tmp rfl]
      go_simp
      first | rfl | exact ⟨rfl, rfl⟩
     ·have h2 := txS_go s f k l hlt n34 n92 (by rw [HX.out]; exact c32)
      have HT := hid (HT.out.trans h2)
      have HW := hid (wbyte_any _ _ l (bt s k) wr BD.out (by omega) (by omega))
      rw [HX.out] at HW
      generalize bt s k = y at *
      have c34' : (x == 34) = false := by simpa using c34
      have c92' : (x == 92) = false := by simpa using c92
      clear n34 n92 h2
      go_wp2_with (go_at_call 31; refine HW.out.mono ?_; rintro e w2 ⟨rfl, b2, l2, o2⟩; have B2 := hid b2; have L2 := hid l2; have R2 := hid (Rc.keep (W := wr) RC.out o2 (by omega)); clear b2 l2 o2)
      exact ⟨⟨k + 1, l ++ [y], by omega, by go_num, hid (HB.out.trans (L2.out.mono (by omega))), Nat.lt_of_lt_of_le hZ L2.out.size, B2, R2, by simp; omega, HT⟩, by simp [intOf]; omega⟩
  ·have h2 := txS_end s f k l hlt
   have HT := hid (HT.out.trans h2)
   have HF := hid (FA.out 112 f wr)
   clear h2
   go_wp2_with (go_at_call 66; refine HF.out.mono ?_; rintro e w1 ⟨he, f1, l1⟩; unfold fv at he; subst he; have F1 := hid f1; have L1 := hid l1; clear f1 l1; have R1 := hid (Rc.low RC.out L1.out (by omega)); have ⟨⟨q0, q1, q2, q3, q4⟩, f0, f1, f2, f3, f4⟩ := Rc.facts R1.out)
   (try simp only [Exit.inBlock, Exit.then])
   refine bodyPost_ret (v := .tuple #[tv tok0, fv wr.heap.size]) ?_ rfl (by rw [HT.out]; exact ⟨_, rfl, F1.out.put5 _ _ _ _ _ _ (by first | omega | (simp; omega)), by first | omega | (simp; omega), below_put5 (HB.out.trans (L1.out.mono HB.out.size)) _ _ _ _ _ _ (Nat.le_refl _)⟩)
   rw [results_cell_tmp rfl]
   go_simp
   first | rfl | exact ⟨rfl, rfl⟩
end Go.Proofs.YtcldglilhhhdoaaGreatDoor.L
