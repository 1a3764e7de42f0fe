import Derived.Test.YtiddnjjaidiohaaGreatDoorMgAC
import Derived.Test.YtiddnjjaidiohaaGreatDoorMgAH
import Derived.Test.YtiddnjjaidiohaaGreatDoorRnk
import Derived.Test.YtiddnjjaidiohaaGreatDoorMgAA
import Derived.LaidEql
import Derived.Stop.Asserts
import Derived.RowKitTokens
import Derived.Test.YtiddnjjaidiohaaGreatDoorHE
namespace Go.Proofs.YtiddnjjaidiohaaGreatDoor.L
open Go.RowKit
set_option linter.unusedVariables false
set_option maxHeartbeats 4000000 in
theorem qeffect_any (s : ByteArray) (w : World) : Calls Tryz.prog 35 #[.string s] w fun e w' => e = .returned (.bool (effB s)) ∧ w' = w := by
  unfold effB eqS
  rw [lNS, lPN, lNE]
  cases e1 : (s.toList == [78, 111, 83, 99, 104, 101, 100, 117, 108, 101])
  · cases e2 : (s.toList == [80, 114, 101, 102, 101, 114, 78, 111, 83, 99, 104, 101, 100, 117, 108, 101])
    · cases e3 : (s.toList == [78, 111, 69, 120, 101, 99, 117, 116, 101]) <;>
      · go_enter Tryz.func35, Tryz.ntmps35
        go_wp2
        go_ret
        exact ⟨rfl, rfl⟩
    · go_enter Tryz.func35, Tryz.ntmps35
      go_wp2
      go_ret
      exact ⟨rfl, rfl⟩
  · go_enter Tryz.func35, Tryz.ntmps35
    go_wp2
    go_ret
    exact ⟨rfl, rfl⟩
end Go.Proofs.YtiddnjjaidiohaaGreatDoor.L
namespace Go.Proofs.YtiddnjjaidiohaaGreatDoor.L.Qn
open Go.RowKit Go.Shelf
set_option linter.unusedVariables false
/-- What the j-th byte of a name must be. -/
def byteB (s : ByteArray) (j : Nat) : Prop := okB (at' s j) = true ∧ (j = 0 → letB (at' s j) = true) ∧ (j + 1 = s.size → (letB (at' s j) || digB (at' s j)) = true)
theorem name_all (s : ByteArray) (h0 : 1 ≤ s.size) (h1 : s.size ≤ 32) (h : ∀ j, j < s.size → byteB s j) : nameB s = true := by
  rw [name_good s h0 h1 (fun j hj => (h j hj).1), (h 0 (by omega)).2.1 rfl, (h (s.size - 1) (by omega)).2.2 (by omega)]
  rfl
theorem name_none (s : ByteArray) (k : Nat) (hk : k < s.size) (h : ¬ byteB s k) : nameB s = false := by
  cases e : nameB s
  · rfl
  · exfalso
    apply h
    unfold nameB at e
    simp only [Bool.and_eq_true, decide_eq_true_eq] at e
    refine ⟨e.1.1.2.2 k hk, fun h0 => ?_, fun hl => ?_⟩
    · rw [h0]; exact e.1.2
    · rw [show k = s.size - 1 by omega]; exact e.2
set_option maxHeartbeats 4000000 in
theorem rname_out (s : ByteArray) (w : World) (hs : s.size ≤ maxLen) (h : s.size = 0 ∨ 32 < s.size) : Calls Tryz.prog 58 #[.string s] w fun e w' => e = .returned (.bool (nameB s)) ∧ w' = w := by
  unfold maxLen at hs
  have HN := hid (show nameB s = false by unfold nameB; rw [decide_eq_false (by omega)]; rfl)
  rcases h with h | h
  · go_enter Tryz.func58, Tryz.ntmps58
    go_wp2
    go_ret
    exact ⟨ret_bool HN.out.symm, rfl⟩
  · have h' : ¬ (s.size : Int) < 1 := by omega
    go_enter Tryz.func58, Tryz.ntmps58
    go_wp2
    go_ret
    exact ⟨ret_bool HN.out.symm, rfl⟩
set_option maxHeartbeats 8000000 in
theorem rname_in (s : ByteArray) (w : World) (h0 : 1 ≤ s.size) (h1 : s.size ≤ 32) : Calls Tryz.prog 58 #[.string s] w fun e w' => e = .returned (.bool (nameB s)) ∧ w' = w := by
  have hz : ¬ (s.size : Int) < 1 := by omega
  have h32 : ¬ (32 : Int) < (s.size : Int) := by omega
  go_enter Tryz.func58, Tryz.ntmps58
  go_wp2
  go_loop [3] (fun i => ∃ k : Nat, k ≤ s.size ∧ i = .int .i64 k ∧ Hid (∀ j, j < k → byteB s j)) (fun i => s.size - (intOf i).toNat)
  case atStart => exact ⟨0, Nat.zero_le _, rfl, hid (fun j hj => by omega)⟩
  case round =>
    obtain ⟨k, hk, rfl, HO⟩ := hrel
    by_cases hlt : k < s.size
    · obtain ⟨c, hc⟩ : ∃ c : Int, ((s[k]'hlt).toNat : Int) = c := ⟨_, rfl⟩
      have HC := hid ((at_get s k hlt).trans hc)
      have cl : c < 45 ∨ c = 45 ∨ c = 46 ∨ c = 47 ∨ (48 ≤ c ∧ c ≤ 57) ∨ (58 ≤ c ∧ c ≤ 96) ∨ (97 ≤ c ∧ c ≤ 122) ∨ 123 ≤ c := by omega
      have z : ((k : Int) == 0) = true ∧ k = 0 ∨ ((k : Int) == 0) = false ∧ k ≠ 0 := by
        by_cases h : k = 0
        · exact Or.inl ⟨by simpa using h, h⟩
        · exact Or.inr ⟨by simpa using h, h⟩
      have y : ((k : Int) == (s.size : Int) - 1) = true ∧ k + 1 = s.size ∨ ((k : Int) == (s.size : Int) - 1) = false ∧ k + 1 ≠ s.size := by
        by_cases h : k + 1 = s.size
        · exact Or.inl ⟨by rw [beq_iff_eq]; omega, h⟩
        · exact Or.inr ⟨by rw [beq_eq_false_iff_ne]; omega, h⟩
      have K := hid (show ∀ (b : Bool), (b = true ↔ byteB s k) → (b = true → ∀ j, j < k + 1 → byteB s j) ∧ (b = false → nameB s = false) from fun b hb => ⟨fun h j hj => by
          by_cases e : j < k
          · exact HO.out j e
          · obtain rfl : j = k := by omega
            exact hb.1 h, fun h => name_none s k hlt (fun n => by rw [hb.2 n] at h; cases h)⟩)
      rcases cl with cl | cl | cl | cl | ⟨cl, cl'⟩ | ⟨cl, cl'⟩ | ⟨cl, cl'⟩ | cl <;> rcases z with ⟨z1, z2⟩ | ⟨z1, z2⟩ <;> rcases y with ⟨y1, y2⟩ | ⟨y1, y2⟩
      all_goals (have Z := hid z2; have Y := hid y2; clear z2 y2)
      all_goals (try subst cl)
      all_goals go_wp2
      all_goals first
        | (go_ret
           refine ⟨ret_bool ((K.out false ?_).2 rfl).symm, rfl⟩
           have h1 := Z.out
           have h2 := Y.out
           unfold byteB
           rw [HC.out]
           simp [okB, letB, digB, h1, h2]
           try (first | omega | (rename_i hh; simp at hh; omega)))
        | (refine ⟨⟨k + 1, by omega, by go_num, hid ((K.out true ?_).1 rfl)⟩, by simp [intOf]; omega⟩
           have h1 := Z.out
           have h2 := Y.out
           unfold byteB
           rw [HC.out]
           simp [okB, letB, digB, h1, h2]
           try (first | omega | (rename_i hh; simp at hh; omega)))
    · obtain rfl : k = s.size := by omega
      have HN := hid (name_all s h0 h1 HO.out)
      go_wp2
      go_ret
      exact ⟨ret_bool HN.out.symm, rfl⟩
theorem rname_any (s : ByteArray) (w : World) (hs : s.size ≤ maxLen) : Calls Tryz.prog 58 #[.string s] w fun e w' => e = .returned (.bool (nameB s)) ∧ w' = w := by
  by_cases h : s.size = 0 ∨ 32 < s.size
  · exact rname_out s w hs h
  · exact rname_in s w (by omega) (by omega)
end Go.Proofs.YtiddnjjaidiohaaGreatDoor.L.Qn
namespace Go.Proofs.YtiddnjjaidiohaaGreatDoor.L
open Go.RowKit Go.Extern.Stop Go.Stop Go.Extern
set_option linter.unusedVariables false
/-- The error is the fault in the block N, or that within parts. -/
inductive ErN (N : Nat) : Value → Prop
  | flt : ErN N (.iface 48 (.pointer (some ⟨N, 0, none⟩)))
  | ins (t : Int) (ev : Value) : ErN N ev → ErN N (.iface 111 (.agg #[.int .i64 t, ev]))
theorem ErN.ne {N : Nat} {ev : Value} (h : ErN N ev) : ∃ u x, ev = .iface u x := by
  cases h with
  | flt => exact ⟨_, _, rfl⟩
  | ins t ev => exact ⟨_, _, rfl⟩
theorem as_nil (t : Value) (w : World) :
    Calls Tryz.prog 26 #[.nilIface, t] w fun e w' => e = .returned (.bool false) ∧ w' = w := by
  go_enter Tryz.func26, Tryz.ntmps26
  go_wp2
  go_ret
  exact ⟨rfl, rfl⟩
namespace As
theorem valueOfP (t : Addr) (w : World) : (ReflectliteValue.unpack (.iface 73 (.pointer (some t)))).run Tryz.prog w
    = .ok (.agg #[.pointer (some ⟨4, 73, none⟩), .pointer (some ⟨w.heap.size, 0, none⟩), .int .u64 150]) (w.alloc (.cells #[.pointer (some t)] 73)) := by kernel_rfl
theorem typeP (a : Addr) (w : World) : (ReflectliteValue.methodAny (ReflectliteValue.valueError "reflectlite.Value.Type" 0) (fun t _ _ _ => ReflectliteType.toType t) #[.agg #[.pointer (some ⟨4, 73, none⟩), .pointer (some a), .int .u64 150]]).run Tryz.prog w
    = .ok (.iface 115 (.agg #[.pointer (some ⟨4, 73, none⟩)])) w := by kernel_rfl
theorem methodKind (h : Value) (w : World) : (Go.method 301 115 (.agg #[h]) "Kind").run Tryz.prog w = .ok (140, h) w := by kernel_rfl
theorem kindP (w : World) : ((ReflectliteType.abiMethod fun t => (fun a : Nat => Value.int IntKind.u8 (a : Int)) <$> Rtype.kind t) #[.pointer (some ⟨4, 73, none⟩)]).run Tryz.prog w = .ok (.int .u8 22) w := by kernel_rfl
theorem kindE (w : World) : ((ReflectliteType.abiMethod fun t => (fun a : Nat => Value.int IntKind.u8 (a : Int)) <$> Rtype.kind t) #[.pointer (some ⟨4, 48, none⟩)]).run Tryz.prog w = .ok (.int .u8 22) w := by kernel_rfl
theorem rlm (z : Sem Value) (f : TypeId → Addr → Nat → Nat → Sem Value) (v : Value) :
    ReflectliteValue.method z f #[v] = (do match ← ReflectliteValue.parts v with | none => z | some (t, a, fl) => f t a fl (fl % 32)) := rfl
theorem partsP (a : Addr) (w : World) : (ReflectliteValue.parts (.agg #[.pointer (some ⟨4, 73, none⟩), .pointer (some a), .int .u64 150])).run Tryz.prog w = .ok (some (73, a, 150)) w := by kernel_rfl
theorem isNilP (a p : Addr) (W : World) (ha : W.cell? a = some (.pointer (some p))) :
    (ReflectliteValue.method (ReflectliteValue.valueError "reflectlite.Value.IsNil" 0) ReflectliteValue.isNil #[.agg #[.pointer (some ⟨4, 73, none⟩), .pointer (some a), .int .u64 150]]).run Tryz.prog W = .ok (.bool false) W := by
  rw [rlm]
  simp only [Sem.run_bind, partsP, Result.andThen]
  simp [ReflectliteValue.isNil, loadVar, isAgg, underlying, Tryz.underlying73, ha, Result.andThen]
theorem methodElem (h : Value) (w : World) : (Go.method 301 115 (.agg #[h]) "Elem").run Tryz.prog w = .ok (154, .agg #[h]) w := by kernel_rfl
theorem methodImplements (h : Value) (w : World) : (Go.method 301 115 (.agg #[h]) "Implements").run Tryz.prog w = .ok (155, .agg #[h]) w := by kernel_rfl
theorem methodAssignableTo (h : Value) (w : World) : (Go.method 301 115 (.agg #[h]) "AssignableTo").run Tryz.prog w = .ok (152, .agg #[h]) w := by kernel_rfl
theorem methodUnwrap (h : Value) (w : World) : (Go.method 301 111 h "Unwrap").run Tryz.prog w = .ok (150, h) w := by kernel_rfl
theorem elemP (w : World) : (ReflectliteType.method ReflectliteType.elem #[.agg #[.pointer (some ⟨4, 73, none⟩)]]).run Tryz.prog w = .ok (.iface 115 (.agg #[.pointer (some ⟨4, 48, none⟩)])) w := by kernel_rfl
theorem implementsE (w : World) : (ReflectliteType.relation "Implements" ReflectliteType.implements_ #[.agg #[.pointer (some ⟨4, 48, none⟩)], .iface 115 (.agg #[.pointer (some ⟨4, 37, none⟩)])]).run Tryz.prog w = .ok (.bool true) w := by kernel_rfl
theorem typeOfE (v : Value) (w : World) : (ReflectliteType.typeOf #[.iface 48 v]).run Tryz.prog w = .ok (.iface 115 (.agg #[.pointer (some ⟨4, 48, none⟩)])) w := by kernel_rfl
theorem typeOfI (v : Value) (w : World) : (ReflectliteType.typeOf #[.iface 111 v]).run Tryz.prog w = .ok (.iface 115 (.agg #[.pointer (some ⟨4, 111, none⟩)])) w := by kernel_rfl
theorem assignableE (w : World) : (ReflectliteType.relation "AssignableTo" ReflectliteType.assignableTo #[.agg #[.pointer (some ⟨4, 48, none⟩)], .iface 115 (.agg #[.pointer (some ⟨4, 48, none⟩)])]).run Tryz.prog w = .ok (.bool true) w := by kernel_rfl
theorem assignableI (w : World) : (ReflectliteType.relation "AssignableTo" ReflectliteType.assignableTo #[.agg #[.pointer (some ⟨4, 111, none⟩)], .iface 115 (.agg #[.pointer (some ⟨4, 48, none⟩)])]).run Tryz.prog w = .ok (.bool false) w := by kernel_rfl
theorem valueOfE (e : Addr) (w : World) : (ReflectliteValue.unpack (.iface 48 (.pointer (some e)))).run Tryz.prog w
    = .ok (.agg #[.pointer (some ⟨4, 48, none⟩), .pointer (some ⟨w.heap.size, 0, none⟩), .int .u64 150]) (w.alloc (.cells #[.pointer (some e)] 48)) := by kernel_rfl
theorem elemOfP (w : World) : (Rtype.elem? 73).run Tryz.prog w = .ok (some 48) w := by kernel_rfl
theorem mkE (p : Addr) (w : World) : (ReflectliteValue.mk 48 p ReflectliteValue.flagAddr).run Tryz.prog w = .ok (.agg #[.pointer (some ⟨4, 48, none⟩), .pointer (some p), .int .u64 406]) w := by kernel_rfl
theorem elemVP (a p : Addr) (W : World) (ha : W.cell? a = some (.pointer (some p))) :
    (ReflectliteValue.method (ReflectliteValue.valueError "reflectlite.Value.Elem" 0) ReflectliteValue.elem #[.agg #[.pointer (some ⟨4, 73, none⟩), .pointer (some a), .int .u64 150]]).run Tryz.prog W
      = .ok (.agg #[.pointer (some ⟨4, 48, none⟩), .pointer (some p), .int .u64 406]) W := by
  rw [rlm]
  simp only [Sem.run_bind, partsP, Result.andThen]
  simp [ReflectliteValue.elem, loadVar, isAgg, underlying, Tryz.underlying73, ha, Result.andThen, elemOfP, mkE]
theorem partsEa (a : Addr) (w : World) : (ReflectliteValue.parts (.agg #[.pointer (some ⟨4, 48, none⟩), .pointer (some a), .int .u64 406])).run Tryz.prog w = .ok (some (48, a, 406)) w := by kernel_rfl
theorem partsE (a : Addr) (w : World) : (ReflectliteValue.parts (.agg #[.pointer (some ⟨4, 48, none⟩), .pointer (some a), .int .u64 150])).run Tryz.prog w = .ok (some (48, a, 150)) w := by kernel_rfl
theorem directE (w : World) : (Rtype.directlyAssignable 48 48).run Tryz.prog w = .ok true w := by kernel_rfl
theorem sizeE (w : World) : (sizeOf 48).run Tryz.prog w = .ok 1 w := by kernel_rfl
theorem setE (ta b e : Addr) (old : Value) (W : World) (hb : W.cell? b = some (.pointer (some e))) (ht : W.cell? ta = some old) (hf : W.frozen? ta = false) :
    (ReflectliteValue.set #[.agg #[.pointer (some ⟨4, 48, none⟩), .pointer (some ta), .int .u64 406], .agg #[.pointer (some ⟨4, 48, none⟩), .pointer (some b), .int .u64 150]]).run Tryz.prog W
      = .ok (.tuple #[]) (W.setCell ta (.pointer (some e))) := by
  have e1 : ∀ v x : Value, ReflectliteValue.set #[v, x] = bind (ReflectliteValue.parts v) (fun p => bind (ReflectliteValue.parts x) _) := fun v x => rfl
  rw [e1]
  simp only [Sem.run_bind, partsEa, partsE, Result.andThen]
  simp [ReflectliteValue.flagAddr, loadVar, isAgg, underlying, Tryz.underlying48, hb, Result.andThen, directE, storeVar, Value.cells, storeCells, Addr.add]
  rw [run_store Tryz.prog W ta _ _ (by rfl)]
  simp [ht, hf]
end As
end Go.Proofs.YtiddnjjaidiohaaGreatDoor.L
namespace Go.Proofs.YtiddnjjaidiohaaGreatDoor.L
open Go.RowKit
set_option linter.unusedVariables false
/-- Only the block g of what stood may be changed. -/
structure But (g : Nat) (w w' : World) : Prop where
  os : w'.os = w.os
  tape : w'.tape = w.tape
  output : w'.output = w.output
  size : w.heap.size ≤ w'.heap.size
  block : ∀ b, b < w.heap.size → b ≠ g → w'.heap[b]? = w.heap[b]?
theorem But.refl (g : Nat) (w : World) : But g w w := ⟨rfl, rfl, rfl, Nat.le_refl _, fun _ _ _ => rfl⟩
theorem But.of {g : Nat} {w w' : World} (h : Below w.heap.size w w') : But g w w' := ⟨h.os, h.tape, h.output, h.size, fun b hb _ => h.block b hb⟩
theorem But.trans {g : Nat} {a b c : World} (h1 : But g a b) (h2 : But g b c) : But g a c := ⟨h2.os.trans h1.os, h2.tape.trans h1.tape, h2.output.trans h1.output, Nat.le_trans h1.size h2.size, fun k hk hg => (h2.block k (Nat.lt_of_lt_of_le hk h1.size) hg).trans (h1.block k hk hg)⟩
end Go.Proofs.YtiddnjjaidiohaaGreatDoor.L
