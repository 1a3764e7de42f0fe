import Derived.Test.YtiddnjjaidiohaaGreatDoorHE
import Derived.Test.YtiddnjjaidiohaaGreatDoorMgAA
namespace Go.Proofs.YtiddnjjaidiohaaGreatDoor.L
open Go.RowKit
set_option linter.unusedVariables false
/-- Only the block g of what stood may be changed. -/
structure But (g : Nat) (w w' : World) : Prop where
  os : w'.os = w.os
  tape : w'.tape = w.tape
  output : w'.output = w.output
  size : w.heap.size ≤ w'.heap.size
  block : ∀ b, b < w.heap.size → b ≠ g → w'.heap[b]? = w.heap[b]?
theorem But.refl (g : Nat) (w : World) : But g w w := ⟨rfl, rfl, rfl, Nat.le_refl _, fun _ _ _ => rfl⟩
theorem But.of {g : Nat} {w w' : World} (h : Below w.heap.size w w') : But g w w' := ⟨h.os, h.tape, h.output, h.size, fun b hb _ => h.block b hb⟩
theorem But.trans {g : Nat} {a b c : World} (h1 : But g a b) (h2 : But g b c) : But g a c := ⟨h2.os.trans h1.os, h2.tape.trans h1.tape, h2.output.trans h1.output, Nat.le_trans h1.size h2.size, fun k hk hg => (h2.block k (Nat.lt_of_lt_of_le hk h1.size) hg).trans (h1.block k hk hg)⟩
end Go.Proofs.YtiddnjjaidiohaaGreatDoor.L
namespace Go.Proofs.YtiddnjjaidiohaaGreatDoor.L
open Go.RowKit Go.Extern.Stop Go.Stop Go.Extern
set_option linter.unusedVariables false
theorem lt_of_cell {w : World} {t : Addr} {v : Value} (h : w.cell? t = some v) : t.block < w.heap.size := by
  rcases Nat.lt_or_ge t.block w.heap.size with h' | h'
  · exact h'
  · simp [World.cell?, Array.getElem?_eq_none h'] at h
theorem unwrap_any (t : Int) (ev : Value) (w : World) : Calls Tryz.prog 150 #[.agg #[.int .i64 t, ev]] w fun e w' => e = .returned ev ∧ Below w.heap.size w w' := by
  have HB := hid (belowA w (.cells #[.int .i64 t, ev] 111))
  go_enter Tryz.func150, Tryz.ntmps150
  go_wp2_with fail
  go_ret
  exact ⟨rfl, HB.out⟩
theorem assertAs (v : Value) (w : World) : (Instr.typeAssert (.iface 111 v) 37 120 true).run Tryz.prog w = .ok (.tuple #[.nilIface, .bool false]) w := run_typeAssert_lacksB Tryz.underlying120 (by kernel_rfl) (by kernel_rfl) v 37 w
theorem assertUn (v : Value) (w : World) : (Instr.typeAssert (.iface 111 v) 37 123 true).run Tryz.prog w = .ok (.tuple #[.iface 111 v, .bool true]) w := by kernel_rfl
set_option maxHeartbeats 8000000 in
set_option maxRecDepth 100000 in
theorem as_in (ev : Value) (N tb : Nat) (va : Addr) (old : Value) (w : World) (he : ErN N ev) (hv : w.cell? va = some (.pointer (some ⟨tb, 0, none⟩))) (ht : w.heap[tb]? = some (.cells #[old] 48 (0, 0))) :
    Calls Tryz.prog 44 #[ev, .iface 73 (.pointer (some ⟨tb, 0, none⟩)), .agg #[.pointer (some ⟨4, 73, none⟩), .pointer (some va), .int .u64 150], .iface 115 (.agg #[.pointer (some ⟨4, 48, none⟩)])] w
      fun e w' => e = .returned (.bool true) ∧ w'.cell? ⟨tb, 0, none⟩ = some (.pointer (some ⟨N, 0, none⟩)) ∧ But tb w w' := by
  have h41 := @run_callFunc_extern Tryz.prog 41 _ (fun args => ReflectliteValue.unpack (args.getD 0 (.tuple #[]))) Tryz.func41 (by kernel_rfl) (by kernel_rfl) (by kernel_rfl) (by kernel_rfl)
  have h63 := @run_callFunc_extern Tryz.prog 63 _ ReflectliteType.typeOf Tryz.func63 (by kernel_rfl) (by kernel_rfl) (by kernel_rfl) (by kernel_rfl)
  have h152 := @run_callFunc_extern Tryz.prog 152 _ (ReflectliteType.relation "AssignableTo" ReflectliteType.assignableTo) Tryz.func152 (by kernel_rfl) (by kernel_rfl) (by kernel_rfl) (by kernel_rfl)
  have h64 := @run_callFunc_extern Tryz.prog 64 _ (ReflectliteValue.method (ReflectliteValue.valueError "reflectlite.Value.Elem" 0) ReflectliteValue.elem) Tryz.func64 (by kernel_rfl) (by kernel_rfl) (by kernel_rfl) (by kernel_rfl)
  have h65 := @run_callFunc_extern Tryz.prog 65 _ ReflectliteValue.set Tryz.func65 (by kernel_rfl) (by kernel_rfl) (by kernel_rfl) (by kernel_rfl)
  have tE := As.typeOfE
  have tI := As.typeOfI
  have mA := As.methodAssignableTo
  have mU := As.methodUnwrap
  have aE := As.assignableE
  have aI := As.assignableI
  have vE := As.valueOfE
  have xA := assertAs
  have xU := assertUn
  have HE := hid he
  have HV := hid hv
  have HTB := hid ht
  have HB := hid (belowA w (.cells #[.pointer (some ⟨4, 73, none⟩), .pointer (some va), .int .u64 150] 92))
  have HX := hid (heap_alloc_new w (.cells #[.pointer (some ⟨4, 73, none⟩), .pointer (some va), .int .u64 150] 92))
  have HUW := hid unwrap_any
  clear he hv ht
  go_enter Tryz.func44, Tryz.ntmps44
  go_wp2_with fail
  generalize w.alloc (.cells #[.pointer (some ⟨4, 73, none⟩), .pointer (some va), .int .u64 150] 92) = X at *
  go_loopw [0] (fun i wr => ErN N i ∧ Hid (Below X.heap.size X wr)) (fun i _ => SizeOf.sizeOf i)
  case atStart => exact ⟨HE.out, hid (Below.refl _ _)⟩
  case round =>
    obtain ⟨hn, HBW⟩ := hrel
    cases hn with
    | flt =>
      have HTR := hid ((HBW.out.block _ (Nat.lt_of_lt_of_le (lt_blk HTB.out) HB.out.size)).trans ((HB.out.block _ (lt_blk HTB.out)).trans HTB.out))
      have hx := HBW.out.block _ (lt_blk HX.out) |>.trans HX.out
      have c0 : wr.cell? ⟨w.heap.size, 0, none⟩ = some (.pointer (some ⟨4, 73, none⟩)) := cell_of_row _ _ 0 _ _ _ hx
      have c1 : wr.cell? ⟨w.heap.size, 1, none⟩ = some (.pointer (some va)) := cell_of_row _ _ 1 _ _ _ hx
      have c2 : wr.cell? ⟨w.heap.size, 2, none⟩ = some (.int .u64 150) := cell_of_row _ _ 2 _ _ _ hx
      clear hx
      have el := As.elemVP va ⟨tb, 0, none⟩ wr ((HBW.out.cell (Nat.lt_of_lt_of_le (lt_of_cell HV.out) HB.out.size)).trans ((HB.out.cell (lt_of_cell HV.out)).trans HV.out))
      have HB2 := hid (belowA wr (.cells #[.pointer (some ⟨N, 0, none⟩)] 48))
      have HX2 := hid (heap_alloc_new wr (.cells #[.pointer (some ⟨N, 0, none⟩)] 48))
      have HT2 := hid ((HB2.out.block _ (lt_blk HTR.out)).trans HTR.out)
      have st := As.setE ⟨tb, 0, none⟩ ⟨wr.heap.size, 0, none⟩ ⟨N, 0, none⟩ old (wr.alloc (.cells #[.pointer (some ⟨N, 0, none⟩)] 48)) (cell_of_row _ _ 0 _ _ _ HX2.out) (cell_of_row _ _ 0 _ _ _ HT2.out) (free_of_one HT2.out)
      go_wp2_with fail
      go_ret
      refine ⟨rfl, ?_, ?_⟩
      · exact cell_of_one (one_setCell HT2.out)
      · exact (But.of HB.out).trans (((But.of HBW.out).trans (But.of HB2.out)).trans ⟨rfl, rfl, rfl, by simp, fun b hb hg => Below.heap_setCell _ _ _ _ hg⟩)
    | ins t ev' hn =>
      obtain ⟨u, x, rfl⟩ := hn.ne
      have HN := hid hn
      clear hn
      go_wp2_with (go_at_call 150; refine (HUW.out t _ _).mono ?_; rintro e w1 ⟨rfl, l1⟩; have L1 := hid l1; clear l1)
      refine ⟨⟨HN.out, hid (HBW.out.trans (L1.out.mono HBW.out.size))⟩, ?_⟩
      simp
      omega
set_option maxHeartbeats 8000000 in
set_option maxRecDepth 100000 in
/-- errors.As of an error in which the fault of the block N is met. -/
theorem as_any (ev : Value) (N tb : Nat) (old : Value) (w : World) (he : ErN N ev) (hg : w.cell? ⟨0, 0, none⟩ = some (.iface 115 (.agg #[.pointer (some ⟨4, 37, none⟩)]))) (ht : w.heap[tb]? = some (.cells #[old] 48 (0, 0))) :
    Calls Tryz.prog 26 #[ev, .iface 73 (.pointer (some ⟨tb, 0, none⟩))] w
      fun e w' => e = .returned (.bool true) ∧ w'.cell? ⟨tb, 0, none⟩ = some (.pointer (some ⟨N, 0, none⟩)) ∧ But tb w w' := by
  have h41 := @run_callFunc_extern Tryz.prog 41 _ (fun args => ReflectliteValue.unpack (args.getD 0 (.tuple #[]))) Tryz.func41 (by kernel_rfl) (by kernel_rfl) (by kernel_rfl) (by kernel_rfl)
  have h42 := @run_callFunc_extern Tryz.prog 42 _ (ReflectliteValue.methodAny (ReflectliteValue.valueError "reflectlite.Value.Type" 0) (fun t _ _ _ => ReflectliteType.toType t)) Tryz.func42 (by kernel_rfl) (by kernel_rfl) (by kernel_rfl) (by kernel_rfl)
  have h43 := @run_callFunc_extern Tryz.prog 43 _ (ReflectliteValue.method (ReflectliteValue.valueError "reflectlite.Value.IsNil" 0) ReflectliteValue.isNil) Tryz.func43 (by kernel_rfl) (by kernel_rfl) (by kernel_rfl) (by kernel_rfl)
  have h140 := @run_callFunc_extern Tryz.prog 140 _ (ReflectliteType.abiMethod fun t => do pure (.int .u8 (← Rtype.kind t))) Tryz.func140 (by kernel_rfl) (by kernel_rfl) (by kernel_rfl) (by kernel_rfl)
  have h154 := @run_callFunc_extern Tryz.prog 154 _ (ReflectliteType.method ReflectliteType.elem) Tryz.func154 (by kernel_rfl) (by kernel_rfl) (by kernel_rfl) (by kernel_rfl)
  have h155 := @run_callFunc_extern Tryz.prog 155 _ (ReflectliteType.relation "Implements" ReflectliteType.implements_) Tryz.func155 (by kernel_rfl) (by kernel_rfl) (by kernel_rfl) (by kernel_rfl)
  have vP := As.valueOfP
  have tP := As.typeP
  have mK := As.methodKind
  have mE := As.methodElem
  have mI := As.methodImplements
  have kP := As.kindP
  have kE := As.kindE
  have eP := As.elemP
  have iE := As.implementsE
  have HB1 := hid (belowA w (.cells #[.pointer (some ⟨tb, 0, none⟩)] 73))
  have HX1 := hid (heap_alloc_new w (.cells #[.pointer (some ⟨tb, 0, none⟩)] 73))
  have HB2 := hid (belowA (w.alloc (.cells #[.pointer (some ⟨tb, 0, none⟩)] 73)) (.cells #[.pointer (some ⟨4, 73, none⟩), .pointer (some ⟨w.heap.size, 0, none⟩), .int .u64 150] 92))
  have n8 := As.isNilP ⟨w.heap.size, 0, none⟩ ⟨tb, 0, none⟩ ((w.alloc (.cells #[.pointer (some ⟨tb, 0, none⟩)] 73)).alloc (.cells #[.pointer (some ⟨4, 73, none⟩), .pointer (some ⟨w.heap.size, 0, none⟩), .int .u64 150] 92)) ((HB2.out.cell (by simp)).trans (cell_of_one HX1.out))
  have hlt := lt_of_cell hg
  have hg2 := (HB2.out.cell (p := ⟨0, 0, none⟩) (Nat.lt_of_lt_of_le hlt HB1.out.size)).trans ((HB1.out.cell hlt).trans hg)
  have HIN := hid (as_in ev N tb ⟨w.heap.size, 0, none⟩ old _ he ((HB2.out.cell (by simp)).trans (cell_of_one HX1.out)) ((HB2.out.block _ (Nat.lt_of_lt_of_le (lt_blk ht) HB1.out.size)).trans ((HB1.out.block _ (lt_blk ht)).trans ht)))
  obtain ⟨u, x, rfl⟩ := he.ne
  clear hlt he hg ht
  go_enter Tryz.func26, Tryz.ntmps26
  go_wp2_with (go_at_call 44; refine HIN.out.mono ?_; rintro e w1 ⟨rfl, hc, hb⟩; have HC := hid hc; have HB := hid hb; clear hc hb)
  go_ret
  exact ⟨rfl, HC.out, (But.of HB1.out).trans ((But.of HB2.out).trans HB.out)⟩
end Go.Proofs.YtiddnjjaidiohaaGreatDoor.L
