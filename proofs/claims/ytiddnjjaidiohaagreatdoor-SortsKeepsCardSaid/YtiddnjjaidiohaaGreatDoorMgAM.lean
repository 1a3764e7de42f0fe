import Derived.Test.YtiddnjjaidiohaaGreatDoorMgAL
import Derived.Test.YtiddnjjaidiohaaGreatDoorMgAI
import Derived.Test.YtiddnjjaidiohaaGreatDoorMgAJ
import Derived.Test.YtiddnjjaidiohaaGreatDoorMgAC
namespace Go.Proofs.YtiddnjjaidiohaaGreatDoor.L
open Go.RowKit Go.Extern.Stop Go.Stop Go.Extern
set_option linter.unusedVariables false
theorem lt_of_cell {w : World} {t : Addr} {v : Value} (h : w.cell? t = some v) : t.block < w.heap.size := by
  rcases Nat.lt_or_ge t.block w.heap.size with h' | h'
  · exact h'
  · simp [World.cell?, Array.getElem?_eq_none h'] at h
theorem unwrap_any (t : Int) (ev : Value) (w : World) : Calls Tryz.prog 150 #[.agg #[.int .i64 t, ev]] w fun e w' => e = .returned ev ∧ Below w.heap.size w w' := by
  have HB := hid (belowA w (.cells #[.int .i64 t, ev] 111))
  go_enter Tryz.func150, Tryz.ntmps150
  go_wp2_with fail
  go_ret
  exact ⟨rfl, HB.out⟩
theorem assertAs (v : Value) (w : World) : (Instr.typeAssert (.iface 111 v) 37 120 true).run Tryz.prog w = .ok (.tuple #[.nilIface, .bool false]) w := run_typeAssert_lacksB Tryz.underlying120 (by kernel_rfl) (by kernel_rfl) v 37 w
theorem assertUn (v : Value) (w : World) : (Instr.typeAssert (.iface 111 v) 37 123 true).run Tryz.prog w = .ok (.tuple #[.iface 111 v, .bool true]) w := by kernel_rfl
set_option maxHeartbeats 8000000 in
set_option maxRecDepth 100000 in
theorem as_in (ev : Value) (N tb : Nat) (va : Addr) (old : Value) (w : World) (he : ErN N ev) (hv : w.cell? va = some (.pointer (some ⟨tb, 0, none⟩))) (ht : w.heap[tb]? = some (.cells #[old] 48 (0, 0))) :
    Calls Tryz.prog 44 #[ev, .iface 73 (.pointer (some ⟨tb, 0, none⟩)), .agg #[.pointer (some ⟨4, 73, none⟩), .pointer (some va), .int .u64 150], .iface 115 (.agg #[.pointer (some ⟨4, 48, none⟩)])] w
      fun e w' => e = .returned (.bool true) ∧ w'.cell? ⟨tb, 0, none⟩ = some (.pointer (some ⟨N, 0, none⟩)) ∧ But tb w w' := by
  have h41 := @run_callFunc_extern Tryz.prog 41 _ (fun args => ReflectliteValue.unpack (args.getD 0 (.tuple #[]))) Tryz.func41 (by kernel_rfl) (by kernel_rfl) (by kernel_rfl) (by kernel_rfl)
  have h63 := @run_callFunc_extern Tryz.prog 63 _ ReflectliteType.typeOf Tryz.func63 (by kernel_rfl) (by kernel_rfl) (by kernel_rfl) (by kernel_rfl)
  have h152 := @run_callFunc_extern Tryz.prog 152 _ (ReflectliteType.relation "AssignableTo" ReflectliteType.assignableTo) Tryz.func152 (by kernel_rfl) (by kernel_rfl) (by kernel_rfl) (by kernel_rfl)
  have h64 := @run_callFunc_extern Tryz.prog 64 _ (ReflectliteValue.method (ReflectliteValue.valueError "reflectlite.Value.Elem" 0) ReflectliteValue.elem) Tryz.func64 (by kernel_rfl) (by kernel_rfl) (by kernel_rfl) (by kernel_rfl)
  have h65 := @run_callFunc_extern Tryz.prog 65 _ ReflectliteValue.set Tryz.func65 (by kernel_rfl) (by kernel_rfl) (by kernel_rfl) (by kernel_rfl)
  have tE := As.typeOfE
  have tI := As.typeOfI
  have mA := As.methodAssignableTo
  have mU := As.methodUnwrap
  have aE := As.assignableE
  have aI := As.assignableI
  have vE := As.valueOfE
  have xA := assertAs
  have xU := assertUn
  have HE := hid he
  have HV := hid hv
  have HTB := hid ht
  have HB := hid (belowA w (.cells #[.pointer (some ⟨4, 73, none⟩), .pointer (some va), .int .u64 150] 92))
  have HX := hid (heap_alloc_new w (.cells #[.pointer (some ⟨4, 73, none⟩), .pointer (some va), .int .u64 150] 92))
  have HUW := hid unwrap_any
  clear he hv ht
  go_enter Tryz.func44, Tryz.ntmps44
  go_wp2_with fail
  generalize w.alloc (.cells #[.pointer (some ⟨4, 73, none⟩), .pointer (some va), .int .u64 150] 92) = X at *
  go_loopw [0] (fun i wr => ErN N i ∧ Hid (Below X.heap.size X wr)) (fun i _ => SizeOf.sizeOf i)
  case atStart => exact ⟨HE.out, hid (Below.refl _ _)⟩
  case round =>
    obtain ⟨hn, HBW⟩ := hrel
    cases hn with
    | flt =>
      have HTR := hid ((HBW.out.block _ (Nat.lt_of_lt_of_le (lt_blk HTB.out) HB.out.size)).trans ((HB.out.block _ (lt_blk HTB.out)).trans HTB.out))
      have hx := HBW.out.block _ (lt_blk HX.out) |>.trans HX.out
      have c0 : wr.cell? ⟨w.heap.size, 0, none⟩ = some (.pointer (some ⟨4, 73, none⟩)) := cell_of_row _ _ 0 _ _ _ hx
      have c1 : wr.cell? ⟨w.heap.size, 1, none⟩ = some (.pointer (some va)) := cell_of_row _ _ 1 _ _ _ hx
      have c2 : wr.cell? ⟨w.heap.size, 2, none⟩ = some (.int .u64 150) := cell_of_row _ _ 2 _ _ _ hx
      clear hx
      have el := As.elemVP va ⟨tb, 0, none⟩ wr ((HBW.out.cell (Nat.lt_of_lt_of_le (lt_of_cell HV.out) HB.out.size)).trans ((HB.out.cell (lt_of_cell HV.out)).trans HV.out))
      have HB2 := hid (belowA wr (.cells #[.pointer (some ⟨N, 0, none⟩)] 48))
      have HX2 := hid (heap_alloc_new wr (.cells #[.pointer (some ⟨N, 0, none⟩)] 48))
      have HT2 := hid ((HB2.out.block _ (lt_blk HTR.out)).trans HTR.out)
      have st := As.setE ⟨tb, 0, none⟩ ⟨wr.heap.size, 0, none⟩ ⟨N, 0, none⟩ old (wr.alloc (.cells #[.pointer (some ⟨N, 0, none⟩)] 48)) (cell_of_row _ _ 0 _ _ _ HX2.out) (cell_of_row _ _ 0 _ _ _ HT2.out) (free_of_one HT2.out)
      go_wp2_with fail
      go_ret
      refine ⟨rfl, ?_, ?_⟩
      · exact cell_of_one (one_setCell HT2.out)
      · exact (But.of HB.out).trans (((But.of HBW.out).trans (But.of HB2.out)).trans ⟨rfl, rfl, rfl, by simp, fun b hb hg => Below.heap_setCell _ _ _ _ hg⟩)
    | ins t ev' hn =>
      obtain ⟨u, x, rfl⟩ := hn.ne
      have HN := hid hn
      clear hn
      go_wp2_with (go_at_call 150; refine (HUW.out t _ _).mono ?_; rintro e w1 ⟨rfl, l1⟩; have L1 := hid l1; clear l1)
      refine ⟨⟨HN.out, hid (HBW.out.trans (L1.out.mono HBW.out.size))⟩, ?_⟩
      simp
      omega
set_option maxHeartbeats 8000000 in
set_option maxRecDepth 100000 in
/-- errors.As of an error in which the fault of the block N is met. -/
theorem as_any (ev : Value) (N tb : Nat) (old : Value) (w : World) (he : ErN N ev) (hg : w.cell? ⟨0, 0, none⟩ = some (.iface 115 (.agg #[.pointer (some ⟨4, 37, none⟩)]))) (ht : w.heap[tb]? = some (.cells #[old] 48 (0, 0))) :
    Calls Tryz.prog 26 #[ev, .iface 73 (.pointer (some ⟨tb, 0, none⟩))] w
      fun e w' => e = .returned (.bool true) ∧ w'.cell? ⟨tb, 0, none⟩ = some (.pointer (some ⟨N, 0, none⟩)) ∧ But tb w w' := by
  have h41 := @run_callFunc_extern Tryz.prog 41 _ (fun args => ReflectliteValue.unpack (args.getD 0 (.tuple #[]))) Tryz.func41 (by kernel_rfl) (by kernel_rfl) (by kernel_rfl) (by kernel_rfl)
  have h42 := @run_callFunc_extern Tryz.prog 42 _ (ReflectliteValue.methodAny (ReflectliteValue.valueError "reflectlite.Value.Type" 0) (fun t _ _ _ => ReflectliteType.toType t)) Tryz.func42 (by kernel_rfl) (by kernel_rfl) (by kernel_rfl) (by kernel_rfl)
  have h43 := @run_callFunc_extern Tryz.prog 43 _ (ReflectliteValue.method (ReflectliteValue.valueError "reflectlite.Value.IsNil" 0) ReflectliteValue.isNil) Tryz.func43 (by kernel_rfl) (by kernel_rfl) (by kernel_rfl) (by kernel_rfl)
  have h140 := @run_callFunc_extern Tryz.prog 140 _ (ReflectliteType.abiMethod fun t => do pure (.int .u8 (← Rtype.kind t))) Tryz.func140 (by kernel_rfl) (by kernel_rfl) (by kernel_rfl) (by kernel_rfl)
  have h154 := @run_callFunc_extern Tryz.prog 154 _ (ReflectliteType.method ReflectliteType.elem) Tryz.func154 (by kernel_rfl) (by kernel_rfl) (by kernel_rfl) (by kernel_rfl)
  have h155 := @run_callFunc_extern Tryz.prog 155 _ (ReflectliteType.relation "Implements" ReflectliteType.implements_) Tryz.func155 (by kernel_rfl) (by kernel_rfl) (by kernel_rfl) (by kernel_rfl)
  have vP := As.valueOfP
  have tP := As.typeP
  have mK := As.methodKind
  have mE := As.methodElem
  have mI := As.methodImplements
  have kP := As.kindP
  have kE := As.kindE
  have eP := As.elemP
  have iE := As.implementsE
  have HB1 := hid (belowA w (.cells #[.pointer (some ⟨tb, 0, none⟩)] 73))
  have HX1 := hid (heap_alloc_new w (.cells #[.pointer (some ⟨tb, 0, none⟩)] 73))
  have HB2 := hid (belowA (w.alloc (.cells #[.pointer (some ⟨tb, 0, none⟩)] 73)) (.cells #[.pointer (some ⟨4, 73, none⟩), .pointer (some ⟨w.heap.size, 0, none⟩), .int .u64 150] 92))
  have n8 := As.isNilP ⟨w.heap.size, 0, none⟩ ⟨tb, 0, none⟩ ((w.alloc (.cells #[.pointer (some ⟨tb, 0, none⟩)] 73)).alloc (.cells #[.pointer (some ⟨4, 73, none⟩), .pointer (some ⟨w.heap.size, 0, none⟩), .int .u64 150] 92)) ((HB2.out.cell (by simp)).trans (cell_of_one HX1.out))
  have hlt := lt_of_cell hg
  have hg2 := (HB2.out.cell (p := ⟨0, 0, none⟩) (Nat.lt_of_lt_of_le hlt HB1.out.size)).trans ((HB1.out.cell hlt).trans hg)
  have HIN := hid (as_in ev N tb ⟨w.heap.size, 0, none⟩ old _ he ((HB2.out.cell (by simp)).trans (cell_of_one HX1.out)) ((HB2.out.block _ (Nat.lt_of_lt_of_le (lt_blk ht) HB1.out.size)).trans ((HB1.out.block _ (lt_blk ht)).trans ht)))
  obtain ⟨u, x, rfl⟩ := he.ne
  clear hlt he hg ht
  go_enter Tryz.func26, Tryz.ntmps26
  go_wp2_with (go_at_call 44; refine HIN.out.mono ?_; rintro e w1 ⟨rfl, hc, hb⟩; have HC := hid hc; have HB := hid hb; clear hc hb)
  go_ret
  exact ⟨rfl, HC.out, (But.of HB1.out).trans ((But.of HB2.out).trans HB.out)⟩
end Go.Proofs.YtiddnjjaidiohaaGreatDoor.L
namespace Go.Proofs.YtiddnjjaidiohaaGreatDoor.L
open Go.RowKit Go.Extern.Stop Go.Stop Go.Extern
set_option linter.unusedVariables false
/-- The variable errors.errorType holds its type. -/
def Gv (w : World) : Prop := w.cell? ⟨0, 0, none⟩ = some (.iface 115 (.agg #[.pointer (some ⟨4, 37, none⟩)]))
theorem Gv.lt {w : World} (h : Gv w) : 0 < w.heap.size := lt_of_cell (t := ⟨0, 0, none⟩) h
theorem Gv.low {w w' : World} (h : Gv w) (hb : Below w.heap.size w w') : Gv w' := (hb.cell h.lt).trans h
theorem Gv.but {w w' : World} {g : Nat} (h : Gv w) (hb : But g w w') (hg : g ≠ 0) : Gv w' := (World.cell?_of_block (w := w) (a := ⟨0, 0, none⟩) (hb.block 0 h.lt (Ne.symm hg))).trans h
theorem but_new {w0 w w' : World} {g : Nat} (h : Below w0.heap.size w0 w) (hb : But g w w') (hg : w0.heap.size ≤ g) : Below w0.heap.size w0 w' := ⟨hb.os.trans h.os, hb.tape.trans h.tape, hb.output.trans h.output, Nat.le_trans h.size hb.size, fun k hk => (hb.block k (Nat.lt_of_lt_of_le hk h.size) (by omega)).trans (h.block k hk)⟩
/-- A fault with a fault as its cause. -/
def FltC (W : World) (M : Nat) (i : Int) (N : Nat) : Prop := W.heap[M]? = some (.cells #[.int .i64 140, .int .i64 i, .string ⟨#[]⟩, fv N] 52 (0, 0))
theorem FltC.low {W W' : World} {M N : Nat} {i : Int} (h : FltC W M i N) (hb : Below W.heap.size W W') : FltC W' M i N := (hb.block M (lt_blk h)).trans h
/-- What valid answers. -/
def VaR (T : List Pt) (W : World) (ev : Value) : Prop := (ev = .nilIface ∧ Res T 0 0) ∨ ∃ M N c i : Nat, ev = fv M ∧ FltC W M i N ∧ Flt W N c i ∧ Res T c i ∧ c ≠ 0
theorem VaR.low {T : List Pt} {W W' : World} {ev : Value} (h : VaR T W ev) (hb : Below W.heap.size W W') : VaR T W' ev := by
  rcases h with h | ⟨M, N, c, i, h1, h2, h3, h4⟩
  · exact .inl h
  · exact .inr ⟨M, N, c, i, h1, h2.low hb, h3.low hb, h4⟩
/-- errors.As of no error, or of one in which a fault is met. -/
theorem as_e (ev : Value) (tb : Nat) (old : Value) (w : World) (he : ev = .nilIface ∨ ∃ N, ErN N ev) (hg : Gv w) (ht : w.heap[tb]? = some (.cells #[old] 48 (0, 0))) :
    Calls Tryz.prog 26 #[ev, .iface 73 (.pointer (some ⟨tb, 0, none⟩))] w
      fun e w' => ∃ b : Bool, e = .returned (.bool b) ∧ But tb w w' ∧ ((b = false ∧ ev = .nilIface ∧ w' = w) ∨ (b = true ∧ ∃ N, ErN N ev ∧ w'.cell? ⟨tb, 0, none⟩ = some (.pointer (some ⟨N, 0, none⟩)))) := by
  rcases he with rfl | ⟨N, he⟩
  · refine (as_nil _ w).mono ?_
    rintro e w' ⟨rfl, rfl⟩
    exact ⟨false, rfl, But.refl _ _, .inl ⟨rfl, rfl, rfl⟩⟩
  · refine (as_any ev N tb old w he hg ht).mono ?_
    rintro e w' ⟨rfl, hc, hb⟩
    exact ⟨true, rfl, hb, .inr ⟨rfl, N, he, hc⟩⟩
theorem ErrR.erN {T : List Pt} {B : Nat} {W : World} {ev : Value} (h : ErrR T B W ev) : ev = .nilIface ∨ ∃ N, ErN N ev := by
  rcases h with ⟨h, _⟩ | ⟨N, c, i, rfl, _⟩
  · exact .inl h
  · exact .inr ⟨N, .flt⟩
theorem ErN.one {N M : Nat} (h : ErN N (fv M)) : N = M := by
  cases h with
  | flt => rfl
set_option maxHeartbeats 8000000 in
set_option maxRecDepth 100000 in
theorem svalid_any (a : Option Addr) (T : List Pt) (cap : Nat) (w : World) (hT : PL w a T) (hG : GdT T) (hg : Gv w) :
    Calls Tryz.prog 39 #[.agg #[.slice a T.length cap]] w fun e w' => ∃ ev, e = .returned ev ∧ Below w.heap.size w w' ∧ VaR T w' ev := by
  have HB0 := hid (belowA w (.cells #[.slice a T.length cap] 26))
  have HX0 := hid (heap_alloc_new w (.cells #[.slice a T.length cap] 26))
  have HB1 := hid (belowA (w.alloc (.cells #[.slice a T.length cap] 26)) (.cells #[.pointer none] 48))
  have HX1 := hid (heap_alloc_new (w.alloc (.cells #[.slice a T.length cap] 26)) (.cells #[.pointer none] 48))
  have HBB := hid (bchS HB0.out HB1.out)
  have HSZ := hid (show (w.alloc (.cells #[.slice a T.length cap] 26)).heap.size = w.heap.size + 1 by simp)
  rw [HSZ.out] at HX1
  have HVA := hid (valid_any a T cap _ (hT.low HBB.out) hG)
  have HG := hid (hg.low HBB.out)
  generalize T.length = L at *
  clear hT hg
  go_enter Tryz.func39, Tryz.ntmps39
  go_upto_region 2 with (fail)
  generalize (w.alloc (.cells #[.slice a L cap] 26)).alloc (.cells #[.pointer none] 48) = X at *
  have x0 := cell_of_one ((HB1.out.block _ (lt_blk HX0.out)).trans HX0.out)
  go_upto_region 3 with (first
    | (go_at_call 15; refine HVA.out.mono ?_; rintro e w1 ⟨ev, rfl, l1, hr⟩; have L1 := hid l1; have HR := hid hr; clear l1 hr)
    | (go_at_call 26; refine (as_e _ _ (.pointer none) _ HR.out.erN (HG.out.low L1.out) ((L1.out.block _ (lt_blk HX1.out)).trans HX1.out)).mono ?_; rintro e w2 ⟨b, rfl, hb, hr⟩; have HB := hid hb; have HA := hid hr; clear hb hr))
  have HLX := hid (lt_blk HX1.out)
  · rcases HA.out with ⟨rfl, _⟩ | ⟨_, N, hn, hc⟩
    · contradiction
    rcases HR.out with ⟨rfl, _⟩ | ⟨N1, c, i, rfl, hf, hN, hr, hc0⟩
    · cases hn
    obtain rfl := hn.one
    have F2 := hid (show Flt w2 N c i from (HB.out.block N (lt_blk hf) (by have := HLX.out; omega)).trans hf)
    have ⟨q0, q1, q2, q3⟩ := cells4 F2.out
    have HRS := hid (And.intro hr hc0)
    have HBX := hid (but_new (HBB.out.trans (L1.out.mono HBB.out.size)) HB.out (by omega))
    have HB3 := hid (belowA w2 (.cells #[.int .i64 140, .int .i64 (i : Int), .string ⟨#[]⟩, fv N] 52))
    have HX3 := hid (heap_alloc_new w2 (.cells #[.int .i64 140, .int .i64 (i : Int), .string ⟨#[]⟩, fv N] 52))
    clear hr hc0 hf hn x0
    simp only [fv] at HX3 HB3
    go_region
    clear q0 q1 q2 q3 hc
    go_wp2_with fail
    go_ret
    exact ⟨_, rfl, HBX.out.trans (HB3.out.drew.mono HBX.out.size), .inr ⟨_, N, c, i, rfl, HX3.out, F2.out.low HB3.out.drew, HRS.out⟩⟩
  · rcases HA.out with ⟨_, rfl, rfl⟩ | ⟨rfl, _⟩
    · go_ret
      refine ⟨_, rfl, HBB.out.trans (L1.out.mono HBB.out.size), .inl ⟨rfl, ?_⟩⟩
      rcases HR.out with ⟨_, h⟩ | ⟨N, c, i, h, _⟩
      · exact h
      · cases h
    · contradiction
end Go.Proofs.YtiddnjjaidiohaaGreatDoor.L
namespace Go.Proofs.YtiddnjjaidiohaaGreatDoor.L
open Go.RowKit
set_option linter.unusedVariables false
/-- A part's text is a name of its kind. -/
def nmB (k : Int) (tx : ByteArray) : Bool :=
  if k = 8 ∨ k = 9 ∨ k = 20 ∨ k = 14 then keyB tx
  else if k = 10 then effB tx
  else if k = 18 then Qn.nameB tx
  else true
set_option maxHeartbeats 4000000 in
set_option maxRecDepth 100000 in
theorem nm_8 (tx : ByteArray) (nu : Int) (kv : Value) (hs : tx.size ≤ maxLen) (w : World) : Calls Tryz.prog 95 #[.agg #[.int .i64 8, .string tx, .int .i64 nu, kv]] w fun e w' => e = .returned (.bool (nmB 8 tx)) ∧ Below w.heap.size w w' := by
  have HB := hid (belowA w (.cells #[.int .i64 8, .string tx, .int .i64 nu, kv] 60))
  have HC := hid (cells4 (heap_alloc_new w (.cells #[.int .i64 8, .string tx, .int .i64 nu, kv] 60)))
  go_enter Tryz.func95, Tryz.ntmps95
  go_upto_region 1 with (fail)
  have ⟨x0, x1, x2, x3⟩ := HC.out
  generalize w.alloc (.cells #[.int .i64 8, .string tx, .int .i64 nu, kv] 60) = X at *
  go_wp2_with (go_at_call 97; refine (key_any tx _ hs).mono ?_; rintro e w1 ⟨rfl, l1⟩; have HB1 := hid (bchS HB.out l1); clear l1)
  go_ret
  exact ⟨ret_bool (by simp [nmB]), HB1.out⟩
set_option maxHeartbeats 4000000 in
set_option maxRecDepth 100000 in
theorem nm_9 (tx : ByteArray) (nu : Int) (kv : Value) (hs : tx.size ≤ maxLen) (w : World) : Calls Tryz.prog 95 #[.agg #[.int .i64 9, .string tx, .int .i64 nu, kv]] w fun e w' => e = .returned (.bool (nmB 9 tx)) ∧ Below w.heap.size w w' := by
  have HB := hid (belowA w (.cells #[.int .i64 9, .string tx, .int .i64 nu, kv] 60))
  have HC := hid (cells4 (heap_alloc_new w (.cells #[.int .i64 9, .string tx, .int .i64 nu, kv] 60)))
  go_enter Tryz.func95, Tryz.ntmps95
  go_upto_region 1 with (fail)
  have ⟨x0, x1, x2, x3⟩ := HC.out
  generalize w.alloc (.cells #[.int .i64 9, .string tx, .int .i64 nu, kv] 60) = X at *
  go_wp2_with (go_at_call 97; refine (key_any tx _ hs).mono ?_; rintro e w1 ⟨rfl, l1⟩; have HB1 := hid (bchS HB.out l1); clear l1)
  go_ret
  exact ⟨ret_bool (by simp [nmB]), HB1.out⟩
set_option maxHeartbeats 4000000 in
set_option maxRecDepth 100000 in
theorem nm_20 (tx : ByteArray) (nu : Int) (kv : Value) (hs : tx.size ≤ maxLen) (w : World) : Calls Tryz.prog 95 #[.agg #[.int .i64 20, .string tx, .int .i64 nu, kv]] w fun e w' => e = .returned (.bool (nmB 20 tx)) ∧ Below w.heap.size w w' := by
  have HB := hid (belowA w (.cells #[.int .i64 20, .string tx, .int .i64 nu, kv] 60))
  have HC := hid (cells4 (heap_alloc_new w (.cells #[.int .i64 20, .string tx, .int .i64 nu, kv] 60)))
  go_enter Tryz.func95, Tryz.ntmps95
  go_upto_region 1 with (fail)
  have ⟨x0, x1, x2, x3⟩ := HC.out
  generalize w.alloc (.cells #[.int .i64 20, .string tx, .int .i64 nu, kv] 60) = X at *
  go_wp2_with (go_at_call 97; refine (key_any tx _ hs).mono ?_; rintro e w1 ⟨rfl, l1⟩; have HB1 := hid (bchS HB.out l1); clear l1)
  go_ret
  exact ⟨ret_bool (by simp [nmB]), HB1.out⟩
set_option maxHeartbeats 4000000 in
set_option maxRecDepth 100000 in
theorem nm_14 (tx : ByteArray) (nu : Int) (kv : Value) (hs : tx.size ≤ maxLen) (w : World) : Calls Tryz.prog 95 #[.agg #[.int .i64 14, .string tx, .int .i64 nu, kv]] w fun e w' => e = .returned (.bool (nmB 14 tx)) ∧ Below w.heap.size w w' := by
  have HB := hid (belowA w (.cells #[.int .i64 14, .string tx, .int .i64 nu, kv] 60))
  have HC := hid (cells4 (heap_alloc_new w (.cells #[.int .i64 14, .string tx, .int .i64 nu, kv] 60)))
  go_enter Tryz.func95, Tryz.ntmps95
  go_upto_region 1 with (fail)
  have ⟨x0, x1, x2, x3⟩ := HC.out
  generalize w.alloc (.cells #[.int .i64 14, .string tx, .int .i64 nu, kv] 60) = X at *
  go_wp2_with (go_at_call 97; refine (key_any tx _ hs).mono ?_; rintro e w1 ⟨rfl, l1⟩; have HB1 := hid (bchS HB.out l1); clear l1)
  go_ret
  exact ⟨ret_bool (by simp [nmB]), HB1.out⟩
set_option maxHeartbeats 4000000 in
set_option maxRecDepth 100000 in
theorem nm_10 (tx : ByteArray) (nu : Int) (kv : Value) (hs : tx.size ≤ maxLen) (w : World) : Calls Tryz.prog 95 #[.agg #[.int .i64 10, .string tx, .int .i64 nu, kv]] w fun e w' => e = .returned (.bool (nmB 10 tx)) ∧ Below w.heap.size w w' := by
  have HB := hid (belowA w (.cells #[.int .i64 10, .string tx, .int .i64 nu, kv] 60))
  have HC := hid (cells4 (heap_alloc_new w (.cells #[.int .i64 10, .string tx, .int .i64 nu, kv] 60)))
  go_enter Tryz.func95, Tryz.ntmps95
  go_upto_region 1 with (fail)
  have ⟨x0, x1, x2, x3⟩ := HC.out
  generalize w.alloc (.cells #[.int .i64 10, .string tx, .int .i64 nu, kv] 60) = X at *
  go_wp2_with (go_at_call 98; refine (effect_any tx _).mono ?_; rintro e w1 ⟨rfl, rfl⟩; have HB1 := HB)
  go_ret
  exact ⟨ret_bool (by simp [nmB]), HB1.out⟩
set_option maxHeartbeats 4000000 in
set_option maxRecDepth 100000 in
theorem nm_18 (tx : ByteArray) (nu : Int) (kv : Value) (hs : tx.size ≤ maxLen) (w : World) : Calls Tryz.prog 95 #[.agg #[.int .i64 18, .string tx, .int .i64 nu, kv]] w fun e w' => e = .returned (.bool (nmB 18 tx)) ∧ Below w.heap.size w w' := by
  have HB := hid (belowA w (.cells #[.int .i64 18, .string tx, .int .i64 nu, kv] 60))
  have HC := hid (cells4 (heap_alloc_new w (.cells #[.int .i64 18, .string tx, .int .i64 nu, kv] 60)))
  go_enter Tryz.func95, Tryz.ntmps95
  go_upto_region 1 with (fail)
  have ⟨x0, x1, x2, x3⟩ := HC.out
  generalize w.alloc (.cells #[.int .i64 18, .string tx, .int .i64 nu, kv] 60) = X at *
  go_wp2_with (go_at_call 99; refine (Qn.name_any tx _ hs).mono ?_; rintro e w1 ⟨rfl, n1, rfl⟩; have HB1 := hid (below_drewN HB.out n1))
  go_ret
  exact ⟨ret_bool (by simp [nmB]), HB1.out⟩
set_option maxHeartbeats 4000000 in
set_option maxRecDepth 100000 in
theorem nm_else (tx : ByteArray) (nu : Int) (kv : Value) (k : Int) (hk : k ≠ 8 ∧ k ≠ 9 ∧ k ≠ 20 ∧ k ≠ 14 ∧ k ≠ 10 ∧ k ≠ 18) (w : World) : Calls Tryz.prog 95 #[.agg #[.int .i64 k, .string tx, .int .i64 nu, kv]] w fun e w' => e = .returned (.bool (nmB k tx)) ∧ Below w.heap.size w w' := by
  obtain ⟨h1, h2, h3, h4, h5, h6⟩ := hk
  have HR := hid (show nmB k tx = true by unfold nmB; rw [if_neg (by omega), if_neg (by omega), if_neg (by omega)])
  have e8 : (k == 8) = false := by simp; omega
  have e9 : (k == 9) = false := by simp; omega
  have e20 : (k == 20) = false := by simp; omega
  have e14 : (k == 14) = false := by simp; omega
  have e10 : (k == 10) = false := by simp; omega
  have e18 : (k == 18) = false := by simp; omega
  clear h1 h2 h3 h4 h5 h6
  have HB := hid (belowA w (.cells #[.int .i64 k, .string tx, .int .i64 nu, kv] 60))
  have HC := hid (cells4 (heap_alloc_new w (.cells #[.int .i64 k, .string tx, .int .i64 nu, kv] 60)))
  go_enter Tryz.func95, Tryz.ntmps95
  go_upto_region 1 with (fail)
  have ⟨x0, x1, x2, x3⟩ := HC.out
  generalize w.alloc (.cells #[.int .i64 k, .string tx, .int .i64 nu, kv] 60) = X at *
  go_wp2_with fail
  go_ret
  exact ⟨ret_bool HR.out.symm, HB.out⟩
theorem named_any (k : Int) (tx : ByteArray) (nu : Int) (kv : Value) (hs : tx.size ≤ maxLen) (w : World) : Calls Tryz.prog 95 #[.agg #[.int .i64 k, .string tx, .int .i64 nu, kv]] w fun e w' => e = .returned (.bool (nmB k tx)) ∧ Below w.heap.size w w' := by
  by_cases h : k ≠ 8 ∧ k ≠ 9 ∧ k ≠ 20 ∧ k ≠ 14 ∧ k ≠ 10 ∧ k ≠ 18
  · exact nm_else tx nu kv k h w
  · have hc : k = 8 ∨ k = 9 ∨ k = 20 ∨ k = 14 ∨ k = 10 ∨ k = 18 := by omega
    rcases hc with rfl | rfl | rfl | rfl | rfl | rfl
    · exact nm_8 tx nu kv hs w
    · exact nm_9 tx nu kv hs w
    · exact nm_20 tx nu kv hs w
    · exact nm_14 tx nu kv hs w
    · exact nm_10 tx nu kv hs w
    · exact nm_18 tx nu kv hs w
end Go.Proofs.YtiddnjjaidiohaaGreatDoor.L
namespace Go.Proofs.YtiddnjjaidiohaaGreatDoor.L
open Go.RowKit
set_option linter.unusedVariables false
/-- What asked answers. -/
def asO (k nu sc : Int) (tx : ByteArray) (t : Int) : Option (Nat × Int) :=
  if knB k nu sc = false then (if selB k = true then some (143, t) else some (142, t))
  else if nmB k tx = true then none else some (147, t)
set_option maxHeartbeats 8000000 in
set_option maxRecDepth 100000 in
theorem asked_any (k : Int) (tx : ByteArray) (nu sc t : Int) (kv : Value) (hs : tx.size ≤ maxLen) (w : World) : Calls Tryz.prog 82 #[.agg #[.int .i64 k, .string tx, .int .i64 nu, kv], .int .i64 t, .int .i64 sc] w fun e w' => ∃ ev, e = .returned ev ∧ AnsR (asO k nu sc tx t) w.heap.size w' ev ∧ Below w.heap.size w w' := by
  have HB := hid (belowA w (.cells #[.int .i64 k, .string tx, .int .i64 nu, kv] 60))
  have HC := hid (heap_alloc_new w (.cells #[.int .i64 k, .string tx, .int .i64 nu, kv] 60))
  have HL := hid (Nat.le_of_lt (lt_blk HC.out))
  go_enter Tryz.func82, Tryz.ntmps82
  go_upto_region 1 with (fail)
  have ⟨x0, x1, x2, x3⟩ := cells4 HC.out
  generalize w.alloc (.cells #[.int .i64 k, .string tx, .int .i64 nu, kv] 60) = X at *
  cases e1 : knB k nu sc
  · cases e2 : selB k
    · go_upto_region 3 with (first | (go_at_call 94; refine (known_any k tx nu sc kv _).mono ?_; rw [e1]; rintro e w1 ⟨rfl, l1⟩; have L1 := hid l1; clear l1; have ⟨y0, y1, y2, y3⟩ := cells4 ((L1.out.block _ (lt_blk HC.out)).trans HC.out)) | (go_at_call 77; refine (selects_any k _).mono ?_; rw [e2]; rintro e w2 ⟨rfl, rfl⟩))
      go_upto_region 4 with (go_at_call 94; refine (known_any k tx nu sc kv _).mono ?_; rw [e1]; rintro e w3 ⟨rfl, l3⟩; have L3 := hid (bchS L1.out l3); clear l3)
      go_wp2_with (go_at_call 38; refine (sfault_any 142 t _).mono ?_; rintro e w4 ⟨rfl, h4, l4⟩; have HF := hid h4; have L4 := hid l4; clear h4 l4)
      go_ret
      exact ⟨_, rfl, .inr ⟨_, 142, t, by simp [asO, e1, e2], rfl, HF.out, Nat.le_trans HL.out L3.out.size⟩, bchS HB.out (bchS L3.out L4.out)⟩
    · go_upto_region 2 with (first | (go_at_call 94; refine (known_any k tx nu sc kv _).mono ?_; rw [e1]; rintro e w1 ⟨rfl, l1⟩; have L1 := hid l1; clear l1; have ⟨y0, y1, y2, y3⟩ := cells4 ((L1.out.block _ (lt_blk HC.out)).trans HC.out)) | (go_at_call 77; refine (selects_any k _).mono ?_; rw [e2]; rintro e w2 ⟨rfl, rfl⟩))
      go_wp2_with (go_at_call 38; refine (sfault_any 143 t _).mono ?_; rintro e w4 ⟨rfl, h4, l4⟩; have HF := hid h4; have L4 := hid l4; clear h4 l4)
      go_ret
      exact ⟨_, rfl, .inr ⟨_, 143, t, by simp [asO, e1, e2], rfl, HF.out, Nat.le_trans HL.out L1.out.size⟩, bchS HB.out (bchS L1.out L4.out)⟩
  · go_upto_region 3 with (go_at_call 94; refine (known_any k tx nu sc kv _).mono ?_; rw [e1]; rintro e w1 ⟨rfl, l1⟩; have L1 := hid l1; clear l1; have ⟨y0, y1, y2, y3⟩ := cells4 ((L1.out.block _ (lt_blk HC.out)).trans HC.out))
    go_upto_region 5 with (go_at_call 94; refine (known_any k tx nu sc kv _).mono ?_; rw [e1]; rintro e w3 ⟨rfl, l3⟩; have L3 := hid (bchS L1.out l3); clear l3; have ⟨z0, z1, z2, z3⟩ := cells4 ((L3.out.block _ (lt_blk HC.out)).trans HC.out))
    cases e3 : nmB k tx
    · go_upto_region 6 with (go_at_call 95; refine (named_any k tx nu kv hs _).mono ?_; rw [e3]; rintro e w5 ⟨rfl, l5⟩; have L5 := hid (bchS L3.out l5); clear l5)
      go_wp2_with (go_at_call 38; refine (sfault_any 147 t _).mono ?_; rintro e w4 ⟨rfl, h4, l4⟩; have HF := hid h4; have L4 := hid l4; clear h4 l4)
      go_ret
      exact ⟨_, rfl, .inr ⟨_, 147, t, by simp [asO, e1, e3], rfl, HF.out, Nat.le_trans HL.out L5.out.size⟩, bchS HB.out (bchS L5.out L4.out)⟩
    · go_upto_region 7 with (go_at_call 95; refine (named_any k tx nu kv hs _).mono ?_; rw [e3]; rintro e w5 ⟨rfl, l5⟩; have L5 := hid (bchS L3.out l5); clear l5)
      go_wp2_with fail
      go_ret
      exact ⟨_, rfl, .inl ⟨by simp [asO, e1, e3], rfl⟩, bchS HB.out L5.out⟩
end Go.Proofs.YtiddnjjaidiohaaGreatDoor.L
