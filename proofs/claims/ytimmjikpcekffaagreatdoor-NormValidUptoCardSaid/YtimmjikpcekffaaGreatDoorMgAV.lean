import Derived.Test.YtimmjikpcekffaaGreatDoorHE
import Derived.Test.YtimmjikpcekffaaGreatDoorMgAT
import Derived.Test.YtimmjikpcekffaaGreatDoorMgAA
import Derived.Test.YtimmjikpcekffaaGreatDoorMgAB
namespace Go.Proofs.YtimmjikpcekffaaGreatDoor.L
open Go.RowKit
set_option linter.unusedVariables false
/-- Only the block g of what stood may be changed. -/
structure But (g : Nat) (w w' : World) : Prop where
  os : w'.os = w.os
  tape : w'.tape = w.tape
  output : w'.output = w.output
  size : w.heap.size ≤ w'.heap.size
  block : ∀ b, b < w.heap.size → b ≠ g → w'.heap[b]? = w.heap[b]?
theorem But.refl (g : Nat) (w : World) : But g w w := ⟨rfl, rfl, rfl, Nat.le_refl _, fun _ _ _ => rfl⟩
theorem But.of {g : Nat} {w w' : World} (h : Below w.heap.size w w') : But g w w' := ⟨h.os, h.tape, h.output, h.size, fun b hb _ => h.block b hb⟩
theorem But.trans {g : Nat} {a b c : World} (h1 : But g a b) (h2 : But g b c) : But g a c := ⟨h2.os.trans h1.os, h2.tape.trans h1.tape, h2.output.trans h1.output, Nat.le_trans h1.size h2.size, fun k hk hg => (h2.block k (Nat.lt_of_lt_of_le hk h1.size) hg).trans (h1.block k hk hg)⟩
end Go.Proofs.YtimmjikpcekffaaGreatDoor.L
namespace Go.Proofs.YtimmjikpcekffaaGreatDoor.L
open Go.RowKit Go.Extern.Stop Go.Stop Go.Extern
set_option linter.unusedVariables false
theorem lt_of_cell {w : World} {t : Addr} {v : Value} (h : w.cell? t = some v) : t.block < w.heap.size := by
  rcases Nat.lt_or_ge t.block w.heap.size with h' | h'
  · exact h'
  · simp [World.cell?, Array.getElem?_eq_none h'] at h
theorem unwrap_any (t : Int) (ev : Value) (w : World) : Calls Tryz.prog 269 #[.agg #[.int .i64 t, ev]] w fun e w' => e = .returned ev ∧ Below w.heap.size w w' := by
  have HB := hid (belowA w (.cells #[.int .i64 t, ev] 170))
  go_enter Tryz.func269, Tryz.ntmps269
  go_wp2_with fail
  go_ret
  exact ⟨rfl, HB.out⟩
theorem assertAs (v : Value) (w : World) : (Instr.typeAssert (.iface 170 v) 67 151 true).run Tryz.prog w = .ok (.tuple #[.nilIface, .bool false]) w := run_typeAssert_lacksB Tryz.underlying151 (by kernel_rfl) (by kernel_rfl) v 67 w
theorem assertUn (v : Value) (w : World) : (Instr.typeAssert (.iface 170 v) 67 154 true).run Tryz.prog w = .ok (.tuple #[.iface 170 v, .bool true]) w := by kernel_rfl
set_option maxHeartbeats 8000000 in
set_option maxRecDepth 100000 in
theorem as_in (ev : Value) (N tb : Nat) (va : Addr) (old : Value) (w : World) (he : ErN N ev) (hv : w.cell? va = some (.pointer (some ⟨tb, 0, none⟩))) (ht : w.heap[tb]? = some (.cells #[old] 86 (0, 0))) :
    Calls Tryz.prog 60 #[ev, .iface 88 (.pointer (some ⟨tb, 0, none⟩)), .agg #[.pointer (some ⟨9, 88, none⟩), .pointer (some va), .int .u64 150], .iface 146 (.agg #[.pointer (some ⟨9, 86, none⟩)])] w
      fun e w' => e = .returned (.bool true) ∧ w'.cell? ⟨tb, 0, none⟩ = some (.pointer (some ⟨N, 0, none⟩)) ∧ But tb w w' := by
  have h41 := @run_callFunc_extern Tryz.prog 57 _ (fun args => ReflectliteValue.unpack (args.getD 0 (.tuple #[]))) Tryz.func57 (by kernel_rfl) (by kernel_rfl) (by kernel_rfl) (by kernel_rfl)
  have h63 := @run_callFunc_extern Tryz.prog 92 _ ReflectliteType.typeOf Tryz.func92 (by kernel_rfl) (by kernel_rfl) (by kernel_rfl) (by kernel_rfl)
  have h152 := @run_callFunc_extern Tryz.prog 258 _ (ReflectliteType.relation "AssignableTo" ReflectliteType.assignableTo) Tryz.func258 (by kernel_rfl) (by kernel_rfl) (by kernel_rfl) (by kernel_rfl)
  have h64 := @run_callFunc_extern Tryz.prog 93 _ (ReflectliteValue.method (ReflectliteValue.valueError "reflectlite.Value.Elem" 0) ReflectliteValue.elem) Tryz.func93 (by kernel_rfl) (by kernel_rfl) (by kernel_rfl) (by kernel_rfl)
  have h65 := @run_callFunc_extern Tryz.prog 94 _ ReflectliteValue.set Tryz.func94 (by kernel_rfl) (by kernel_rfl) (by kernel_rfl) (by kernel_rfl)
  have tE := As.typeOfE
  have tI := As.typeOfI
  have mA := As.methodAssignableTo
  have mU := As.methodUnwrap
  have aE := As.assignableE
  have aI := As.assignableI
  have vE := As.valueOfE
  have xA := assertAs
  have xU := assertUn
  have HE := hid he
  have HV := hid hv
  have HTB := hid ht
  have HB := hid (belowA w (.cells #[.pointer (some ⟨9, 88, none⟩), .pointer (some va), .int .u64 150] 110))
  have HX := hid (heap_alloc_new w (.cells #[.pointer (some ⟨9, 88, none⟩), .pointer (some va), .int .u64 150] 110))
  have HUW := hid unwrap_any
  clear he hv ht
  go_enter Tryz.func60, Tryz.ntmps60
  go_wp2_with fail
  generalize w.alloc (.cells #[.pointer (some ⟨9, 88, none⟩), .pointer (some va), .int .u64 150] 110) = X at *
  go_loopw [0] (fun i wr => ErN N i ∧ Hid (Below X.heap.size X wr)) (fun i _ => SizeOf.sizeOf i)
  case atStart => exact ⟨HE.out, hid (Below.refl _ _)⟩
  case round =>
    obtain ⟨hn, HBW⟩ := hrel
    cases hn with
    | flt =>
      have HTR := hid ((HBW.out.block _ (Nat.lt_of_lt_of_le (lt_blk HTB.out) HB.out.size)).trans ((HB.out.block _ (lt_blk HTB.out)).trans HTB.out))
      have hx := HBW.out.block _ (lt_blk HX.out) |>.trans HX.out
      have c0 : wr.cell? ⟨w.heap.size, 0, none⟩ = some (.pointer (some ⟨9, 88, none⟩)) := cell_of_row _ _ 0 _ _ _ hx
      have c1 : wr.cell? ⟨w.heap.size, 1, none⟩ = some (.pointer (some va)) := cell_of_row _ _ 1 _ _ _ hx
      have c2 : wr.cell? ⟨w.heap.size, 2, none⟩ = some (.int .u64 150) := cell_of_row _ _ 2 _ _ _ hx
      clear hx
      have el := As.elemVP va ⟨tb, 0, none⟩ wr ((HBW.out.cell (Nat.lt_of_lt_of_le (lt_of_cell HV.out) HB.out.size)).trans ((HB.out.cell (lt_of_cell HV.out)).trans HV.out))
      have HB2 := hid (belowA wr (.cells #[.pointer (some ⟨N, 0, none⟩)] 86))
      have HX2 := hid (heap_alloc_new wr (.cells #[.pointer (some ⟨N, 0, none⟩)] 86))
      have HT2 := hid ((HB2.out.block _ (lt_blk HTR.out)).trans HTR.out)
      have st := As.setE ⟨tb, 0, none⟩ ⟨wr.heap.size, 0, none⟩ ⟨N, 0, none⟩ old (wr.alloc (.cells #[.pointer (some ⟨N, 0, none⟩)] 86)) (cell_of_row _ _ 0 _ _ _ HX2.out) (cell_of_row _ _ 0 _ _ _ HT2.out) (free_of_one HT2.out)
      go_wp2_with fail
      go_ret
      refine ⟨rfl, ?_, ?_⟩
      · exact cell_of_one (one_setCell HT2.out)
      · exact (But.of HB.out).trans (((But.of HBW.out).trans (But.of HB2.out)).trans ⟨rfl, rfl, rfl, by simp, fun b hb hg => Below.heap_setCell _ _ _ _ hg⟩)
    | ins t ev' hn =>
      obtain ⟨u, x, rfl⟩ := hn.ne
      have HN := hid hn
      clear hn
      go_wp2_with (go_at_call 269; refine (HUW.out t _ _).mono ?_; rintro e w1 ⟨rfl, l1⟩; have L1 := hid l1; clear l1)
      refine ⟨⟨HN.out, hid (HBW.out.trans (L1.out.mono HBW.out.size))⟩, ?_⟩
      simp
      omega
set_option maxHeartbeats 8000000 in
set_option maxRecDepth 100000 in
/-- errors.As of an error in which the fault of the block N is met. -/
theorem as_any (ev : Value) (N tb : Nat) (old : Value) (w : World) (he : ErN N ev) (hg : w.cell? ⟨0, 0, none⟩ = some (.iface 146 (.agg #[.pointer (some ⟨9, 67, none⟩)]))) (ht : w.heap[tb]? = some (.cells #[old] 86 (0, 0))) :
    Calls Tryz.prog 34 #[ev, .iface 88 (.pointer (some ⟨tb, 0, none⟩))] w
      fun e w' => e = .returned (.bool true) ∧ w'.cell? ⟨tb, 0, none⟩ = some (.pointer (some ⟨N, 0, none⟩)) ∧ But tb w w' := by
  have h41 := @run_callFunc_extern Tryz.prog 57 _ (fun args => ReflectliteValue.unpack (args.getD 0 (.tuple #[]))) Tryz.func57 (by kernel_rfl) (by kernel_rfl) (by kernel_rfl) (by kernel_rfl)
  have h42 := @run_callFunc_extern Tryz.prog 58 _ (ReflectliteValue.methodAny (ReflectliteValue.valueError "reflectlite.Value.Type" 0) (fun t _ _ _ => ReflectliteType.toType t)) Tryz.func58 (by kernel_rfl) (by kernel_rfl) (by kernel_rfl) (by kernel_rfl)
  have h43 := @run_callFunc_extern Tryz.prog 59 _ (ReflectliteValue.method (ReflectliteValue.valueError "reflectlite.Value.IsNil" 0) ReflectliteValue.isNil) Tryz.func59 (by kernel_rfl) (by kernel_rfl) (by kernel_rfl) (by kernel_rfl)
  have h140 := @run_callFunc_extern Tryz.prog 248 _ (ReflectliteType.abiMethod fun t => do pure (.int .u8 (← Rtype.kind t))) Tryz.func248 (by kernel_rfl) (by kernel_rfl) (by kernel_rfl) (by kernel_rfl)
  have h154 := @run_callFunc_extern Tryz.prog 260 _ (ReflectliteType.method ReflectliteType.elem) Tryz.func260 (by kernel_rfl) (by kernel_rfl) (by kernel_rfl) (by kernel_rfl)
  have h155 := @run_callFunc_extern Tryz.prog 261 _ (ReflectliteType.relation "Implements" ReflectliteType.implements_) Tryz.func261 (by kernel_rfl) (by kernel_rfl) (by kernel_rfl) (by kernel_rfl)
  have vP := As.valueOfP
  have tP := As.typeP
  have mK := As.methodKind
  have mE := As.methodElem
  have mI := As.methodImplements
  have kP := As.kindP
  have kE := As.kindE
  have eP := As.elemP
  have iE := As.implementsE
  have HB1 := hid (belowA w (.cells #[.pointer (some ⟨tb, 0, none⟩)] 88))
  have HX1 := hid (heap_alloc_new w (.cells #[.pointer (some ⟨tb, 0, none⟩)] 88))
  have HB2 := hid (belowA (w.alloc (.cells #[.pointer (some ⟨tb, 0, none⟩)] 88)) (.cells #[.pointer (some ⟨9, 88, none⟩), .pointer (some ⟨w.heap.size, 0, none⟩), .int .u64 150] 110))
  have n8 := As.isNilP ⟨w.heap.size, 0, none⟩ ⟨tb, 0, none⟩ ((w.alloc (.cells #[.pointer (some ⟨tb, 0, none⟩)] 88)).alloc (.cells #[.pointer (some ⟨9, 88, none⟩), .pointer (some ⟨w.heap.size, 0, none⟩), .int .u64 150] 110)) ((HB2.out.cell (by simp)).trans (cell_of_one HX1.out))
  have hlt := lt_of_cell hg
  have hg2 := (HB2.out.cell (p := ⟨0, 0, none⟩) (Nat.lt_of_lt_of_le hlt HB1.out.size)).trans ((HB1.out.cell hlt).trans hg)
  have HIN := hid (as_in ev N tb ⟨w.heap.size, 0, none⟩ old _ he ((HB2.out.cell (by simp)).trans (cell_of_one HX1.out)) ((HB2.out.block _ (Nat.lt_of_lt_of_le (lt_blk ht) HB1.out.size)).trans ((HB1.out.block _ (lt_blk ht)).trans ht)))
  obtain ⟨u, x, rfl⟩ := he.ne
  clear hlt he hg ht
  go_enter Tryz.func34, Tryz.ntmps34
  go_wp2_with (go_at_call 60; refine HIN.out.mono ?_; rintro e w1 ⟨rfl, hc, hb⟩; have HC := hid hc; have HB := hid hb; clear hc hb)
  go_ret
  exact ⟨rfl, HC.out, (But.of HB1.out).trans ((But.of HB2.out).trans HB.out)⟩
end Go.Proofs.YtimmjikpcekffaaGreatDoor.L
namespace Go.Proofs.YtimmjikpcekffaaGreatDoor.L
open Go.RowKit
set_option linter.unusedVariables false
/-- A side that moves. -/
def movB (s : Int) : Bool := s == 2 || s == 3
def selB (k : Int) : Bool := (k == 8 || k == 9) || k == 20
def eqtB (c : Int) : Bool := c == 1 || c == 2
/-- The sort of the sets of a sort. -/
def setO (s : Int) : Int := if s = 2 then 4 else if s = 3 then 5 else 0
def scpO (k s : Int) : Int := if selB k then 3 else s
theorem setof_any (s : Int) (w : World) : Calls Tryz.prog 128 #[.int .i64 s] w fun e w' => e = .returned (.int .i64 (setO s)) ∧ w' = w := by
  unfold setO
  by_cases a : s = 2
  · subst a
    go_enter Tryz.func128, Tryz.ntmps128
    go_wp2_with fail
    go_ret
    exact ⟨rfl, rfl⟩
  · by_cases b : s = 3
    · subst b
      go_enter Tryz.func128, Tryz.ntmps128
      go_wp2_with fail
      go_ret
      exact ⟨rfl, rfl⟩
    · rw [if_neg a, if_neg b]
      have a' : (s == 2) = false := by simp [a]
      have b' : (s == 3) = false := by simp [b]
      go_enter Tryz.func128, Tryz.ntmps128
      go_wp2_with fail
      go_ret
      exact ⟨rfl, rfl⟩
theorem moves_any (s : Int) (w : World) : Calls Tryz.prog 142 #[.int .i64 s] w fun e w' => e = .returned (.bool (movB s)) ∧ w' = w := by
  unfold movB
  cases a : (s == 2)
  · cases b : (s == 3)
    · go_enter Tryz.func142, Tryz.ntmps142
      go_wp2_with fail
      go_ret
      exact ⟨rfl, rfl⟩
    · go_enter Tryz.func142, Tryz.ntmps142
      go_wp2_with fail
      go_ret
      exact ⟨rfl, rfl⟩
  · go_enter Tryz.func142, Tryz.ntmps142
    go_wp2_with fail
    go_ret
    exact ⟨rfl, rfl⟩
theorem equates_any (s : Int) (w : World) : Calls Tryz.prog 138 #[.int .i64 s] w fun e w' => e = .returned (.bool (eqtB s)) ∧ w' = w := by
  unfold eqtB
  cases a : (s == 1)
  · cases b : (s == 2)
    · go_enter Tryz.func138, Tryz.ntmps138
      go_wp2_with fail
      go_ret
      exact ⟨rfl, rfl⟩
    · go_enter Tryz.func138, Tryz.ntmps138
      go_wp2_with fail
      go_ret
      exact ⟨rfl, rfl⟩
  · go_enter Tryz.func138, Tryz.ntmps138
    go_wp2_with fail
    go_ret
    exact ⟨rfl, rfl⟩
theorem selects_any (s : Int) (w : World) : Calls Tryz.prog 122 #[.int .i64 s] w fun e w' => e = .returned (.bool (selB s)) ∧ w' = w := by
  unfold selB
  cases a : (s == 8)
  · cases b : (s == 9)
    · cases c : (s == 20)
      · go_enter Tryz.func122, Tryz.ntmps122
        go_wp2_with fail
        go_ret
        exact ⟨rfl, rfl⟩
      · go_enter Tryz.func122, Tryz.ntmps122
        go_wp2_with fail
        go_ret
        exact ⟨rfl, rfl⟩
    · go_enter Tryz.func122, Tryz.ntmps122
      go_wp2_with fail
      go_ret
      exact ⟨rfl, rfl⟩
  · go_enter Tryz.func122, Tryz.ntmps122
    go_wp2_with fail
    go_ret
    exact ⟨rfl, rfl⟩
theorem scopein_any (k s : Int) (w : World) : Calls Tryz.prog 99 #[.int .i64 k, .int .i64 s] w fun e w' => e = .returned (.int .i64 (scpO k s)) ∧ w' = w := by
  have HS := hid (fun W => selects_any k W)
  unfold scpO
  cases a : selB k
  · rw [a] at HS
    clear a
    go_enter Tryz.func99, Tryz.ntmps99
    go_wp2_with (go_at_call 122; refine (HS.out _).mono ?_; rintro e w1 ⟨rfl, hww⟩; have hw2 := hww.symm; clear hww; subst hw2)
    go_ret
    exact ⟨rfl, rfl⟩
  · rw [a] at HS
    clear a
    go_enter Tryz.func99, Tryz.ntmps99
    go_wp2_with (go_at_call 122; refine (HS.out _).mono ?_; rintro e w1 ⟨rfl, hww⟩; have hw2 := hww.symm; clear hww; subst hw2)
    go_ret
    exact ⟨rfl, rfl⟩
end Go.Proofs.YtimmjikpcekffaaGreatDoor.L
namespace Go.Proofs.YtimmjikpcekffaaGreatDoor.L
open Go.RowKit
set_option linter.unusedVariables false
theorem bchS {w a b : World} (h1 : Below w.heap.size w a) (h2 : Below a.heap.size a b) : Below w.heap.size w b := h1.trans (h2.mono h1.size)
/-- Types in memory: of these n places each has its sort and its side. -/
def TyR (w : World) (gt n : Nat) (so si : Nat → Int) : Prop := gt < w.heap.size ∧ ∀ j, j < n → w.cell? ⟨gt, j * 2, none⟩ = some (.int .i64 (so j)) ∧ w.cell? ⟨gt, j * 2 + 1, none⟩ = some (.int .i64 (si j))
theorem TyR.low {w w' : World} {gt n : Nat} {so si : Nat → Int} (h : TyR w gt n so si) (hb : Below w.heap.size w w') : TyR w' gt n so si :=
  ⟨Nat.lt_of_lt_of_le h.1 hb.size, fun j hj => ⟨(hb.cell (p := ⟨gt, j * 2, none⟩) h.1).trans (h.2 j hj).1, (hb.cell (p := ⟨gt, j * 2 + 1, none⟩) h.1).trans (h.2 j hj).2⟩⟩
/-- The joined side of kids. -/
def jnO (si : Nat → Int) : List Int → Int → Int
  | [], a => a
  | x :: r, a => if movB (si x.toNat) then si x.toNat else jnO si r (if si x.toNat = 1 then 1 else a)
theorem cellsW {W : World} {N : Nat} {a b : Value} {ty : TypeId} (h : W.heap[N]? = some (.cells #[a, b] ty (0, 0))) : W.cell? ⟨N, 0, none⟩ = some a ∧ W.cell? ⟨N, 1, none⟩ = some b := ⟨cell_of_row _ _ 0 _ _ _ h, cell_of_row _ _ 1 _ _ _ h⟩
set_option maxHeartbeats 8000000 in
set_option maxRecDepth 100000 in
theorem joined_any (pv : Value) (gt n : Nat) (so si : Nat → Int) (ka : Option Addr) (ks : List Int) (kc : Nat) (w : World) (hy : TyR w gt n so si) (hk : RdI w ka ks) (hin : ∀ x, x ∈ ks → 0 ≤ x ∧ x < n) (hl : ks.length ≤ 1000) (hn : n ≤ 1000) (hp : ∃ a b c, pv = .slice a b c) :
    Calls Tryz.prog 129 #[.agg #[pv, .slice (some ⟨gt, 0, none⟩) n n], .slice ka ks.length kc] w fun e w' => e = .returned (.int .i64 (jnO si ks 0)) ∧ Below w.heap.size w w' := by
  obtain ⟨pa, pn, pc, rfl⟩ := hp
  obtain ⟨m, hm⟩ : ∃ m, m = ks.length := ⟨_, rfl⟩
  have HY := hid hy
  have HK := hid hk
  have HIN := hid hin
  have HM := hid hm
  have HMV := hid moves_any
  rw [← hm] at hl ⊢
  have HB := hid (belowA w (.cells #[.slice pa pn pc, .slice (some ⟨gt, 0, none⟩) n n] 125))
  have HX := hid (heap_alloc_new w (.cells #[.slice pa pn pc, .slice (some ⟨gt, 0, none⟩) n n] 125))
  clear hy hk hin hm
  go_enter Tryz.func129, Tryz.ntmps129
  go_upto_region 1 with (fail)
  have HYX := hid (HY.out.low HB.out)
  have HKX := hid (HK.out.low HB.out (Nat.le_refl _))
  generalize w.alloc (.cells #[.slice pa pn pc, .slice (some ⟨gt, 0, none⟩) n n] 125) = X at *
  go_wp2_with fail
  go_loopw [5, 11] (fun s i wr => ∃ (k : Nat) (a : Int), k ≤ m ∧ s = .int .i64 a ∧ i = .int .i64 (k : Int) ∧ wr = X ∧ Hid (jnO si (ks.drop k) a = jnO si ks 0)) (fun _ i _ => m - (intOf i).toNat)
  case atStart => exact ⟨0, 0, Nat.zero_le _, rfl, rfl, rfl, hid rfl⟩
  case round =>
    obtain ⟨k, a, hk, rfl, rfl, rfl, HJ⟩ := hrel
    by_cases hlt : k < m
    · rcases HKX.out with h0 | ⟨b1, o1, rfl, hb1, hc1⟩
      · have := HM.out; omega
      have hkn : k < ks.length := by rw [← HM.out]; exact hlt
      have p0 := hc1 k hkn
      have hmem : ks.getD k 0 ∈ ks := by rw [List.getD_eq_getElem?_getD, List.getElem?_eq_getElem hkn]; exact List.getElem_mem hkn
      have hx := HIN.out _ hmem
      obtain ⟨x, hxe⟩ : ∃ x : Nat, ks.getD k 0 = x := ⟨(ks.getD k 0).toNat, by omega⟩
      rw [hxe] at p0 hx
      have y1 := (HYX.out.2 x (by omega)).2
      have HD := hid (show ks.drop k = (x : Int) :: ks.drop (k + 1) by
        rw [List.drop_eq_getElem_cons hkn]
        have hz2 := hxe
        rw [List.getD_eq_getElem?_getD, List.getElem?_eq_getElem hkn] at hz2
        rw [← hz2]
        rfl)
      have ⟨x0, x1⟩ := cellsW HX.out
      have g1 : (k : Int) < (m : Int) := by omega
      have g2 : (0 : Int) ≤ (k : Int) := by omega
      have g3 : (x : Int) < (n : Int) := by omega
      have g4 : (0 : Int) ≤ (x : Int) := by omega
      obtain ⟨s, hs⟩ : ∃ s, s = si x := ⟨_, rfl⟩
      rw [← hs] at y1
      have HSE := hid hs
      have HJS := hid (show jnO si (ks.drop k) a = if movB s then s else jnO si (ks.drop (k + 1)) (if s = 1 then 1 else a) by rw [HD.out, jnO, Int.toNat_natCast, hs])
      have HK1 := hid (show k + 1 ≤ m by omega)
      clear hc1 hmem hx hxe hkn hs
      cases hmv : movB s
      · have HMVE := hid hmv
        rw [hmv] at HJS
        clear hmv
        by_cases h1 : s = 1
        · subst h1
          go_wp2_with (go_at_call 142; refine (HMV.out _ _).mono ?_; rw [HMVE.out]; rintro e w1 ⟨rfl, hww⟩; have hw2 := hww.symm; clear hww; subst hw2)
          refine ⟨⟨k + 1, 1, HK1.out, rfl, by go_num, trivial, hid (by rw [← HJ.out, HJS.out]; rfl)⟩, ?_⟩
          have h3 := HK1.out
          simp [intOf]
          omega
        · have h1' : (s == 1) = false := by simp [h1]
          have HJ2 := hid (show jnO si (ks.drop k) a = jnO si (ks.drop (k + 1)) a by rw [HJS.out]; simp [h1])
          go_wp2_with (go_at_call 142; refine (HMV.out _ _).mono ?_; rw [HMVE.out]; rintro e w1 ⟨rfl, hww⟩; have hw2 := hww.symm; clear hww; subst hw2)
          refine ⟨⟨k + 1, a, HK1.out, rfl, by go_num, trivial, hid (by rw [← HJ.out, HJ2.out])⟩, ?_⟩
          have h3 := HK1.out
          simp [intOf]
          omega
      · have HMVE := hid hmv
        rw [hmv] at HJS
        clear hmv
        go_wp2_with (go_at_call 142; refine (HMV.out _ _).mono ?_; rw [HMVE.out]; rintro e w1 ⟨rfl, hww⟩; have hw2 := hww.symm; clear hww; subst hw2)
        go_ret
        refine ⟨?_, HB.out⟩
        rw [← HJ.out, HJS.out]
        rfl
    · obtain rfl : k = m := by omega
      have HJ3 := hid (show a = jnO si ks 0 by rw [← HJ.out, HM.out, List.drop_length]; rfl)
      go_wp2_with fail
      go_ret
      refine ⟨?_, HB.out⟩
      rw [← HJ3.out]
      rfl
end Go.Proofs.YtimmjikpcekffaaGreatDoor.L
