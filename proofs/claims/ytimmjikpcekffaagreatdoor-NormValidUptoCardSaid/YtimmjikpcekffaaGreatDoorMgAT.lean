import Derived.Test.YtimmjikpcekffaaGreatDoorMgAG
import Derived.Test.YtimmjikpcekffaaGreatDoorMgAS
import Derived.Test.YtimmjikpcekffaaGreatDoorMgAA
import Derived.LaidEql
import Derived.Stop.Asserts
import Derived.RowKitTokens
import Derived.Test.YtimmjikpcekffaaGreatDoorMgAN
import Derived.Laws.OwnMore
import Derived.Laws.MakeOwn
import Derived.Deep.CutRange
namespace Go.Proofs.YtimmjikpcekffaaGreatDoor.L
open Go.RowKit
set_option linter.unusedVariables false
set_option linter.unusedSimpArgs false
theorem bare_is (pn : Bool) (l : Ltr) : BareP pn l.kd l.tk l.ts l.ty l.tl l.rl l.nu none l.tx.length 0 none l.nm.length 0 l.ok l.os l.oy l.ol l.of l.ky l.sl ↔ (pn = false ∧ RZq l) := by
  unfold BareP RZq RZeP RestP Same
  rw [em_is]
  simp
  intro _
  constructor
  · intro h
    simp_all
  · intro h
    simp_all
theorem part_is (pods : Bool) (ns : Int) (p : Pp) (m : Nat) (hm : p.ks.length ≤ m) : PartQ (mvO pods) ns p ↔ RPq pods ns p m := by
  unfold PartQ PartP RPq
  simp only [bare_is, lit_is, rlq]
  generalize hR : RLq pods ns p.l = R
  generalize hZ : RZq p.l = Z
  clear hR hZ
  generalize p.ks.length = n at *
  generalize p.pn = pn at *
  by_cases h1 : p.pk = 1
  · rw [h1]
    simp
    constructor
    · rintro ⟨a, b⟩; exact ⟨by omega, by omega, a, b⟩
    · rintro ⟨_, _, a, b⟩; exact ⟨a, b⟩
  by_cases h2 : p.pk = 2
  · rw [h2]
    simp
    constructor
    · rintro ⟨a, b⟩; exact ⟨by omega, by omega, a, b⟩
    · rintro ⟨_, _, a, b⟩; exact ⟨a, b⟩
  by_cases h3 : p.pk = 3
  · rw [h3]
    simp
    constructor
    · rintro ⟨a, b⟩; exact ⟨by omega, by omega, b⟩
    · rintro ⟨_, a, b⟩; exact ⟨by omega, b⟩
  by_cases h4 : p.pk = 4
  · rw [h4]
    simp
    constructor
    · rintro ⟨a, b⟩; exact ⟨by omega, by omega, b⟩
    · rintro ⟨_, a, b⟩; exact ⟨by omega, b⟩
  by_cases h5 : p.pk = 5
  · rw [h5]
    simp
    constructor
    · rintro ⟨a, b⟩; exact ⟨by omega, by omega, a, b⟩
    · rintro ⟨_, _, a, b⟩; exact ⟨a, b⟩
  · simp [h1, h2, h3, h4, h5]
    omega
theorem tk_is (pods : Bool) (ns : Int) (T : List Pp) : TkP (mvO pods) ns T ↔ RTkP pods ns T := by
  unfold TkP RTkP
  constructor
  · rintro ⟨h1, h2⟩
    refine ⟨fun j hj => ?_, h2⟩
    obtain ⟨a, b, c⟩ := h1 j hj
    exact ⟨(part_is pods ns _ _ a).1 c, b⟩
  · rintro ⟨h1, h2⟩
    refine ⟨fun j hj => ?_, h2⟩
    obtain ⟨a, b⟩ := h1 j hj
    exact ⟨a.2.2.1, b, (part_is pods ns _ _ a.2.2.1).2 a⟩
theorem va_is (M : List Pp) (S : List (List Pp)) : VaP M S ↔ RVaP M S := by
  have e2 := fun ns T => tk_is false ns T
  have e3 := fun ns T => tk_is true ns T
  simp only [mvO, Bool.false_eq_true, if_false, if_true] at e2 e3
  unfold VaP RVaP RFoP NoP PoP
  simp only [e2, e3]
  constructor
  · rintro ⟨h1, ⟨h2, h3⟩ | ⟨h2, h3⟩⟩
    · exact Or.inl ⟨h1, fun h => (by cases h), h3, h2⟩
    · exact Or.inr ⟨h1, fun _ => h2, by rw [h2]; exact h3, fun j hj => absurd hj (by omega)⟩
  · rintro (⟨h1, _, h3, h2⟩ | ⟨h1, h2, h3, _⟩)
    · exact ⟨h1, Or.inl ⟨h2, h3⟩⟩
    · have h4 := h2 (by first | rfl | trivial)
      rw [h4] at h3
      exact ⟨h1, Or.inr ⟨h4, h3⟩⟩
end Go.Proofs.YtimmjikpcekffaaGreatDoor.L
namespace Go.Proofs.YtimmjikpcekffaaGreatDoor.L
open Go.RowKit Go.Extern.Stop Go.Stop Go.Extern
set_option linter.unusedVariables false
/-- The error is the fault in the block N, or that within parts. -/
inductive ErN (N : Nat) : Value → Prop
  | flt : ErN N (.iface 86 (.pointer (some ⟨N, 0, none⟩)))
  | ins (t : Int) (ev : Value) : ErN N ev → ErN N (.iface 170 (.agg #[.int .i64 t, ev]))
theorem ErN.ne {N : Nat} {ev : Value} (h : ErN N ev) : ∃ u x, ev = .iface u x := by
  cases h with
  | flt => exact ⟨_, _, rfl⟩
  | ins t ev => exact ⟨_, _, rfl⟩
theorem as_nil (t : Value) (w : World) :
    Calls Tryz.prog 34 #[.nilIface, t] w fun e w' => e = .returned (.bool false) ∧ w' = w := by
  go_enter Tryz.func34, Tryz.ntmps34
  go_wp2
  go_ret
  exact ⟨rfl, rfl⟩
namespace As
theorem valueOfP (t : Addr) (w : World) : (ReflectliteValue.unpack (.iface 88 (.pointer (some t)))).run Tryz.prog w
    = .ok (.agg #[.pointer (some ⟨9, 88, none⟩), .pointer (some ⟨w.heap.size, 0, none⟩), .int .u64 150]) (w.alloc (.cells #[.pointer (some t)] 88)) := by kernel_rfl
theorem typeP (a : Addr) (w : World) : (ReflectliteValue.methodAny (ReflectliteValue.valueError "reflectlite.Value.Type" 0) (fun t _ _ _ => ReflectliteType.toType t) #[.agg #[.pointer (some ⟨9, 88, none⟩), .pointer (some a), .int .u64 150]]).run Tryz.prog w
    = .ok (.iface 146 (.agg #[.pointer (some ⟨9, 88, none⟩)])) w := by kernel_rfl
theorem methodKind (h : Value) (w : World) : (Go.method 301 146 (.agg #[h]) "Kind").run Tryz.prog w = .ok (248, h) w := by kernel_rfl
theorem kindP (w : World) : ((ReflectliteType.abiMethod fun t => (fun a : Nat => Value.int IntKind.u8 (a : Int)) <$> Rtype.kind t) #[.pointer (some ⟨9, 88, none⟩)]).run Tryz.prog w = .ok (.int .u8 22) w := by kernel_rfl
theorem kindE (w : World) : ((ReflectliteType.abiMethod fun t => (fun a : Nat => Value.int IntKind.u8 (a : Int)) <$> Rtype.kind t) #[.pointer (some ⟨9, 86, none⟩)]).run Tryz.prog w = .ok (.int .u8 22) w := by kernel_rfl
theorem rlm (z : Sem Value) (f : TypeId → Addr → Nat → Nat → Sem Value) (v : Value) :
    ReflectliteValue.method z f #[v] = (do match ← ReflectliteValue.parts v with | none => z | some (t, a, fl) => f t a fl (fl % 32)) := rfl
theorem partsP (a : Addr) (w : World) : (ReflectliteValue.parts (.agg #[.pointer (some ⟨9, 88, none⟩), .pointer (some a), .int .u64 150])).run Tryz.prog w = .ok (some (88, a, 150)) w := by kernel_rfl
theorem isNilP (a p : Addr) (W : World) (ha : W.cell? a = some (.pointer (some p))) :
    (ReflectliteValue.method (ReflectliteValue.valueError "reflectlite.Value.IsNil" 0) ReflectliteValue.isNil #[.agg #[.pointer (some ⟨9, 88, none⟩), .pointer (some a), .int .u64 150]]).run Tryz.prog W = .ok (.bool false) W := by
  rw [rlm]
  simp only [Sem.run_bind, partsP, Result.andThen]
  simp [ReflectliteValue.isNil, loadVar, isAgg, underlying, Tryz.underlying88, ha, Result.andThen]
theorem methodElem (h : Value) (w : World) : (Go.method 301 146 (.agg #[h]) "Elem").run Tryz.prog w = .ok (260, .agg #[h]) w := by kernel_rfl
theorem methodImplements (h : Value) (w : World) : (Go.method 301 146 (.agg #[h]) "Implements").run Tryz.prog w = .ok (261, .agg #[h]) w := by kernel_rfl
theorem methodAssignableTo (h : Value) (w : World) : (Go.method 301 146 (.agg #[h]) "AssignableTo").run Tryz.prog w = .ok (258, .agg #[h]) w := by kernel_rfl
theorem methodUnwrap (h : Value) (w : World) : (Go.method 301 170 h "Unwrap").run Tryz.prog w = .ok (269, h) w := by kernel_rfl
theorem elemP (w : World) : (ReflectliteType.method ReflectliteType.elem #[.agg #[.pointer (some ⟨9, 88, none⟩)]]).run Tryz.prog w = .ok (.iface 146 (.agg #[.pointer (some ⟨9, 86, none⟩)])) w := by kernel_rfl
theorem implementsE (w : World) : (ReflectliteType.relation "Implements" ReflectliteType.implements_ #[.agg #[.pointer (some ⟨9, 86, none⟩)], .iface 146 (.agg #[.pointer (some ⟨9, 67, none⟩)])]).run Tryz.prog w = .ok (.bool true) w := by kernel_rfl
theorem typeOfE (v : Value) (w : World) : (ReflectliteType.typeOf #[.iface 86 v]).run Tryz.prog w = .ok (.iface 146 (.agg #[.pointer (some ⟨9, 86, none⟩)])) w := by kernel_rfl
theorem typeOfI (v : Value) (w : World) : (ReflectliteType.typeOf #[.iface 170 v]).run Tryz.prog w = .ok (.iface 146 (.agg #[.pointer (some ⟨9, 170, none⟩)])) w := by kernel_rfl
theorem assignableE (w : World) : (ReflectliteType.relation "AssignableTo" ReflectliteType.assignableTo #[.agg #[.pointer (some ⟨9, 86, none⟩)], .iface 146 (.agg #[.pointer (some ⟨9, 86, none⟩)])]).run Tryz.prog w = .ok (.bool true) w := by kernel_rfl
theorem assignableI (w : World) : (ReflectliteType.relation "AssignableTo" ReflectliteType.assignableTo #[.agg #[.pointer (some ⟨9, 170, none⟩)], .iface 146 (.agg #[.pointer (some ⟨9, 86, none⟩)])]).run Tryz.prog w = .ok (.bool false) w := by kernel_rfl
theorem valueOfE (e : Addr) (w : World) : (ReflectliteValue.unpack (.iface 86 (.pointer (some e)))).run Tryz.prog w
    = .ok (.agg #[.pointer (some ⟨9, 86, none⟩), .pointer (some ⟨w.heap.size, 0, none⟩), .int .u64 150]) (w.alloc (.cells #[.pointer (some e)] 86)) := by kernel_rfl
theorem elemOfP (w : World) : (Rtype.elem? 88).run Tryz.prog w = .ok (some 86) w := by kernel_rfl
theorem mkE (p : Addr) (w : World) : (ReflectliteValue.mk 86 p ReflectliteValue.flagAddr).run Tryz.prog w = .ok (.agg #[.pointer (some ⟨9, 86, none⟩), .pointer (some p), .int .u64 406]) w := by kernel_rfl
theorem elemVP (a p : Addr) (W : World) (ha : W.cell? a = some (.pointer (some p))) :
    (ReflectliteValue.method (ReflectliteValue.valueError "reflectlite.Value.Elem" 0) ReflectliteValue.elem #[.agg #[.pointer (some ⟨9, 88, none⟩), .pointer (some a), .int .u64 150]]).run Tryz.prog W
      = .ok (.agg #[.pointer (some ⟨9, 86, none⟩), .pointer (some p), .int .u64 406]) W := by
  rw [rlm]
  simp only [Sem.run_bind, partsP, Result.andThen]
  simp [ReflectliteValue.elem, loadVar, isAgg, underlying, Tryz.underlying88, ha, Result.andThen, elemOfP, mkE]
theorem partsEa (a : Addr) (w : World) : (ReflectliteValue.parts (.agg #[.pointer (some ⟨9, 86, none⟩), .pointer (some a), .int .u64 406])).run Tryz.prog w = .ok (some (86, a, 406)) w := by kernel_rfl
theorem partsE (a : Addr) (w : World) : (ReflectliteValue.parts (.agg #[.pointer (some ⟨9, 86, none⟩), .pointer (some a), .int .u64 150])).run Tryz.prog w = .ok (some (86, a, 150)) w := by kernel_rfl
theorem directE (w : World) : (Rtype.directlyAssignable 86 86).run Tryz.prog w = .ok true w := by kernel_rfl
theorem sizeE (w : World) : (sizeOf 86).run Tryz.prog w = .ok 1 w := by kernel_rfl
theorem setE (ta b e : Addr) (old : Value) (W : World) (hb : W.cell? b = some (.pointer (some e))) (ht : W.cell? ta = some old) (hf : W.frozen? ta = false) :
    (ReflectliteValue.set #[.agg #[.pointer (some ⟨9, 86, none⟩), .pointer (some ta), .int .u64 406], .agg #[.pointer (some ⟨9, 86, none⟩), .pointer (some b), .int .u64 150]]).run Tryz.prog W
      = .ok (.tuple #[]) (W.setCell ta (.pointer (some e))) := by
  have e1 : ∀ v x : Value, ReflectliteValue.set #[v, x] = bind (ReflectliteValue.parts v) (fun p => bind (ReflectliteValue.parts x) _) := fun v x => rfl
  rw [e1]
  simp only [Sem.run_bind, partsEa, partsE, Result.andThen]
  simp [ReflectliteValue.flagAddr, loadVar, isAgg, underlying, Tryz.underlying86, hb, Result.andThen, directE, storeVar, Value.cells, storeCells, Addr.add]
  rw [run_store Tryz.prog W ta _ _ (by rfl)]
  simp [ht, hf]
end As
end Go.Proofs.YtimmjikpcekffaaGreatDoor.L
namespace Go.Proofs.YtimmjikpcekffaaGreatDoor.L
open Go.RowKit
set_option linter.unusedVariables false
theorem own_set {W : World} {base g L cap : Nat} {zs : List Int} (h : OwnI W base (.slice (some ⟨g, 0, none⟩) L cap) zs) (hL : L = zs.length) (x : Nat) (v : Int) :
    OwnI (W.setCell ⟨g, x, none⟩ (.int .i64 v)) base (.slice (some ⟨g, 0, none⟩) L cap) (zs.set x v) ∧ W.grownBy (W.setCell ⟨g, x, none⟩ (.int .i64 v)) (some g) := by
  subst hL
  have := World.ownsRow.stored h x (.int .i64 v)
  refine ⟨?_, this.2⟩
  unfold OwnI
  rw [List.length_set, List.map_set]
  exact this.1
theorem own_cell {W : World} {base g L cap : Nat} {zs : List Int} (h : OwnI W base (.slice (some ⟨g, 0, none⟩) L cap) zs) (hL : L = zs.length) (j : Nat) (hj : j < L) : W.cell? ⟨g, j, none⟩ = some (.int .i64 (zs.getD j 0)) ∧ W.frozen? ⟨g, j, none⟩ = false := by
  subst hL
  refine ⟨?_, World.ownsRow.frozenAt h j⟩
  rw [World.ownsRow.cellAt h j (by omega), List.getElem?_map, List.getElem?_eq_getElem hj, List.getD_eq_getElem?_getD, List.getElem?_eq_getElem hj]
  rfl
theorem make_ints (n : Nat) (hn : n ≤ 1000) (w : World) : (Instr.makeSlice 29 (.int .i64 (n : Int)) (.int .i64 (n : Int))).run Tryz.prog w = .ok (.slice (some ⟨w.heap.size, 0, none⟩) n n) (w.alloc (.cells (madeCells #[.int .i64 0] n) 3)) := by
  obtain ⟨i, hi, hz, hs, hb⟩ := info_parts info3
  have h := run_makeSlice (P := Tryz.prog) w 29 3 i (.int .i64 0) Tryz.underlying29 hi hz .i64 .i64 n n (by omega) (by omega) (by rw [hs]; omega) (by rw [hb]; omega) (by omega)
  rw [hs] at h
  simpa [Value.cells] using h
theorem own_made (w : World) (n base : Nat) (hn : n ≤ 1000) (hb : base ≤ w.heap.size) : OwnI (w.alloc (.cells (madeCells #[.int .i64 0] n) 3)) base (.slice (some ⟨w.heap.size, 0, none⟩) n n) (List.replicate n 0) := by
  have h := World.ownsRow_lit (base := base) (e := 3) (size := 1) w (madeCells #[.int .i64 0] n) n hb (by unfold maxLen; omega) (by rw [size_madeCells]; simp)
  unfold OwnI
  rw [List.length_replicate, List.map_replicate, ← toList_madeCells_one]
  exact h
theorem opB_eq (k : Int) : opB k = (k == 3 || k == 8 || k == 9 || k == 20 || k == 19) := by
  unfold opB
  rw [Bool.eq_iff_iff]
  split <;> simp_all <;> omega
theorem own_mono {W : World} {base base' : Nat} {v : Value} {zs : List Int} (h : OwnI W base v zs) (hb : base' ≤ base) : OwnI W base' v zs := by
  refine ⟨h.1, ?_⟩
  rcases h.2 with e | ⟨g, cap, cur, e, hg, r⟩
  · exact .inl e
  · exact .inr ⟨g, cap, cur, e, Nat.le_trans hb hg, r⟩
theorem inn_cons (T : List Pt) (i : Nat) (x : Int) (ks n : List Int) : inn T i (x :: ks) n = inn T i ks (n.set x.toNat (n.getD i 0 + btw (pt T i).kind (pt T x.toNat).kind)) := rfl
end Go.Proofs.YtimmjikpcekffaaGreatDoor.L
namespace Go.Proofs.YtimmjikpcekffaaGreatDoor.L
open Go.RowKit
set_option linter.unusedVariables false
theorem inn_sm {T : List Pt} {L i : Nat} : ∀ (ks n : List Int), (∀ x, x ∈ ks → 0 ≤ x ∧ x < i) → i < n.length → Sm L n → Sm L (inn T i ks n)
  | [], n, _, _, h => h
  | x :: ks, n, hx, hi, h => by
    rw [inn_cons]
    have h0 := hx x (List.mem_cons_self ..)
    have hb := btw_le (pt T i).kind (pt T x.toNat).kind
    have hi0 := h i hi
    exact inn_sm ks _ (fun y hy => hx y (List.mem_cons_of_mem _ hy)) (by rw [List.length_set]; exact hi) (h.set hi (by omega) (by omega))
theorem nsts_sm {T : List Pt} {L : Nat} : ∀ (i : Nat) (n : List Int), i ≤ n.length → (∀ j, j < i → OkA T j) → Sm L n → Sm L (nsts T i n)
  | 0, n, _, _, h => h
  | i + 1, n, hi, hok, h => by
    rw [nsts]
    exact nsts_sm i _ (by rw [inn_len]; omega) (fun j hj => hok j (by omega)) (inn_sm _ _ (fun x hx => (hok i (by omega)).lt hx) (by omega) h)
theorem nests_sm {T : List Pt} (hok : Ok0 T) : Sm T.length (nests T) := by
  unfold nests
  refine nsts_sm _ _ (by simp) hok (fun j hj => ?_)
  have : (List.replicate T.length (0 : Int)).getD j 0 = 0 := by
    rw [List.getD_eq_getElem?_getD]
    by_cases h : j < T.length
    · simp [h]
    · simp [h]
  rw [this]
  rw [List.length_replicate] at hj
  omega
/-- The greatest nest. -/
def NestR (T : List Pt) (v : Int) : Prop := (∀ j, j < T.length → (nests T).getD j 0 ≤ v) ∧ ∃ j, j < T.length ∧ (nests T).getD j 0 = v
theorem NestR.one {T : List Pt} {u v : Int} (h : NestR T u) (k : NestR T v) : u = v := by
  obtain ⟨h1, i, hi, rfl⟩ := h
  obtain ⟨k1, j, hj, rfl⟩ := k
  have a := h1 j hj
  have b := k1 i hi
  omega
theorem FrmR.res {T : List Pt} {c i : Int} (h : FrmR T c i) (h0 : c ≠ 0) : ∃ a : Nat, c = 130 ∧ i = a ∧ Res T 130 a := by
  rcases h with ⟨h1, rfl, rfl⟩ | ⟨h1, rfl, rfl⟩ | ⟨h1, h2, ⟨j, rfl, hb, rfl⟩ | ⟨ho, hl, rfl, rfl⟩ | ⟨ho, hl, rfl, rfl⟩⟩
  · exact ⟨0, rfl, rfl, .inl ⟨h1, rfl, rfl⟩⟩
  · exact ⟨1000, rfl, rfl, .inr (.inl ⟨h1, rfl, rfl⟩)⟩
  · exact ⟨j, rfl, rfl, .inr (.inr ⟨h1, h2, .inl ⟨hb, rfl⟩⟩)⟩
  · exact ⟨T.length - 1, rfl, rfl, .inr (.inr ⟨h1, h2, .inr (.inl ⟨ho, hl, rfl, rfl⟩)⟩)⟩
  · exact absurd rfl h0
theorem FrmR.ok {T : List Pt} {i : Int} (h : FrmR T 0 i) : 1 ≤ T.length ∧ T.length ≤ 1000 ∧ Ok0 T ∧ ¬ Lst T := by
  rcases h with ⟨h1, e, _⟩ | ⟨h1, e, _⟩ | ⟨h1, h2, ⟨j, _, hb, e⟩ | ⟨ho, hl, e, _⟩ | ⟨ho, hl, _, _⟩⟩
  · cases e
  · cases e
  · cases e
  · cases e
  · exact ⟨h1, h2, ho, hl⟩
theorem Res.ok {T : List Pt} {i : Nat} (h : Res T 0 i) : 1 ≤ T.length ∧ T.length ≤ 1000 ∧ Ok0 T ∧ i = 0 := by
  rcases h with ⟨_, e, _⟩ | ⟨_, e, _⟩ | ⟨h1, h2, ⟨_, e⟩ | ⟨_, _, e, _⟩ | ⟨ho, _, ⟨_, e⟩ | ⟨_, _, e⟩⟩⟩
  · cases e
  · cases e
  · cases e
  · cases e
  · cases e
  · exact ⟨h1, h2, ho, e⟩
end Go.Proofs.YtimmjikpcekffaaGreatDoor.L
